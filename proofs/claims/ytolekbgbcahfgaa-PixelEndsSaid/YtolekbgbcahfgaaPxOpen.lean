/-
  What arguments give: rows of numbers with 32 bits, of ints, four ints by value.
-/
import Derived.Test.YtolekbgbcahfgaaRows
import Derived.Test.YtolekbgbcahfgaaPxF
import Derived.ProofKit
import Derived.OpenShut
import Derived.ChangeOld
import Derived.Carry
import Derived.Below
import Derived.Laws.IdiomArrays
namespace Go.Proofs.Ytolekbgbcahfgaa
open Go.RowKit Go.ChangeShapes Go.WideShapes Go.ChangeAt pxm

theorem own : ownKnob Try.prog.godebug = none := by kernel_rfl
theorem laidOut : laidOutB Try.prog = true := by kernel_rfl
theorem add_none (b off j : Nat) : (⟨b, off, none⟩ : Addr).add j = ⟨b, off + j, none⟩ := by unfold Addr.add; split <;> simp_all
/-- An argument's slice of numbers is a row. -/
theorem ints_row {k : IntKind} {w : World} {x : Addr} {zs : List Int} {n : Nat} (hn : n ≤ zs.length) (hcell : ∀ i, i < zs.length → w.cell? (x.add i) = some (.int k (zs.getD i 0))) :
    Row (fun z => Value.int k z) w (some x) (zs.take n) := fun hn' => by
  rw [List.length_take] at hn'
  obtain ⟨b, off, spot⟩ := x
  have h0 := hcell 0 (by omega)
  have hspot : spot = none := by simpa [Addr.add] using World.cell?_spot h0
  subst hspot
  refine ⟨b, off, rfl, fun j hj => ?_⟩
  rw [List.length_take] at hj
  have hc := hcell j (by omega)
  rw [add_none] at hc
  rw [hc, List.getElem_take]
  simp [List.getD, show j < zs.length from by omega]
theorem Row.nat {k : IntKind} {w : World} {A : Option Addr} {zs : List Int} (h : Row (fun z => Value.int k z) w A zs) (hz : ∀ z ∈ zs, 0 ≤ z) : Row (fun z : Nat => Value.int k (z : Nat)) w A (zs.map Int.toNat) := fun hn => by
  rw [List.length_map] at hn
  obtain ⟨b, off, e, hc⟩ := h hn
  refine ⟨b, off, e, fun j hj => ?_⟩
  rw [List.length_map] at hj
  rw [hc j hj, List.getElem_map]
  have := hz zs[j] (List.getElem_mem hj)
  congr 2
  omega
structure A4 where
  a : Int
  b : Int
  c : Int
  d : Int
def A4.v (x : A4) : Value := .agg #[.int .i64 x.a, .int .i64 x.b, .int .i64 x.c, .int .i64 x.d]
section
variable {H : Type} {enc : TypeId × Value → H} {w : World} {base : Nat} {held : Bool} {a : Option Addr} {n c : Nat} {d : DataW H} {p : List MemPlace}
/-- a []uint32 -/
theorem u32s_of (h : DataW.Trod enc Try.prog w base (fun _ => true) held 37 (.slice a n c) d p) : ∃ l : List Nat, n = l.length ∧ Row eW w a l ∧ n ≤ c ∧ c ≤ maxLen ∧ ∀ z ∈ l, z < 4294967296 := by
  obtain ⟨fuel, hf⟩ := h
  rcases open_ints Try.underlying37 Try.underlying23 (by kernel_rfl) hf with ⟨hcs, _⟩ | ⟨x, l, c', zs, hcs, _, hl, hm, hz, _, hcell, hwz⟩
  · simp [Value.cells] at hcs
    obtain ⟨rfl, rfl, rfl⟩ := hcs
    exact ⟨[], rfl, Row.none_ rfl, Nat.le_refl _, by unfold maxLen; omega, fun z hz => by cases hz⟩
  · simp [Value.cells] at hcs
    obtain ⟨rfl, rfl, rfl⟩ := hcs
    have hzl : zs.length = c := by simpa using hz
    have hb : ∀ z ∈ zs, 0 ≤ z ∧ z ≤ 4294967295 := fun z hz => bounds_u32 (hwz z hz)
    refine ⟨(zs.take n).map Int.toNat, by simp; omega, (ints_row (by omega) hcell).nat (fun z hz => (hb z (List.mem_of_mem_take hz)).1), hl, hm, fun z hz => ?_⟩
    simp only [List.mem_map] at hz
    obtain ⟨y, hy, rfl⟩ := hz
    have := hb y (List.mem_of_mem_take hy)
    omega
/-- a []int -/
theorem ints_of (h : DataW.Trod enc Try.prog w base (fun _ => true) held 43 (.slice a n c) d p) : ∃ l : List Int, n = l.length ∧ Row eI w a l ∧ n ≤ c ∧ c ≤ maxLen ∧ ∀ z ∈ l, I64 z := by
  obtain ⟨fuel, hf⟩ := h
  rcases open_ints Try.underlying43 Try.underlying3 (by kernel_rfl) hf with ⟨hcs, _⟩ | ⟨x, l, c', zs, hcs, _, hl, hm, hz, _, hcell, hwz⟩
  · simp [Value.cells] at hcs
    obtain ⟨rfl, rfl, rfl⟩ := hcs
    exact ⟨[], rfl, Row.none_ rfl, Nat.le_refl _, by unfold maxLen; omega, fun z hz => by cases hz⟩
  · simp [Value.cells] at hcs
    obtain ⟨rfl, rfl, rfl⟩ := hcs
    have hzl : zs.length = c := by simpa using hz
    exact ⟨zs.take n, by simp; omega, ints_row (by omega) hcell, hl, hm, fun z hz => bounds_i64 (hwz z (List.mem_of_mem_take hz))⟩
end
section
variable {H : Type} {enc : TypeId × Value → H} {w : World} {base b0 : Nat} {held : Bool} {r : Reach} {v : Value} {d : DataW H} {p : List MemPlace}
/-- four ints by value -/
theorem arr4_of (hv : Value.okWide Try.prog w r b0 22 v) (h : DataW.Trod enc Try.prog w base (fun _ => true) held 22 v d p) : ∃ x : A4, v = x.v := by
  obtain ⟨cs, rfl, hsz, _⟩ : ∃ cs, v = .agg cs ∧ cs.size = Try.prog.cellsOf 22 ∧ Row.okWide Try.prog w r b0 22 cs := by
    simpa [Value.okWide, Try.underlying22] using hv
  obtain ⟨fuel, hf⟩ := h
  have hl : cs.toList.length = 4 := by rw [Array.length_toList, hsz]; kernel_rfl
  obtain ⟨l⟩ := cs
  obtain ⟨c0, c1, c2, c3, rfl⟩ : ∃ c0 c1 c2 c3, l = [c0, c1, c2, c3] := by
    match l, hl with
    | [c0, c1, c2, c3], _ => exact ⟨_, _, _, _, rfl⟩
  obtain ⟨y0, y1, y2, y3, m, hx, hy0, hy1, hy2, hy3⟩ := trod_array4 Try.underlying22 (by kernel_rfl) hf
  obtain ⟨x0, e0, -, -⟩ := DataW.trod_int Try.underlying3 hy0
  obtain ⟨x1, e1, -, -⟩ := DataW.trod_int Try.underlying3 hy1
  obtain ⟨x2, e2, -, -⟩ := DataW.trod_int Try.underlying3 hy2
  obtain ⟨x3, e3, -, -⟩ := DataW.trod_int Try.underlying3 hy3
  obtain rfl := List.singleton_inj.1 e0
  obtain rfl := List.singleton_inj.1 e1
  obtain rfl := List.singleton_inj.1 e2
  obtain rfl := List.singleton_inj.1 e3
  exact ⟨⟨x0, x1, x2, x3⟩, rfl⟩
end
end Go.Proofs.Ytolekbgbcahfgaa
