/-
  What arguments give: parts, rows of numbers, of bools.
-/
import Derived.Test.YtbopijlacdkpeaaRows
import Derived.Test.YtbopijlacdkpeaaCoL
import Derived.ProofKit
import Derived.OpenShut
import Derived.ChangeOld
import Derived.Carry
import Derived.Below
import Derived.Deep.Grids
namespace Go.Proofs.Ytbopijlacdkpeaa
open Go.RowKit Go.ChangeShapes Go.WideShapes Go.ChangeAt Go.Deep

theorem own : ownKnob Try.prog.godebug = none := by kernel_rfl
theorem laidOut : laidOutB Try.prog = true := by kernel_rfl

theorem add_none (b off j : Nat) : (⟨b, off, none⟩ : Addr).add j = ⟨b, off + j, none⟩ := by unfold Addr.add; split <;> simp_all

/-- An argument's slice of numbers is a row. -/
theorem ints_row {k : IntKind} {w : World} {x : Addr} {zs : List Int} {n : Nat} (hn : n ≤ zs.length) (hcell : ∀ i, i < zs.length → w.cell? (x.add i) = some (.int k (zs.getD i 0))) :
    Row (fun z => Value.int k z) w (some x) (zs.take n) := fun hn' => by
  rw [List.length_take] at hn'
  obtain ⟨b, off, spot⟩ := x
  have h0 := hcell 0 (by omega)
  have hspot : spot = none := by simpa [Addr.add] using World.cell?_spot h0
  subst hspot
  refine ⟨b, off, rfl, fun j hj => ?_⟩
  rw [List.length_take] at hj
  have hc := hcell j (by omega)
  rw [add_none] at hc
  rw [hc, List.getElem_take]
  simp [List.getD, show j < zs.length from by omega]
theorem Row.nat {k : IntKind} {w : World} {A : Option Addr} {zs : List Int} (h : Row (fun z => Value.int k z) w A zs) (hz : ∀ z ∈ zs, 0 ≤ z) : Row (fun z : Nat => Value.int k (z : Nat)) w A (zs.map Int.toNat) := fun hn => by
  rw [List.length_map] at hn
  obtain ⟨b, off, e, hc⟩ := h hn
  refine ⟨b, off, e, fun j hj => ?_⟩
  rw [List.length_map] at hj
  rw [hc j hj, List.getElem_map]
  have := hz zs[j] (List.getElem_mem hj)
  congr 2
  omega

section
variable {H : Type} {enc : TypeId × Value → H} {w : World} {base : Nat} {held : Bool} {a : Option Addr} {n c : Nat} {d : DataW H} {p : List MemPlace}
theorem part_of (h : DataW.Trod enc Try.prog w base (fun _ => true) held 24 (.slice a n c) d p) : ∃ q : Part, (.slice a n c : Value) = .slice q.a q.l.length q.c ∧ q.ok w := by
  obtain ⟨fuel, hf⟩ := h
  rcases open_ints Try.underlying24 Try.underlying5 (by kernel_rfl) hf with ⟨hcs, _⟩ | ⟨x, l, c', zs, hcs, _, hl, hm, hz, _, hcell, hwz⟩
  · simp [Value.cells] at hcs
    obtain ⟨rfl, rfl, rfl⟩ := hcs
    exact ⟨⟨none, [], 0⟩, rfl, part_nil w⟩
  · simp [Value.cells] at hcs
    obtain ⟨rfl, rfl, rfl⟩ := hcs
    have hzl : zs.length = c := by simpa using hz
    have hb : ∀ z ∈ zs, 0 ≤ z ∧ z ≤ 255 := fun z hz => bounds_u8 (hwz z hz)
    have hll : ((zs.take n).map Int.toNat).length = n := by simp; omega
    refine ⟨⟨some x, (zs.take n).map Int.toNat, c⟩, by rw [hll], ⟨by rw [hll]; exact hl, hm, (ints_row (by omega) hcell).nat (fun z hz => (hb z (List.mem_of_mem_take hz)).1), fun z hz => ?_⟩⟩
    simp only [List.mem_map] at hz
    obtain ⟨y, hy, rfl⟩ := hz
    have := hb y (List.mem_of_mem_take hy)
    show y.toNat < 256
    omega
/-- a []uint64 -/
theorem nums_of (h : DataW.Trod enc Try.prog w base (fun _ => true) held 63 (.slice a n c) d p) : ∃ l : List Nat, n = l.length ∧ Row eU w a l ∧ ∀ z ∈ l, U64 z := by
  obtain ⟨fuel, hf⟩ := h
  rcases open_ints Try.underlying63 Try.underlying27 (by kernel_rfl) hf with ⟨hcs, _⟩ | ⟨x, l, c', zs, hcs, _, hl, hm, hz, _, hcell, hwz⟩
  · simp [Value.cells] at hcs
    obtain ⟨rfl, rfl, rfl⟩ := hcs
    exact ⟨[], rfl, Row.none_ rfl, fun z hz => by cases hz⟩
  · simp [Value.cells] at hcs
    obtain ⟨rfl, rfl, rfl⟩ := hcs
    have hzl : zs.length = c := by simpa using hz
    have hb : ∀ z ∈ zs, 0 ≤ z ∧ z ≤ 18446744073709551615 := fun z hz => bounds_u64 (hwz z hz)
    refine ⟨(zs.take n).map Int.toNat, by simp; omega, (ints_row (by omega) hcell).nat (fun z hz => (hb z (List.mem_of_mem_take hz)).1), fun z hz => ?_⟩
    simp only [List.mem_map] at hz
    obtain ⟨y, hy, rfl⟩ := hz
    have := hb y (List.mem_of_mem_take hy)
    show y.toNat < _
    omega
/-- a []int -/
theorem ints_of (h : DataW.Trod enc Try.prog w base (fun _ => true) held 64 (.slice a n c) d p) : ∃ l : List Int, n = l.length ∧ Row eI w a l ∧ ∀ z ∈ l, I64 z := by
  obtain ⟨fuel, hf⟩ := h
  rcases open_ints Try.underlying64 Try.underlying3 (by kernel_rfl) hf with ⟨hcs, _⟩ | ⟨x, l, c', zs, hcs, _, hl, hm, hz, _, hcell, hwz⟩
  · simp [Value.cells] at hcs
    obtain ⟨rfl, rfl, rfl⟩ := hcs
    exact ⟨[], rfl, Row.none_ rfl, fun z hz => by cases hz⟩
  · simp [Value.cells] at hcs
    obtain ⟨rfl, rfl, rfl⟩ := hcs
    have hzl : zs.length = c := by simpa using hz
    exact ⟨zs.take n, by simp; omega, ints_row (by omega) hcell, fun z hz => bounds_i64 (hwz z (List.mem_of_mem_take hz))⟩
/-- a []bool -/
theorem bools_of (h : DataW.Trod enc Try.prog w base (fun _ => true) held 65 (.slice a n c) d p) : ∃ l : List Bool, n = l.length ∧ Row Value.bool w a l := by
  obtain ⟨fuel, hf⟩ := h
  rcases open_bools Try.underlying65 Try.underlying4 (by kernel_rfl) hf with ⟨hcs, _⟩ | ⟨⟨b, off, spot⟩, l, c', B, hcs, _, hl, hm, _, hcell⟩
  · simp [Value.cells] at hcs
    obtain ⟨rfl, rfl, rfl⟩ := hcs
    exact ⟨[], rfl, Row.none_ rfl⟩
  · simp [Value.cells] at hcs
    obtain ⟨rfl, rfl, rfl⟩ := hcs
    refine ⟨(List.range n).map B, by simp, fun hn => ?_⟩
    have hn' : 0 < n := by simpa using hn
    have h0 := hcell 0 (by omega)
    have hspot : spot = none := by simpa [Addr.add] using World.cell?_spot h0
    subst hspot
    refine ⟨b, off, rfl, fun j hj => ?_⟩
    have hj' : j < n := by simpa using hj
    have hc := hcell j (by omega)
    rw [add_none] at hc
    rw [hc]
    simp
end
end Go.Proofs.Ytbopijlacdkpeaa
