/-
  What arguments give: rows of numbers with 64 bits.
-/
import Derived.Test.YteomackicpcmgaaRows
import Derived.Test.YteomackicpcmgaaRow
import Derived.ProofKit
import Derived.OpenShut
import Derived.ChangeOld
import Derived.Carry
import Derived.Below
namespace Go.Proofs.Yteomackicpcmgaa
open Go.RowKit Go.ChangeShapes Go.WideShapes Go.ChangeAt

theorem own : ownKnob Try.prog.godebug = none := by kernel_rfl
theorem laidOut : laidOutB Try.prog = true := by kernel_rfl
theorem add_none (b off j : Nat) : (⟨b, off, none⟩ : Addr).add j = ⟨b, off + j, none⟩ := by unfold Addr.add; split <;> simp_all
/-- An argument's slice of numbers is a row. -/
theorem ints_row {k : IntKind} {w : World} {x : Addr} {zs : List Int} {n : Nat} (hn : n ≤ zs.length) (hcell : ∀ i, i < zs.length → w.cell? (x.add i) = some (.int k (zs.getD i 0))) :
    Row (fun z => Value.int k z) w (some x) (zs.take n) := fun hn' => by
  rw [List.length_take] at hn'
  obtain ⟨b, off, spot⟩ := x
  have h0 := hcell 0 (by omega)
  have hspot : spot = none := by simpa [Addr.add] using World.cell?_spot h0
  subst hspot
  refine ⟨b, off, rfl, fun j hj => ?_⟩
  rw [List.length_take] at hj
  have hc := hcell j (by omega)
  rw [add_none] at hc
  rw [hc, List.getElem_take]
  simp [List.getD, show j < zs.length from by omega]
section
variable {H : Type} {enc : TypeId × Value → H} {w : World} {base : Nat} {held : Bool} {a : Option Addr} {n c : Nat} {d : DataW H} {p : List MemPlace}
/-- a []int64 -/
theorem i64s_of (h : DataW.Trod enc Try.prog w base (fun _ => true) held 28 (.slice a n c) d p) : ∃ l : List Int, n = l.length ∧ Row eI w a l ∧ n ≤ c ∧ c ≤ 9223372036854775807 ∧ ∀ z ∈ l, I64 z := by
  obtain ⟨fuel, hf⟩ := h
  rcases open_ints Try.underlying28 Try.underlying2 (by kernel_rfl) hf with ⟨hcs, _⟩ | ⟨x, l, c', zs, hcs, _, hl, hm, hz, _, hcell, hwz⟩
  · simp [Value.cells] at hcs
    obtain ⟨rfl, rfl, rfl⟩ := hcs
    exact ⟨[], rfl, Row.none_ rfl, Nat.le_refl _, by omega, fun z hz => by cases hz⟩
  · simp [Value.cells] at hcs
    obtain ⟨rfl, rfl, rfl⟩ := hcs
    have hzl : zs.length = c := by simpa using hz
    unfold maxLen at hm
    exact ⟨zs.take n, by simp; omega, ints_row (by omega) hcell, hl, by omega, fun z hz => bounds_i64 (hwz z (List.mem_of_mem_take hz))⟩
end
end Go.Proofs.Yteomackicpcmgaa
