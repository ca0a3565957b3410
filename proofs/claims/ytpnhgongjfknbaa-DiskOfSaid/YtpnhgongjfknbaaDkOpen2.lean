/-
  What an argument []disk.File gives.
-/
import Derived.Test.YtpnhgongjfknbaaDkOpen
import Derived.Test.YtpnhgongjfknbaaDkP
namespace Go.Proofs.Ytpnhgongjfknbaa
open Go.RowKit Go.ChangeShapes Go.WideShapes Go.ChangeAt Go.Deep

section
variable {H : Type} {enc : TypeId × Value → H} {w : World} {base : Nat} {held : Bool} {a : Option Addr} {n c : Nat} {d : DataW H} {p : List MemPlace}
set_option maxRecDepth 100000 in
theorem fins_of (h : DataW.Trod enc Try.prog w base (fun _ => true) held 41 (.slice a n c) d p) : ∃ l : List FIn, n = l.length ∧ FileRow w a l ∧ (∀ x ∈ l, x.p.ok w) ∧ l.length ≤ 9223372036854775807 := by
  obtain ⟨fuel, hf⟩ := h
  rcases open_slice Try.underlying41 hf with ⟨hcs, _⟩ | ⟨⟨b, off, spot⟩, l, c', m, k, D, Pl, hcs, _, hl, hm, hmm, _, hi⟩
  · simp [Value.cells] at hcs
    obtain ⟨rfl, rfl, rfl⟩ := hcs
    exact ⟨[], rfl, fun h => absurd h (by simp), (fun z hz => by cases hz), by simp⟩
  · simp [Value.cells] at hcs
    obtain ⟨rfl, rfl, rfl⟩ := hcs
    simp only [if_true] at hmm
    subst hmm
    have hC : Try.prog.cellsOf 43 = 2 := by kernel_rfl
    have hsp : 0 < n → spot = none := fun h0 => by
      obtain ⟨cs', hc, _⟩ := hi 0 (by omega)
      rw [hC] at hc
      obtain ⟨_, hcl, hat⟩ := World.cells?_some hc
      have a0 := hat 0 (by omega)
      rw [List.getElem?_eq_getElem (by omega)] at a0
      simpa [Addr.add] using World.cell?_spot a0
    have one : ∀ i, i < n → ∃ x : FIn, (spot = none) ∧ (w.cell? ⟨b, off + i * 2, none⟩ = some (.string x.n) ∧ w.cell? ⟨b, off + i * 2 + 1, none⟩ = some x.p.v) ∧ x.p.ok w := fun i hin => by
      obtain ⟨cs', hc, ht⟩ := hi i (by omega)
      rw [hC] at hc
      obtain ⟨ys, n', _, hy, hlen, hyl, hfl⟩ := DataW.trod_struct Try.underlying43 ht
      obtain ⟨_, hcl, hat⟩ := World.cells?_some hc
      have hyl2 : ys.length = 2 := hyl
      have g0 := field_one (by kernel_rfl) hfl 0 (by omega) (by omega) _ rfl
      have g1 := field_one (by kernel_rfl) hfl 1 (by omega) (by omega) _ rfl
      obtain ⟨x0, e0, _, _⟩ := DataW.trod_string Try.underlying9 g0
      obtain ⟨x1, e1, o1⟩ := part_cell g1
      have a0 := hat 0 (by omega)
      have a1 := hat 1 (by omega)
      rw [List.getElem?_eq_getElem (by omega), List.singleton_inj.1 e0] at a0
      rw [List.getElem?_eq_getElem (by omega), e1] at a1
      have hspot : spot = none := hsp (by omega)
      subst hspot
      rw [add_none, add_none] at a0 a1
      exact ⟨⟨x0, x1⟩, rfl, ⟨a0, a1⟩, o1⟩
    obtain ⟨xs, hxl, hxs⟩ := from_list one
    refine ⟨xs, hxl.symm, fun hn => ⟨b, off, ?_, fun j hj => (hxs j hj).2.1⟩, fun x hx => ?_, by unfold maxLen at hm; omega⟩
    · rw [(hxs 0 hn).1]
    · obtain ⟨j, hj, rfl⟩ := List.mem_iff_getElem.1 hx
      exact (hxs j hj).2.2
end
end Go.Proofs.Ytpnhgongjfknbaa
