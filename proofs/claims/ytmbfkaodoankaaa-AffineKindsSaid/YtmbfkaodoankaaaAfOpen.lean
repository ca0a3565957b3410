/-
  What arguments give: maps, points, rows of maps.
-/
import Derived.Test.YtmbfkaodoankaaaRows
import Derived.Test.YtmbfkaodoankaaaAfE
import Derived.ProofKit
import Derived.OpenShut
import Derived.ChangeOld
import Derived.Carry
import Derived.Below
import Derived.Deep.Grids
import Derived.Deep.Fields
namespace Go.Proofs.Ytmbfkaodoankaaa
open Go.RowKit Go.ChangeShapes Go.WideShapes Go.ChangeAt Go.Deep

theorem own : ownKnob Try.prog.godebug = none := by kernel_rfl
theorem laidOut : laidOutB Try.prog = true := by kernel_rfl
theorem add_none (b off j : Nat) : (⟨b, off, none⟩ : Addr).add j = ⟨b, off + j, none⟩ := by unfold Addr.add; split <;> simp_all
theorem from_list {α : Type} {n : Nat} {p : Nat → α → Prop} (h : ∀ i, i < n → ∃ x, p i x) : ∃ l : List α, l.length = n ∧ ∀ i (hi : i < l.length), p i l[i] := by
  induction n with
  | zero => exact ⟨[], rfl, fun i hi => by simp at hi⟩
  | succ n ih =>
    obtain ⟨l, hl, hp⟩ := ih (fun i hi => h i (by omega))
    obtain ⟨x, hx⟩ := h n (by omega)
    refine ⟨l ++ [x], by simp [hl], fun i hi => ?_⟩
    rw [List.length_append, List.length_cons, List.length_nil] at hi
    by_cases hin : i < l.length
    · rw [List.getElem_append_left hin]
      exact hp i hin
    · have : i = n := by omega
      subst this
      have e : (l ++ [x])[i]'(by rw [List.length_append, List.length_cons, List.length_nil]; omega) = x := by
        rw [List.getElem_append_right (by omega)]
        simp [hl]
      rw [e]
      exact hx
section
variable {H : Type} {enc : TypeId × Value → H} {w : World} {base : Nat} {held : Bool} {k : Nat}
theorem field_one {fs : Array Field} (hone : oneCellFields Try.prog fs = true) {k : Nat} {spare : Nat → Bool} {cs : List Value} {ys : List (DataW H × List MemPlace)}
    (hfl : ∀ (i : Nat) (f : Field), fs[i]? = some f → DataW.trod enc Try.prog w base spare held k f.type ((cs.drop f.offset).take (Try.prog.cellsOf f.type)) = ys[i]?) (j : Nat) (hj : j < cs.length) (hy : j < ys.length) (f : Field) (hf : fs[j]? = some f) :
    DataW.trod enc Try.prog w base spare held k f.type [cs[j]] = some ys[j] := by
  obtain ⟨ho, hk⟩ := hone_of hone j f hf
  have h1 := hfl j f hf
  rw [ho, hk, List.drop_eq_getElem_cons hj] at h1
  exact h1.trans (List.getElem?_eq_getElem hy)

theorem map_cells {cs : List Value} {y : DataW H × List MemPlace} (hc : cs.length = 6) (h : DataW.trod enc Try.prog w base (fun _ => true) held k 23 cs = some y) : ∃ m : Mp, cs = m.cs := by
  obtain ⟨c0, c1, c2, c3, c4, c5, rfl⟩ : ∃ c0 c1 c2 c3 c4 c5, cs = [c0, c1, c2, c3, c4, c5] := by
    match cs, hc with
    | [c0, c1, c2, c3, c4, c5], _ => exact ⟨_, _, _, _, _, _, rfl⟩
  obtain ⟨d, p⟩ := y
  obtain ⟨ys, n', _, hy, hlen, hyl, hfl⟩ := DataW.trod_struct Try.underlying23 h
  have hyl2 : ys.length = 6 := hyl
  have g0 := field_one (by kernel_rfl) hfl 0 (by omega) (by omega) _ rfl
  have g1 := field_one (by kernel_rfl) hfl 1 (by omega) (by omega) _ rfl
  have g2 := field_one (by kernel_rfl) hfl 2 (by omega) (by omega) _ rfl
  have g3 := field_one (by kernel_rfl) hfl 3 (by omega) (by omega) _ rfl
  have g4 := field_one (by kernel_rfl) hfl 4 (by omega) (by omega) _ rfl
  have g5 := field_one (by kernel_rfl) hfl 5 (by omega) (by omega) _ rfl
  obtain ⟨x0, e0, -, -⟩ := DataW.trod_int Try.underlying2 g0
  obtain ⟨x1, e1, -, -⟩ := DataW.trod_int Try.underlying2 g1
  obtain ⟨x2, e2, -, -⟩ := DataW.trod_int Try.underlying2 g2
  obtain ⟨x3, e3, -, -⟩ := DataW.trod_int Try.underlying2 g3
  obtain ⟨x4, e4, -, -⟩ := DataW.trod_int Try.underlying2 g4
  obtain ⟨x5, e5, -, -⟩ := DataW.trod_int Try.underlying2 g5
  obtain rfl := List.singleton_inj.1 e0
  obtain rfl := List.singleton_inj.1 e1
  obtain rfl := List.singleton_inj.1 e2
  obtain rfl := List.singleton_inj.1 e3
  obtain rfl := List.singleton_inj.1 e4
  obtain rfl := List.singleton_inj.1 e5
  exact ⟨⟨x0, x1, x2, x3, x4, x5⟩, rfl⟩
theorem point_cells {cs : List Value} {y : DataW H × List MemPlace} (hc : cs.length = 2) (h : DataW.trod enc Try.prog w base (fun _ => true) held k 25 cs = some y) : ∃ m : Pt, cs = m.cs := by
  obtain ⟨c0, c1, rfl⟩ : ∃ c0 c1, cs = [c0, c1] := by
    match cs, hc with
    | [c0, c1], _ => exact ⟨_, _, rfl⟩
  obtain ⟨d, p⟩ := y
  obtain ⟨ys, n', _, hy, hlen, hyl, hfl⟩ := DataW.trod_struct Try.underlying25 h
  have hyl2 : ys.length = 2 := hyl
  have g0 := field_one (by kernel_rfl) hfl 0 (by omega) (by omega) _ rfl
  have g1 := field_one (by kernel_rfl) hfl 1 (by omega) (by omega) _ rfl
  obtain ⟨x0, e0, -, -⟩ := DataW.trod_int Try.underlying2 g0
  obtain ⟨x1, e1, -, -⟩ := DataW.trod_int Try.underlying2 g1
  obtain rfl := List.singleton_inj.1 e0
  obtain rfl := List.singleton_inj.1 e1
  exact ⟨⟨x0, x1⟩, rfl⟩
end
section
variable {H : Type} {enc : TypeId × Value → H} {w : World} {base b0 : Nat} {held : Bool} {r : Reach} {v : Value} {d : DataW H} {p : List MemPlace}
theorem map_of (hv : Value.okWide Try.prog w r b0 23 v) (h : DataW.Trod enc Try.prog w base (fun _ => true) held 23 v d p) : ∃ x : Mp, v = x.v := by
  obtain ⟨cs, rfl, hsz⟩ := okWide_struct Try.underlying23 hv
  obtain ⟨fuel, hf⟩ := h
  have hl : cs.toList.length = 6 := by rw [Array.length_toList, hsz]; kernel_rfl
  obtain ⟨m, hm⟩ := map_cells hl hf
  exact ⟨m, by unfold Mp.v; rw [← Array.toArray_toList (xs := cs), hm]; rfl⟩
theorem point_of (hv : Value.okWide Try.prog w r b0 25 v) (h : DataW.Trod enc Try.prog w base (fun _ => true) held 25 v d p) : ∃ x : Pt, v = x.v := by
  obtain ⟨cs, rfl, hsz⟩ := okWide_struct Try.underlying25 hv
  obtain ⟨fuel, hf⟩ := h
  have hl : cs.toList.length = 2 := by rw [Array.length_toList, hsz]; kernel_rfl
  obtain ⟨m, hm⟩ := point_cells hl hf
  exact ⟨m, by unfold Pt.v; rw [← Array.toArray_toList (xs := cs), hm]; rfl⟩
end
section
variable {H : Type} {enc : TypeId × Value → H} {w : World} {base : Nat} {held : Bool} {a : Option Addr} {n c : Nat} {d : DataW H} {p : List MemPlace}
set_option maxRecDepth 100000 in
theorem maps_of (h : DataW.Trod enc Try.prog w base (fun _ => true) held 37 (.slice a n c) d p) : ∃ l : List Mp, n = l.length ∧ MRow w a l ∧ l.length ≤ 9223372036854775807 := by
  obtain ⟨fuel, hf⟩ := h
  rcases open_slice Try.underlying37 hf with ⟨hcs, _⟩ | ⟨⟨b, off, spot⟩, l, c', m, k, D, Pl, hcs, _, hl, hm, hmm, _, hi⟩
  · simp [Value.cells] at hcs
    obtain ⟨rfl, rfl, rfl⟩ := hcs
    exact ⟨[], rfl, fun h => absurd h (by simp), by simp⟩
  · simp [Value.cells] at hcs
    obtain ⟨rfl, rfl, rfl⟩ := hcs
    simp only [if_true] at hmm
    subst hmm
    have hC : Try.prog.cellsOf 23 = 6 := by kernel_rfl
    have hsp : 0 < n → spot = none := fun h0 => by
      obtain ⟨cs', hc, _⟩ := hi 0 (by omega)
      rw [hC] at hc
      obtain ⟨_, hcl, hat⟩ := World.cells?_some hc
      have a0 := hat 0 (by omega)
      rw [List.getElem?_eq_getElem (by omega)] at a0
      simpa [Addr.add] using World.cell?_spot a0
    have one : ∀ i, i < n → ∃ x : Mp, spot = none ∧ ∀ j v, x.cs[j]? = some v → w.cell? ⟨b, off + i * 6 + j, none⟩ = some v := fun i hin => by
      obtain ⟨cs', hc, ht⟩ := hi i (by omega)
      rw [hC] at hc
      obtain ⟨_, hcl, hat⟩ := World.cells?_some hc
      obtain ⟨x, rfl⟩ := map_cells hcl ht
      have hspot : spot = none := hsp (by omega)
      subst hspot
      refine ⟨x, rfl, fun j v hj => ?_⟩
      have hj6 : j < 6 := (List.getElem?_eq_some_iff.1 hj).1
      have h0 := hat j hj6
      rw [hj, add_none, add_none] at h0
      exact h0
    obtain ⟨xs, hxl, hxs⟩ := from_list one
    refine ⟨xs, hxl.symm, fun hn => ⟨b, off, ?_, fun j hj => (hxs j hj).2⟩, by unfold maxLen at hm; omega⟩
    rw [(hxs 0 hn).1]
end
end Go.Proofs.Ytmbfkaodoankaaa
