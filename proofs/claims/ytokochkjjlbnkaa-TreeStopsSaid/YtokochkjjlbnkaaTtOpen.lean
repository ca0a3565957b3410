/-
  What arguments give: rows of calls; a call by value.
-/
import Derived.Test.YtokochkjjlbnkaaRows
import Derived.Test.YtokochkjjlbnkaaTtE
import Derived.ProofKit
import Derived.OpenShut
import Derived.ChangeOld
import Derived.Carry
import Derived.Below
import Derived.Lib.SmallJoins
import Derived.Deep.Grids
import Derived.Deep.Fields
namespace Go.Proofs.Ytokochkjjlbnkaa
open Go.RowKit Go.ChangeShapes Go.WideShapes Go.ChangeAt Go.Deep Go.Joins

theorem own : ownKnob Try.prog.godebug = none := by kernel_rfl
theorem laidOut : laidOutB Try.prog = true := by kernel_rfl
theorem add_none (b off j : Nat) : (⟨b, off, none⟩ : Addr).add j = ⟨b, off + j, none⟩ := by unfold Addr.add; split <;> simp_all
theorem from_list {α : Type} {n : Nat} {p : Nat → α → Prop} (h : ∀ i, i < n → ∃ x, p i x) : ∃ l : List α, l.length = n ∧ ∀ i (hi : i < l.length), p i l[i] := by
  induction n with
  | zero => exact ⟨[], rfl, fun i hi => by simp at hi⟩
  | succ n ih =>
    obtain ⟨l, hl, hp⟩ := ih (fun i hi => h i (by omega))
    obtain ⟨x, hx⟩ := h n (by omega)
    refine ⟨l ++ [x], by simp [hl], fun i hi => ?_⟩
    rw [List.length_append, List.length_cons, List.length_nil] at hi
    by_cases hin : i < l.length
    · rw [List.getElem_append_left hin]
      exact hp i hin
    · have : i = n := by omega
      subst this
      have e : (l ++ [x])[i]'(by rw [List.length_append, List.length_cons, List.length_nil]; omega) = x := by
        rw [List.getElem_append_right (by omega)]
        simp [hl]
      rw [e]
      exact hx
section
variable {H : Type} {enc : TypeId × Value → H} {w : World} {base : Nat} {held : Bool} {k : Nat}
theorem field_one {fs : Array Field} (hone : oneCellFields Try.prog fs = true) {k : Nat} {spare : Nat → Bool} {cs : List Value} {ys : List (DataW H × List MemPlace)}
    (hfl : ∀ (i : Nat) (f : Field), fs[i]? = some f → DataW.trod enc Try.prog w base spare held k f.type ((cs.drop f.offset).take (Try.prog.cellsOf f.type)) = ys[i]?) (j : Nat) (hj : j < cs.length) (hy : j < ys.length) (f : Field) (hf : fs[j]? = some f) :
    DataW.trod enc Try.prog w base spare held k f.type [cs[j]] = some ys[j] := by
  obtain ⟨ho, hk⟩ := hone_of hone j f hf
  have h1 := hfl j f hf
  rw [ho, hk, List.drop_eq_getElem_cons hj] at h1
  exact h1.trans (List.getElem?_eq_getElem hy)

end
def O4.v (o : O4) : Value := .agg #[.int .i64 o.k, .int .i64 o.i, .int .i64 o.p, .int .i64 o.n]
set_option maxRecDepth 100000 in
theorem op_of {H : Type} {enc : TypeId × Value → H} {w : World} {base b0 : Nat} {held : Bool} {r : Reach} {v : Value} {d : DataW H} {p : List MemPlace}
    (hv : Value.okWide Try.prog w r b0 tOp v) (h : DataW.Trod enc Try.prog w base (fun _ => true) held tOp v d p) : ∃ x : O4, v = x.v ∧ x.ok := by
  obtain ⟨c0, c1, c2, c3, y0, y1, y2, y3, m, rfl, -, -, hy0, hy1, hy2, hy3⟩ := open_agg4 Try.underlying32 (by kernel_rfl) (by kernel_rfl) hv h
  obtain ⟨x, e1, -, wx⟩ := DataW.trod_int Try.underlying3 hy0
  obtain ⟨y, e2, -, wy⟩ := DataW.trod_int Try.underlying3 hy1
  obtain ⟨z, e3, -, wz⟩ := DataW.trod_int Try.underlying3 hy2
  obtain ⟨u, e4, -, wu⟩ := DataW.trod_int Try.underlying3 hy3
  obtain rfl := List.singleton_inj.1 e1
  obtain rfl := List.singleton_inj.1 e2
  obtain rfl := List.singleton_inj.1 e3
  obtain rfl := List.singleton_inj.1 e4
  exact ⟨⟨x, y, z, u⟩, rfl, bounds_i64 wx, bounds_i64 wy, bounds_i64 wz, bounds_i64 wu⟩
section
variable {H : Type} {enc : TypeId × Value → H} {w : World} {base : Nat} {held : Bool} {a : Option Addr} {n c : Nat} {d : DataW H} {p : List MemPlace}
set_option maxRecDepth 100000 in
theorem ops_of (h : DataW.Trod enc Try.prog w base (fun _ => true) held 22 (.slice a n c) d p) : ∃ l : List O4, n = l.length ∧ OpRow w a l ∧ (∀ x ∈ l, x.ok) ∧ l.length ≤ 9223372036854775807 := by
  obtain ⟨fuel, hf⟩ := h
  rcases open_slice Try.underlying22 hf with ⟨hcs, _⟩ | ⟨⟨b, off, spot⟩, l, c', m, k, D, Pl, hcs, _, hl, hm, hmm, _, hi⟩
  · simp [Value.cells] at hcs
    obtain ⟨rfl, rfl, rfl⟩ := hcs
    exact ⟨[], rfl, fun h => absurd h (by simp), (fun z hz => by cases hz), by simp⟩
  · simp [Value.cells] at hcs
    obtain ⟨rfl, rfl, rfl⟩ := hcs
    simp only [if_true] at hmm
    subst hmm
    have hC : Try.prog.cellsOf tOp = 4 := by kernel_rfl
    have hsp : 0 < n → spot = none := fun h0 => by
      obtain ⟨cs', hc, _⟩ := hi 0 (by omega)
      rw [hC] at hc
      obtain ⟨_, hcl, hat⟩ := World.cells?_some hc
      have a0 := hat 0 (by omega)
      rw [List.getElem?_eq_getElem (by omega)] at a0
      simpa [Addr.add] using World.cell?_spot a0
    have one : ∀ i, i < n → ∃ x : O4, (spot = none) ∧ (w.cell? ⟨b, off + i * 4, none⟩ = some (.int .i64 x.k) ∧ w.cell? ⟨b, off + i * 4 + 1, none⟩ = some (.int .i64 x.i) ∧ w.cell? ⟨b, off + i * 4 + 2, none⟩ = some (.int .i64 x.p) ∧
        w.cell? ⟨b, off + i * 4 + 3, none⟩ = some (.int .i64 x.n)) ∧ x.ok := fun i hin => by
      obtain ⟨cs', hc, ht⟩ := hi i (by omega)
      rw [hC] at hc
      obtain ⟨ys, n', _, hy, hlen, hyl, hfl⟩ := DataW.trod_struct Try.underlying32 ht
      obtain ⟨_, hcl, hat⟩ := World.cells?_some hc
      have hyl2 : ys.length = 4 := hyl
      have g0 := field_one (by kernel_rfl) hfl 0 (by omega) (by omega) _ rfl
      have g1 := field_one (by kernel_rfl) hfl 1 (by omega) (by omega) _ rfl
      have g2 := field_one (by kernel_rfl) hfl 2 (by omega) (by omega) _ rfl
      have g3 := field_one (by kernel_rfl) hfl 3 (by omega) (by omega) _ rfl
      obtain ⟨x0, e0, _, w0⟩ := DataW.trod_int Try.underlying3 g0
      obtain ⟨x1, e1, _, w1⟩ := DataW.trod_int Try.underlying3 g1
      obtain ⟨x2, e2, _, w2⟩ := DataW.trod_int Try.underlying3 g2
      obtain ⟨x3, e3, _, w3⟩ := DataW.trod_int Try.underlying3 g3
      have a0 := hat 0 (by omega)
      have a1 := hat 1 (by omega)
      have a2 := hat 2 (by omega)
      have a3 := hat 3 (by omega)
      rw [List.getElem?_eq_getElem (by omega), List.singleton_inj.1 e0] at a0
      rw [List.getElem?_eq_getElem (by omega), List.singleton_inj.1 e1] at a1
      rw [List.getElem?_eq_getElem (by omega), List.singleton_inj.1 e2] at a2
      rw [List.getElem?_eq_getElem (by omega), List.singleton_inj.1 e3] at a3
      have hspot : spot = none := hsp (by omega)
      subst hspot
      rw [add_none, add_none] at a0 a1 a2 a3
      exact ⟨⟨x0, x1, x2, x3⟩, rfl, ⟨a0, a1, a2, a3⟩, ⟨bounds_i64 w0, bounds_i64 w1, bounds_i64 w2, bounds_i64 w3⟩⟩
    obtain ⟨xs, hxl, hxs⟩ := from_list one
    refine ⟨xs, hxl.symm, fun hn => ⟨b, off, ?_, fun j hj i v hv => ?_⟩, fun x hx => ?_, by unfold maxLen at hm; omega⟩
    · rw [(hxs 0 hn).1]
    · obtain ⟨-, ⟨a0, a1, a2, a3⟩, -⟩ := hxs j hj
      have hi5 : i < 4 := (List.getElem?_eq_some_iff.1 hv).1
      obtain rfl | rfl | rfl | rfl : i = 0 ∨ i = 1 ∨ i = 2 ∨ i = 3 := by omega
      · rw [← Option.some.inj hv]; exact a0
      · rw [← Option.some.inj hv]; exact a1
      · rw [← Option.some.inj hv]; exact a2
      · rw [← Option.some.inj hv]; exact a3
    · obtain ⟨j, hj, rfl⟩ := List.mem_iff_getElem.1 hx
      exact (hxs j hj).2.2
end
end Go.Proofs.Ytokochkjjlbnkaa
