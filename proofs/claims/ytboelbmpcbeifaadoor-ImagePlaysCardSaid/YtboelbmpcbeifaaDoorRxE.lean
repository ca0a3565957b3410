/-
  Layer 6: the fixed answer; the law's own words.
-/
import Derived.Test.YtboelbmpcbeifaaDoorRxD
namespace Go.Proofs.YtboelbmpcbeifaaDoor
open Go.RowKit

theorem SOwn.row0 {α : Type} {T : TypeId} {k : Nat} {enc : α → List Value} {w : World} {base : Nat} {v : Value} {l : List α} (h : SOwn T k enc w base v l) (hk : ∀ x, (enc x).length = k) (hl : 0 < l.length) : ∃ g c, v = .slice (some ⟨g, 0, none⟩) l.length c ∧ l.length ≤ c ∧ c ≤ maxLen ∧ SRow k enc w (some ⟨g, 0, none⟩) l := by
  rcases h.2 with ⟨rfl, h0⟩ | ⟨g, cap, cur, rfl, hg, hb, hc, hm, rest⟩
  · omega
  · refine ⟨g, cap, rfl, hc, hm, fun _ => ⟨g, 0, rfl, fun j hj i v hv => ?_⟩⟩
    have hcell := World.ownsRow.cells h (g := g) rfl
    have e : ∀ i, (⟨g, 0, none⟩ : Addr).add i = ⟨g, 0 + i, none⟩ := fun i => by unfold Addr.add; split <;> simp_all
    have := hcell _ _ (flat_at hk hj hv)
    rw [e] at this
    rw [Nat.add_assoc]
    exact this
theorem brow_cell {w : World} {g o : Nat} {l : List Bx} (h : BRow w (some ⟨g, o, none⟩) l) (j : Nat) (hj : j < l.length) (i : Nat) (v : Value) (hv : (Bx.cs l[j])[i]? = some v) : w.cell? ⟨g, o + j * 4 + i, none⟩ = some v := by
  obtain ⟨b, off, e, hc⟩ := h (by omega)
  simp only [Option.some.injEq, Addr.mk.injEq, and_true] at e
  obtain ⟨rfl, rfl⟩ := e
  exact hc j hj i v hv
def J1 (g0 : Nat) (p : List Value) (w : World) : Prop := Blk w g0 p
theorem J1.below {g0 : Nat} {p : List Value} {w w' : World} (h : J1 g0 p w) (hb : Below w.heap.size w w') : J1 g0 p w' := Blk.below' h hb
def JA (g0 gl lo : Nat) (p : List Value) (l : List Bx) (w : World) : Prop := Blk w g0 p ∧ BRow w (some ⟨gl, lo, none⟩) l
theorem JA.below {g0 gl lo : Nat} {p : List Value} {l : List Bx} {w w' : World} (h : JA g0 gl lo p l w) (hb : Below w.heap.size w w') : JA g0 gl lo p l w' := ⟨h.1.below' hb, h.2.below hb⟩
theorem aw0 : Bx.nrm ⟨0, 0, 4, 4⟩ = ⟨0, 0, 4, 4⟩ := by decide
/-! ### The law's own words -/
def nearB (x : Int) : Bool := decide (-1073741824 ≤ x ∧ x ≤ 1073741824)
def nearL (l : List Int) : Bool := l.all nearB
theorem nearB_yes {a : Int} (h : -1073741824 ≤ a) (h' : a ≤ 1073741824) : nearB a = true := decide_eq_true ⟨h, h'⟩
theorem nearB_no {a : Int} (h : a < -1073741824 ∨ 1073741824 < a) : nearB a = false := decide_eq_false (by omega)
theorem nearB_of {a : Int} (h : nearB a = true) : -1073741824 ≤ a ∧ a ≤ 1073741824 := of_decide_eq_true h
theorem nearL_snoc {l : List Int} {k : Nat} (h : nearL (l.take k) = true) (hk : k < l.length) (hx : nearB l[k] = true) : nearL (l.take (k + 1)) = true := by
  rw [List.take_succ_eq_append_getElem hk]
  unfold nearL at *
  rw [List.all_append, h]
  simp only [List.all_cons, List.all_nil, hx, Bool.and_true]
theorem nearL_bad {l : List Int} {k : Nat} (hk : k < l.length) (hx : nearB l[k] = false) : nearL l = false := by
  unfold nearL
  rw [List.all_eq_false]
  exact ⟨_, List.getElem_mem hk, by simp [hx]⟩
theorem nearL_take {l : List Int} {k : Nat} (h : nearL (l.take k) = true) (hk : l.length ≤ k) : nearL l = true := by rwa [List.take_of_length_le hk] at h
theorem near4 (r : Bx) : nearL [r.a, r.b, r.c, r.d] = r.rt := by
  simp only [nearL, List.all_cons, List.all_nil, Bool.and_true, nearB, Bx.rt, Bool.decide_and]
end Go.Proofs.YtboelbmpcbeifaaDoor
