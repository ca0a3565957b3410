/-
  The contracts of an In's Bool, and of NewIn.
-/
import Derived.Test.YtoipokjoklhfjaaDoorCoF
namespace Go.Proofs.YtoipokjoklhfjaaDoor
open Go.RowKit numb

theorem raw1_none {s : St} (h : (s.raw 1).2 = []) : s.bool = ((s.raw 1).1, false) ∧ (s.raw 1).1.e ≠ 0 := by
  have he : (s.raw 1).1.e ≠ 0 := by
    unfold St.raw at h ⊢
    by_cases e0 : s.e = 0
    · rw [if_neg (by omega), if_neg (by omega)] at h ⊢
      by_cases hl : (s.l.length : Int) < 1
      · rw [if_pos hl]
        decide
      · rw [if_neg hl] at h
        have := congrArg List.length h
        simp at this
        have : s.l.length = 0 := by rw [this]; rfl
        omega
    · rw [if_pos e0]
      exact e0
  refine ⟨?_, he⟩
  unfold St.bool
  rw [if_pos he]
theorem raw1_some {s : St} {z : Nat} {r : List Nat} (h : (s.raw 1).2 = z :: r) : r = [] ∧ (s.raw 1).1.e = 0 ∧ s.bool = if 1 < z then (⟨[], 10⟩, false) else ((s.raw 1).1, z == 1) := by
  have h2 : (s.raw 1).1.e = 0 ∧ r = [] := by
    unfold St.raw at h ⊢
    by_cases e0 : s.e = 0
    · rw [if_neg (by omega), if_neg (by omega)] at h ⊢
      by_cases hl : (s.l.length : Int) < 1
      · rw [if_pos hl] at h
        cases h
      · rw [if_neg hl] at h ⊢
        refine ⟨rfl, ?_⟩
        have := congrArg List.length h
        simp only [List.length_take, List.length_cons] at this
        exact List.eq_nil_of_length_eq_zero (by omega)
    · rw [if_pos e0] at h
      cases h
  refine ⟨h2.2, h2.1, ?_⟩
  unfold St.bool
  rw [if_neg (by rw [h2.1]; omega), h]
  rfl

theorem frozen_new (w : World) (cs : Array Value) (t : TypeId) (o : Nat) : (w.alloc (.cells cs t)).frozen? ⟨w.heap.size, o, none⟩ = false := by
  have h := heap_alloc_new w (.cells cs t)
  unfold World.frozen?
  rw [h]
  simp

set_option maxHeartbeats 1000000 in
theorem newin_any (a : Option Addr) (l : List Nat) (c : Nat) (w : World) (hm : Bs w a l) (hl : AreBytes l) (hsz : l.length ≤ 1099511627776) :
    Calls Tryd.prog 26 #[.slice a l.length c] w fun r w' => ∃ b, r = .returned (In b) ∧ w.heap.size ≤ b ∧ InAt w' w.heap.size b ⟨l, 0⟩ ∧ Below w.heap.size w w' := by
  go_enter Tryd.func26, Tryd.ntmps26
  go_wp2_with (fail)
  refine (fresh_any a l c w hm hsz).mono ?_
  rintro r w1 ⟨v, rfl, own, hb⟩
  obtain ⟨a1, c1, rfl, hp, hx, hn⟩ := own.part hl
  have HO := Lib.hid own
  have HB := Lib.hid hb
  have HP := Lib.hid hp
  have HX := Lib.hid hx
  have HN := Lib.hid hn
  clear own hb hm hp hx hn
  go_wp2_with (fail)
  go_ret
  refine ⟨w1.heap.size, rfl, HB.out.size, ⟨a1, c1, ?_, ?_, ?_, ?_, HP.out.room, HP.out.max, HP.out.at_.alloc _, hl, ?_, fun h => absurd rfl h, (show (0 : Nat) < 256 by omega)⟩, HB.out.alloc HB.out.size _⟩
  · exact cell_of_row _ _ 0 _ _ _ (heap_alloc_new w1 _)
  · exact cell_of_row _ _ 1 _ _ _ (heap_alloc_new w1 _)
  · exact frozen_new _ _ _ _
  · exact frozen_new _ _ _ _
  · cases a1 with
    | none =>
      exact .inl ⟨rfl, HN.out rfl⟩
    | some x =>
      obtain ⟨g, rfl, hg⟩ := HX.out x rfl
      have := HO.out.block hg
      exact .inr ⟨g, 0, rfl, this.1, this.2⟩
end Go.Proofs.YtoipokjoklhfjaaDoor
