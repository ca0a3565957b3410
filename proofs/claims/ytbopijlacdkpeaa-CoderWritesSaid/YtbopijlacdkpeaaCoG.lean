/-
  The contracts of an In's Bool, and of NewIn.
-/
import Derived.Test.YtbopijlacdkpeaaCoF
namespace Go.Proofs.Ytbopijlacdkpeaa
open Go.RowKit numb

theorem raw1_none {s : St} (h : (s.raw 1).2 = []) : s.bool = ((s.raw 1).1, false) ∧ (s.raw 1).1.e ≠ 0 := by
  have he : (s.raw 1).1.e ≠ 0 := by
    unfold St.raw at h ⊢
    by_cases e0 : s.e = 0
    · rw [if_neg (by omega), if_neg (by omega)] at h ⊢
      by_cases hl : (s.l.length : Int) < 1
      · rw [if_pos hl]
        decide
      · rw [if_neg hl] at h
        have := congrArg List.length h
        simp at this
        have : s.l.length = 0 := by rw [this]; rfl
        omega
    · rw [if_pos e0]
      exact e0
  refine ⟨?_, he⟩
  unfold St.bool
  rw [if_pos he]
theorem raw1_some {s : St} {z : Nat} {r : List Nat} (h : (s.raw 1).2 = z :: r) : r = [] ∧ (s.raw 1).1.e = 0 ∧ s.bool = if 1 < z then (⟨[], 10⟩, false) else ((s.raw 1).1, z == 1) := by
  have h2 : (s.raw 1).1.e = 0 ∧ r = [] := by
    unfold St.raw at h ⊢
    by_cases e0 : s.e = 0
    · rw [if_neg (by omega), if_neg (by omega)] at h ⊢
      by_cases hl : (s.l.length : Int) < 1
      · rw [if_pos hl] at h
        cases h
      · rw [if_neg hl] at h ⊢
        refine ⟨rfl, ?_⟩
        have := congrArg List.length h
        simp only [List.length_take, List.length_cons] at this
        exact List.eq_nil_of_length_eq_zero (by omega)
    · rw [if_pos e0] at h
      cases h
  refine ⟨h2.2, h2.1, ?_⟩
  unfold St.bool
  rw [if_neg (by rw [h2.1]; omega), h]
  rfl

set_option maxHeartbeats 1000000 in
theorem in_bool_any (lo b : Nat) (s : St) (w : World) (h : InAt w lo b s) :
    Calls Try.prog 18 #[In b] w fun r w' => r = .returned (.bool s.bool.2) ∧ InAt w' lo b s.bool.1 ∧ InStep b w w' := by
  unfold In
  go_enter Try.func18, Try.ntmps18
  go_wp2_with (fail)
  refine (in_take_any lo b s 1 w h (by unfold I64; omega)).mono ?_
  rintro r w1 ⟨⟨a, c, rfl, hp⟩, p1, p2⟩
  have HP := Lib.hid (And.intro p1 p2)
  clear h p1 p2
  have hok := hp.max
  have hroom := hp.room
  have hat := hp.at_
  have hare := hp.bytes
  simp only at hok hroom hat hare
  unfold maxLen at hok
  clear hp
  cases hx : (s.raw 1).2 with
  | nil =>
    obtain ⟨B, _⟩ := raw1_none hx
    have HB := Lib.hid B
    clear B hx hat hare
    go_wp2_with (fail)
    go_ret
    rw [HB.out]
    exact ⟨rfl, HP.out⟩
  | cons z r =>
    obtain ⟨rfl, he0, B⟩ := raw1_some hx
    rw [hx] at hat hare hroom
    have hz : z < 256 := hare z (by simp)
    obtain ⟨g, off, rfl, hcell⟩ := hat (by simp)
    have hc0 : w1.cell? ⟨g, off, none⟩ = some (.int .u8 (z : Nat)) := hcell 0 (by simp)
    have HB := Lib.hid B
    clear hcell hat hare B hx
    by_cases hbig : 1 < z
    · have t : decide ((1 : Int) < (z : Int)) = true := by simp; omega
      have B2 : Hid (s.bool = ((s.raw 1).1.fail 10, false)) := by
        rw [HB.out, if_pos hbig]
        unfold St.fail
        rw [if_pos he0]
        rfl
      clear HB he0 hbig
      go_wp2_with (fail)
      refine (in_fail_any lo b _ 10 w1 HP.out.1 (by omega)).mono ?_
      rintro r w2 ⟨rfl, p1, p2⟩
      have HQ := Lib.hid (And.intro p1 p2)
      clear p1 p2
      go_wp2_with (fail)
      go_ret
      rw [B2.out]
      exact ⟨rfl, HQ.out.1, HP.out.2.trans HQ.out.2⟩
    · have t : decide ((1 : Int) < (z : Int)) = false := by simp; omega
      have B2 : Hid (s.bool = ((s.raw 1).1, z == 1)) := by
        rw [HB.out, if_neg hbig]
        rfl
      have hz01 : z = 0 ∨ z = 1 := by omega
      clear HB he0 hbig
      rcases hz01 with rfl | rfl
      · go_wp2_with (fail)
        go_ret
        rw [B2.out]
        exact ⟨rfl, HP.out⟩
      · go_wp2_with (fail)
        go_ret
        rw [B2.out]
        exact ⟨rfl, HP.out⟩

theorem frozen_new (w : World) (cs : Array Value) (t : TypeId) (o : Nat) : (w.alloc (.cells cs t)).frozen? ⟨w.heap.size, o, none⟩ = false := by
  have h := heap_alloc_new w (.cells cs t)
  unfold World.frozen?
  rw [h]
  simp

set_option maxHeartbeats 1000000 in
theorem newin_any (a : Option Addr) (l : List Nat) (c : Nat) (w : World) (hm : Bs w a l) (hl : AreBytes l) (hsz : l.length ≤ 1099511627776) :
    Calls Try.prog 15 #[.slice a l.length c] w fun r w' => ∃ b, r = .returned (In b) ∧ w.heap.size ≤ b ∧ InAt w' w.heap.size b ⟨l, 0⟩ ∧ Below w.heap.size w w' := by
  go_enter Try.func15, Try.ntmps15
  go_wp2_with (fail)
  refine (fresh_any a l c w hm hsz).mono ?_
  rintro r w1 ⟨v, rfl, own, hb⟩
  obtain ⟨a1, c1, rfl, hp, hx, hn⟩ := own.part hl
  have HO := Lib.hid own
  have HB := Lib.hid hb
  have HP := Lib.hid hp
  have HX := Lib.hid hx
  have HN := Lib.hid hn
  clear own hb hm hp hx hn
  go_wp2_with (fail)
  go_ret
  refine ⟨w1.heap.size, rfl, HB.out.size, ⟨a1, c1, ?_, ?_, ?_, ?_, HP.out.room, HP.out.max, HP.out.at_.alloc _, hl, ?_, fun h => absurd rfl h, (show (0 : Nat) < 256 by omega)⟩, HB.out.alloc HB.out.size _⟩
  · exact cell_of_row _ _ 0 _ _ _ (heap_alloc_new w1 _)
  · exact cell_of_row _ _ 1 _ _ _ (heap_alloc_new w1 _)
  · exact frozen_new _ _ _ _
  · exact frozen_new _ _ _ _
  · cases a1 with
    | none =>
      exact .inl ⟨rfl, HN.out rfl⟩
    | some x =>
      obtain ⟨g, rfl, hg⟩ := HX.out x rfl
      have := HO.out.block hg
      exact .inr ⟨g, 0, rfl, this.1, this.2⟩
end Go.Proofs.Ytbopijlacdkpeaa
