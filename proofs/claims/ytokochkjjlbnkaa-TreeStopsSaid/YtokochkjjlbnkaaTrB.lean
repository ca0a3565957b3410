/-
  Layer 12: the document's Kids, without, with.
-/
import Derived.Test.YtokochkjjlbnkaaTrA
import Derived.Deep.RegionHeld3
namespace Go.Proofs.Ytokochkjjlbnkaa
open Go.RowKit trm

theorem kids_take {t : T} {p : Int} {k : Nat} (hk : k < t.length) : kids (t.take (k + 1)) p = if t[k].2 = p then kids (t.take k) p ++ [t[k].1] else kids (t.take k) p := by
  unfold kids
  rw [List.take_succ_eq_append_getElem hk, List.filter_append, List.map_append]
  by_cases h : t[k].2 = p <;> simp [h]
theorem del_take {t : T} {i : Int} {k : Nat} (hk : k < t.length) : del i (t.take (k + 1)) = if t[k].1 = i then del i (t.take k) else del i (t.take k) ++ [t[k]] := by
  unfold del
  rw [List.take_succ_eq_append_getElem hk, List.filter_append]
  by_cases h : t[k].1 = i <;> simp [h]
theorem kids_le (t : T) (p : Int) : (kids t p).length ≤ t.length := by
  unfold kids
  rw [List.length_map]
  exact List.length_filter_le _ _
theorem del_le (t : T) (i : Int) : (del i t).length ≤ t.length := List.length_filter_le _ _
def KidsQ (l : List Int) (w : World) (e : Ending) (w' : World) : Prop := ∃ v, e = .returned v ∧ IOwn w' w.heap.size v l ∧ Below w.heap.size w w'
def RowsQ (t : T) (w : World) (e : Ending) (w' : World) : Prop := ∃ v, e = .returned v ∧ ROwn w' w.heap.size v t ∧ Below w.heap.size w w'

set_option maxHeartbeats 1000000 in
theorem dkids (A : Option Addr) (t : T) (c : Nat) (p : Int) (w : World) (hr : RRow w A t) (hn : t.length ≤ 100000) :
    Calls Try.prog 38 #[.slice A t.length c, .int .i64 p] w (KidsQ (kids t p) w) := by
  unfold KidsQ
  have HR := Lib.hid hr
  have HN := Lib.hid hn
  clear hr hn
  go_enter Try.func38, Try.ntmps38
  go_wp2_with (fail)
  go_loopw [5, 6] (fun v x wr => ∃ k : Nat, k ≤ t.length ∧ x = .int .i64 k ∧ Hid (IOwn wr w.heap.size v (kids (t.take k) p)) ∧ Hid (Below w.heap.size w wr)) (fun _ x _ => t.length - (intOf x).toNat)
  case atStart => exact ⟨0, Nat.zero_le _, rfl, SOwn.nil _ _, Below.refl _ _⟩
  case round =>
    obtain ⟨k, hk, rfl, HO, HB⟩ := hrel
    by_cases hlt : k < t.length
    · have t1 : decide (k < t.length) = true := by simpa using hlt
      obtain ⟨b, o, rA, k1, k2⟩ := RRow.at_ (HR.out.below HB.out) hlt
      subst rA
      have HS := Lib.hid (kids_take (p := p) hlt)
      have HL : Hid ((kids (t.take k) p).length ≤ 100000) := by
        have := kids_le (t.take k) p
        have h2 := HN.out
        show _ ≤ _
        rw [List.length_take] at this
        omega
      have HK := Lib.hid (show k ≤ 100000 by have := HN.out; omega)
      obtain ⟨l1, hl1⟩ : ∃ x, kids (t.take (k + 1)) p = x := ⟨_, rfl⟩
      have HL1 := Lib.hid hl1
      rw [hl1] at HS
      clear hl1
      generalize t[k] = r at *
      obtain ⟨x, y⟩ := r
      simp only at k1 k2 HS
      generalize kids (t.take k) p = l at *
      by_cases e : y = p
      · have HS2 := Lib.hid (HS.out.trans (if_pos e))
        have q : (y == p) = true := by simpa using e
        obtain ⟨v', w7, hrun, own7, hgr, hat⟩ := app_one HO.out x (c := 1) (by have := HL.out; omega) HB.out.size
        have HB7 : Hid (Below w.heap.size w w7) := (HB.out.alloc HB.out.size _).grown hgr (by have := HB.out.size; simp; omega) (fun j hj => (HO.out.block hj).1)
        have HO7 : Hid (IOwn w7 w.heap.size v' l1) := by rw [HS2.out]; exact own7
        have hkb : (k : Int) ≤ 100000 := by have := HK.out; omega
        clear HS e own7 hgr hat HO HB HK
        go_wp2_with (at_builtin; refine wpl_append rfl _ _ 35 35 35 rfl rfl _ _ _ _ rfl rfl hrun ?_; clear hrun)
        go_roundw
        case rel => exact ⟨k + 1, by omega, by go_num, by rw [HL1.out]; exact HO7, HB7⟩
        case measure => simp [intOf]; omega
      · have HS2 := Lib.hid (HS.out.trans (if_neg e))
        have q : (y == p) = false := by simpa using e
        have hkb : (k : Int) ≤ 100000 := by have := HK.out; omega
        have HO7 : Hid (IOwn wr w.heap.size u5 l1) := by rw [HS2.out]; exact HO.out
        clear HS e HK
        go_wp2_with (fail)
        go_roundw
        case rel => exact ⟨k + 1, by omega, by go_num, by rw [HL1.out]; exact HO7, HB⟩
        case measure => simp [intOf]; omega
    · obtain rfl : k = t.length := by omega
      have hO := HO.out
      rw [List.take_length] at hO
      have HO2 := Lib.hid hO
      clear hO HO
      have t1 : decide (t.length < t.length) = false := by simp
      go_wp2_with (fail)
      go_ret
      exact ⟨_, rfl, HO2.out, HB.out⟩

set_option maxHeartbeats 1000000 in
theorem dwithout (A : Option Addr) (t : T) (c : Nat) (i : Int) (w : World) (hr : RRow w A t) (hn : t.length ≤ 100000) :
    Calls Try.prog 59 #[.slice A t.length c, .int .i64 i] w (RowsQ (del i t) w) := by
  unfold RowsQ
  have HR := Lib.hid hr
  have HN := Lib.hid hn
  clear hr hn
  go_enter Try.func59, Try.ntmps59
  go_wp2_with (fail)
  go_loopw [5, 6] (fun v x wr => ∃ k : Nat, k ≤ t.length ∧ x = .int .i64 k ∧ Hid (ROwn wr w.heap.size v (del i (t.take k))) ∧ Hid (Below w.heap.size w wr)) (fun _ x _ => t.length - (intOf x).toNat)
  case atStart => exact ⟨0, Nat.zero_le _, rfl, SOwn.nil _ _, Below.refl _ _⟩
  case round =>
    obtain ⟨k, hk, rfl, HO, HB⟩ := hrel
    by_cases hlt : k < t.length
    · have t1 : decide (k < t.length) = true := by simpa using hlt
      obtain ⟨b, o, rA, k1, k2⟩ := RRow.at_ (HR.out.below HB.out) hlt
      subst rA
      have HS := Lib.hid (del_take (i := i) hlt)
      have HL : Hid ((del i (t.take k)).length ≤ 100000) := by
        have := del_le (t.take k) i
        have h2 := HN.out
        show _ ≤ _
        rw [List.length_take] at this
        omega
      have HK := Lib.hid (show k ≤ 100000 by have := HN.out; omega)
      obtain ⟨l1, hl1⟩ : ∃ x, del i (t.take (k + 1)) = x := ⟨_, rfl⟩
      have HL1 := Lib.hid hl1
      rw [hl1] at HS
      clear hl1
      generalize t[k] = r at *
      obtain ⟨x, y⟩ := r
      simp only at k1 k2 HS
      generalize del i (t.take k) = l at *
      by_cases e : x = i
      · have HS2 := Lib.hid (HS.out.trans (if_pos e))
        have q : (x != i) = false := by simpa using e
        have hkb : (k : Int) ≤ 100000 := by have := HK.out; omega
        have HO7 : Hid (ROwn wr w.heap.size u5 l1) := by rw [HS2.out]; exact HO.out
        clear HS e HK
        go_wp2_with (fail)
        go_roundw
        case rel => exact ⟨k + 1, by omega, by go_num, by rw [HL1.out]; exact HO7, HB⟩
        case measure => simp [intOf]; omega
      · have HS2 := Lib.hid (HS.out.trans (if_neg e))
        have q : (x != i) = true := by simpa using e
        obtain ⟨v', w7, hrun, own7, hgr, hat⟩ := app_row1 HO.out x y (c := 1) (by have := HL.out; omega) HB.out.size
        have HB7 : Hid (Below w.heap.size w w7) := (HB.out.alloc HB.out.size _).grown hgr (by have := HB.out.size; simp; omega) (fun j hj => (HO.out.block hj).1)
        have HO7 : Hid (ROwn w7 w.heap.size v' l1) := by rw [HS2.out]; exact own7
        have hkb : (k : Int) ≤ 100000 := by have := HK.out; omega
        clear HS e own7 hgr hat HO HB HK
        go_wp2_with (at_builtin; refine wpl_append rfl _ _ 28 28 28 rfl rfl _ _ _ _ rfl rfl hrun ?_; clear hrun)
        go_roundw
        case rel => exact ⟨k + 1, by omega, by go_num, by rw [HL1.out]; exact HO7, HB7⟩
        case measure => simp [intOf]; omega
    · obtain rfl : k = t.length := by omega
      have hO := HO.out
      rw [List.take_length] at hO
      have HO2 := Lib.hid hO
      clear hO HO
      have t1 : decide (t.length < t.length) = false := by simp
      go_wp2_with (fail)
      go_ret
      exact ⟨_, rfl, HO2.out, HB.out⟩
end Go.Proofs.Ytokochkjjlbnkaa
