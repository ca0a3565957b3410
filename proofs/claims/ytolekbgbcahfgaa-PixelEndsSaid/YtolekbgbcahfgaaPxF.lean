/-
  Layer 9: the law's own right; the fixed answer.
-/
import Derived.Test.YtolekbgbcahfgaaPxE
namespace Go.Proofs.Ytolekbgbcahfgaa
open Go.RowKit pxm

def eW (n : Nat) : Value := .int .u32 (n : Nat)
def rightL (l : List Nat) : Bool := l.all (fun n => (frm n).rightB) && decide (l.length ≤ 60)
theorem rightL_yes {l : List Nat} (h : rightL l = true) : (∀ n ∈ l, (frm n).Right) ∧ l.length ≤ 60 := by
  unfold rightL at h
  rw [Bool.and_eq_true, List.all_eq_true, decide_eq_true_eq] at h
  exact ⟨fun n hn => P4.rightB_iff.1 (h.1 n hn), h.2⟩
theorem rightL_one {n : Nat} (h : rightL [n] = true) : (frm n).Right := (rightL_yes h).1 n List.mem_cons_self
set_option maxHeartbeats 1000000 in
theorem rightl_any (A : Option Addr) (l : List Nat) (c : Nat) (w : World) (hl : ∀ n ∈ l, n < 4294967296) (hrow : Row eW w A l) (hn : l.length ≤ maxLen) :
    Calls Try.prog 17 #[.slice A l.length c] w fun e w' => e = .returned (.bool (rightL l)) ∧ Below w.heap.size w w' := by
  unfold maxLen at hn
  have HROW := Lib.hid hrow
  have HL := Lib.hid hl
  have HR : Hid (rightL l = (l.all (fun n => (frm n).rightB) && decide (l.length ≤ 60))) := rfl
  clear hrow hl
  generalize rightL l = R at *
  go_enter Try.func17, Try.ntmps17
  go_wp2_with (fail)
  go_loopw [7] (fun i wr => ∃ k : Nat, k ≤ l.length ∧ i = .int .i64 k ∧ Hid ((l.take k).all (fun n => (frm n).rightB) = true) ∧ Hid (Below w.heap.size w wr)) (fun i _ => l.length - (intOf i).toNat)
  case atStart => exact ⟨0, Nat.zero_le _, rfl, rfl, Below.refl _ _⟩
  case round =>
    obtain ⟨k, hk, rfl, HK, HB⟩ := hrel
    by_cases hlt : k < l.length
    · obtain ⟨b, off, rfl, hc⟩ := Row.at_ (HROW.out.below HB.out) hlt
      unfold eW at hc
      have H1 := Lib.hid (all_snoc HK.out hlt)
      have H0 := Lib.hid (all_bad (p := fun n => (frm n).rightB) hlt)
      have hb32 := HL.out _ (List.getElem_mem hlt)
      have HF := Lib.hid (fun w => dfrom_any l[k] hb32 w)
      have HD := Lib.hid (fun w => dright_any (frm l[k]).r (frm l[k]).g (frm l[k]).b (frm l[k]).a w)
      rw [drB_right _ (frm_bytes hb32)] at HD
      clear HK
      generalize (frm l[k]).rightB = y at *
      generalize frm l[k] = p at *
      generalize l[k] = n at *
      obtain ⟨pr, pg, pb, pa⟩ := p
      simp only at HF HD
      go_wp2_with (fail)
      refine (HF.out _).mono ?_
      rintro e w2 ⟨rfl, hb⟩
      have HB2 := Lib.hid (bel_step HB.out (Nat.le_refl _) hb)
      clear hb HB hc HF
      go_wp2_with (fail)
      refine (HD.out _).mono ?_
      rintro e w3 ⟨rfl, hb⟩
      have HB3 := Lib.hid (bel_step HB2.out (Nat.le_refl _) hb)
      clear hb HB2 HD
      cases y with
      | true =>
        have HK2 := Lib.hid (H1.out rfl)
        clear H1 H0
        go_wp2_with (fail)
        go_roundw
        case rel => exact ⟨k + 1, by omega, by go_num, HK2, HB3⟩
        case measure => simp [intOf]; omega
      | false =>
        have hA := H0.out rfl
        have HF : Hid (R = false) := by
          have := HR.out
          rw [hA] at this
          exact this
        clear H1 H0 HR hA
        go_wp2_with (fail)
        go_ret
        exact ⟨ret_bool HF.out.symm, HB3.out⟩
    · obtain rfl : k = l.length := by omega
      have hA := HK.out
      rw [List.take_length] at hA
      have HF : Hid (R = decide (l.length ≤ 60)) := by
        have := HR.out
        rw [hA, Bool.true_and] at this
        exact this
      clear HR hA HK
      go_wp2_with (fail)
      go_ret
      exact ⟨ret_bool (by rw [HF.out, decide_eq_decide]; omega), HB.out⟩
theorem bel_new {W w w2 : World} {o : Obj} (h : Below W.heap.size W w) (hb : Below (w.alloc o).heap.size (w.alloc o) w2) : Below W.heap.size W w2 :=
  (h.alloc h.size _).trans (hb.mono (by have := h.size; simp; omega))
def sP : P4 := ⟨128, 0, 0, 128⟩
def dP : P4 := ⟨0, 0, 255, 255⟩
theorem sP_right : sP.Right := by simp [P4.Right, sP]
theorem dP_right : dP.Right := by simp [P4.Right, dP]
set_option maxRecDepth 100000 in
set_option maxHeartbeats 4000000 in
theorem awake_any (w : World) : Calls Try.prog 14 #[] w fun e w' => e = .returned (.bool true) ∧ Below w.heap.size w w' := by
  have H1 : Hid (∀ w, Calls Try.prog 8 #[.int .i64 128, .int .i64 0, .int .i64 0, .int .i64 128] w fun e w' => e = .returned (.tuple #[.int .u32 2147483776, .bool true]) ∧ Below w.heap.size w w') := fun w => of_yes sP sP_right w
  have H2 : Hid (∀ w, Calls Try.prog 8 #[.int .i64 0, .int .i64 0, .int .i64 255, .int .i64 255] w fun e w' => e = .returned (.tuple #[.int .u32 65535, .bool true]) ∧ Below w.heap.size w w') := fun w => of_yes dP dP_right w
  have H3 : Hid (∀ w, Calls Try.prog 8 #[.int .i64 2, .int .i64 0, .int .i64 0, .int .i64 1] w fun e w' => e = .returned (.tuple #[.int .u32 0, .bool false]) ∧ Below w.heap.size w w') := fun w => of_no 2 0 0 1 (by omega) w
  have H4 : Hid (∀ w A c, Row eP w A [dP] → Calls Try.prog 19 #[.int .u32 2147483776, .slice A 1 c] w fun e w' => e = .returned (.int .u32 2147516415) ∧ Below w.heap.size w w') :=
    fun w A c h => over_any sP sP_right A [dP] c w (by intro d hd; rw [List.mem_singleton.1 hd]; exact dP_right) h (by unfold maxLen; simp)
  have H5 : Hid (∀ w, Calls Try.prog 12 #[.int .u32 2147516415] w fun e w' => e = .returned (.tuple #[.int .i64 128, .int .i64 0, .int .i64 127, .int .i64 255]) ∧ Drew w w') := fun w => parts_any ⟨128, 0, 127, 255⟩ (by simp [P4.Bytes]) w
  have H6 : Hid (∀ w, Calls Try.prog 15 #[.int .i64 128, .int .i64 128] w fun e w' => e = .returned (.int .i64 64) ∧ Drew w w') := fun w => by_any 128 128 (by omega) (by omega) w
  have H7 : Hid (∀ w A c, Row eN w A [128] → Calls Try.prog 22 #[.int .u32 2147483776, .slice A 1 c] w fun e w' => e = .returned (.int .u32 1073741888) ∧ Below w.heap.size w w') :=
    fun w A c h => bys_any sP sP_right A [128] c w (by intro d hd; rw [List.mem_singleton.1 hd]; omega) h (by unfold maxLen; simp)
  have H8 : Hid (∀ w, Calls Try.prog 13 #[.int .u32 1073741888] w fun e w' => e = .returned (.bool true) ∧ Drew w w') := fun w => right_any ⟨64, 0, 0, 64⟩ (by simp [P4.Bytes]) w
  have H9 : Hid (∀ w A c, Row eP w A [dP, sP] → Calls Try.prog 20 #[.slice A 2 c] w fun e w' => e = .returned (.int .u32 2147516415) ∧ Below w.heap.size w w') :=
    fun w A c h => stack_any A [dP, sP] c w (by intro d hd; simp only [List.mem_cons, List.not_mem_nil, or_false] at hd; rcases hd with rfl | rfl; exact dP_right; exact sP_right) h (by unfold maxLen; simp)
  go_enter Try.func14, Try.ntmps14
  go_wp2_with (fail)
  refine (H1.out _).mono ?_
  rintro e w1 ⟨rfl, hb⟩
  have B1 := Lib.hid hb
  clear hb
  go_wp2_with (fail)
  refine (H2.out _).mono ?_
  rintro e w2 ⟨rfl, hb⟩
  have B2 := Lib.hid (bel_step B1.out (Nat.le_refl _) hb)
  clear hb B1
  go_wp2_with (fail)
  refine (H3.out _).mono ?_
  rintro e w3 ⟨rfl, hb⟩
  have B3 := Lib.hid (bel_step B2.out (Nat.le_refl _) hb)
  clear hb B2
  go_wp2_with (fail)
  refine (H4.out _ _ _ (row_new w3 [dP] _)).mono ?_
  rintro e w4 ⟨rfl, hb⟩
  have B4 := Lib.hid (bel_new B3.out hb)
  clear hb B3
  go_wp2_with (fail)
  refine (H5.out _).mono ?_
  rintro e w5 ⟨rfl, hb⟩
  have B5 := Lib.hid (bel_step B4.out (Nat.le_refl _) (hb.below _))
  clear hb B4
  go_wp2_with (fail)
  refine (H6.out _).mono ?_
  rintro e w6 ⟨rfl, hb⟩
  have B6 := Lib.hid (bel_step B5.out (Nat.le_refl _) (hb.below _))
  clear hb B5
  go_wp2_with (fail)
  refine (H7.out _ _ _ (row_new w6 [128] _)).mono ?_
  rintro e w7 ⟨rfl, hb⟩
  have B7 := Lib.hid (bel_new B6.out hb)
  clear hb B6
  go_wp2_with (fail)
  refine (H8.out _).mono ?_
  rintro e w8 ⟨rfl, hb⟩
  have B8 := Lib.hid (bel_step B7.out (Nat.le_refl _) (hb.below _))
  clear hb B7
  go_wp2_with (fail)
  refine (H9.out _ _ _ (row_new w8 [dP, sP] _)).mono ?_
  rintro e w9 ⟨rfl, hb⟩
  have B9 := Lib.hid (bel_new B8.out hb)
  clear hb B8
  go_wp2_with (fail)
  refine (H4.out _ _ _ (row_new w9 [dP] _)).mono ?_
  rintro e w10 ⟨rfl, hb⟩
  have B10 := Lib.hid (bel_new B9.out hb)
  clear hb B9
  go_wp2_with (fail)
  go_ret
  exact ⟨rfl, B10.out⟩
end Go.Proofs.Ytolekbgbcahfgaa
