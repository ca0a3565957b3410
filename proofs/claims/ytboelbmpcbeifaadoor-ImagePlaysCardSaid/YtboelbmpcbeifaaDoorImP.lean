/-
  Layer 10: the law's own check of an image; a pixel is right, by the document.
-/
import Derived.Test.YtboelbmpcbeifaaDoorImO
import Derived.Test.YtboelbmpcbeifaaDoorPxD
namespace Go.Proofs.YtboelbmpcbeifaaDoor
open Go.RowKit pxm imm

def frV (z : Nat) : Value := .agg #[.int .i64 ((frm z).r : Nat), .int .i64 ((frm z).g : Nat), .int .i64 ((frm z).b : Nat), .int .i64 ((frm z).a : Nat)]
theorem dfr_any (z : Nat) (hz : z < 4294967296) (w : World) : Calls Tryd.prog 14 #[.int .u32 (z : Nat)] w fun e w' => e = .returned (frV z) ∧ Below w.heap.size w w' := dfrom_any z hz w
theorem drt_any (z : Nat) (hz : z < 4294967296) (w : World) : Calls Tryd.prog 13 #[frV z] w fun e w' => e = .returned (.bool (rb z)) ∧ Below w.heap.size w w' := by
  have h := dright_any ((frm z).r : Nat) ((frm z).g : Nat) ((frm z).b : Nat) ((frm z).a : Nat) w
  rw [drB_right (frm z) (frm_bytes hz)] at h
  exact h
theorem chk_11 {W H : Int} {l : List Nat} (h : ¬ (1 ≤ W ∧ 1 ≤ H ∧ W ≤ 4096 ∧ H ≤ 4096)) : chk W H l = 11 := by
  unfold chk
  rw [if_neg (fun h2 => h (sidesB_iff.1 h2))]
theorem chk_10 {W H : Int} {l : List Nat} (h : 1 ≤ W ∧ 1 ≤ H ∧ W ≤ 4096 ∧ H ≤ 4096) (hn : ¬ (l.length : Int) = W * H) : chk W H l = 10 := by
  unfold chk
  rw [if_pos (sidesB_iff.2 h), if_neg (fun h2 => hn (whole_iff.1 h2).2)]
theorem chk_in {W H : Int} {l : List Nat} (h : 1 ≤ W ∧ 1 ≤ H ∧ W ≤ 4096 ∧ H ≤ 4096) (hn : (l.length : Int) = W * H) : chk W H l = if l.all rb = true then 0 else 10 := by
  unfold chk
  rw [if_pos (sidesB_iff.2 h), if_pos (whole_iff.2 ⟨sidesB_iff.2 h, hn⟩)]
set_option maxHeartbeats 2000000 in
set_option maxRecDepth 100000 in
theorem lcheck_any (W H : Int) (A : Option Addr) (l : List Nat) (c : Nat) (hl : ∀ z ∈ l, z < 4294967296) (hn : l.length ≤ maxLen) (w : World) (hr : Row eW w A l) :
    Calls Tryd.prog 8 #[imV W H A l.length c] w fun e w' => e = .returned (.int .i64 (chk W H l)) ∧ Below w.heap.size w w' := by
  have HC : Hid (chk W H l = chk W H l) := rfl
  have hn3 : l.length ≤ 9223372036854775807 := by unfold maxLen at hn; omega
  have H11 := Lib.hid (fun h => chk_11 (W := W) (H := H) (l := l) h)
  have H10 := Lib.hid (fun h hn => chk_10 (W := W) (H := H) (l := l) h hn)
  have HIN := Lib.hid (fun h hn => chk_in (W := W) (H := H) (l := l) h hn)
  have HMS := Lib.hid (fun h => mul_small (W := W) (H := H) h)
  have HR := Lib.hid hr
  have HL := Lib.hid hl
  clear hr hl hn
  generalize chk W H l = R at *
  unfold imV
  have HB1 : Hid (Below w.heap.size w (w.alloc (.cells #[.int .i64 W, .int .i64 H, .slice A l.length c] 24))) := (Below.refl _ _).alloc (Nat.le_refl _) _
  by_cases t1 : W < 1
  · have t : decide (W < 1) = true := by simpa using t1
    have HF := Lib.hid (H11.out (by omega))
    clear t1
    go_enter Tryd.func8, Tryd.ntmps8
    go_wp2_with (fail)
    go_ret
    exact ⟨ret_num HF.out.symm, HB1.out⟩
  · have s1 : decide (W < 1) = false := by simpa using t1
    by_cases t2 : H < 1
    · have t : decide (H < 1) = true := by simpa using t2
      have HF := Lib.hid (H11.out (by omega))
      clear t1 t2
      go_enter Tryd.func8, Tryd.ntmps8
      go_wp2_with (fail)
      go_ret
      exact ⟨ret_num HF.out.symm, HB1.out⟩
    · have s2 : decide (H < 1) = false := by simpa using t2
      by_cases t3 : 4096 < W
      · have t : decide (4096 < W) = true := by simpa using t3
        have HF := Lib.hid (H11.out (by omega))
        clear t1 t2 t3
        go_enter Tryd.func8, Tryd.ntmps8
        go_wp2_with (fail)
        go_ret
        exact ⟨ret_num HF.out.symm, HB1.out⟩
      · have s3 : decide (4096 < W) = false := by simpa using t3
        by_cases t4 : 4096 < H
        · have t : decide (4096 < H) = true := by simpa using t4
          have HF := Lib.hid (H11.out (by omega))
          clear t1 t2 t3 t4
          go_enter Tryd.func8, Tryd.ntmps8
          go_wp2_with (fail)
          go_ret
          exact ⟨ret_num HF.out.symm, HB1.out⟩
        · have s4 : decide (4096 < H) = false := by simpa using t4
          have hs : 1 ≤ W ∧ 1 ≤ H ∧ W ≤ 4096 ∧ H ≤ 4096 := by omega
          obtain ⟨m1, m2⟩ := HMS.out (sidesB_iff.2 hs)
          have q : wrap64 (W * H) = W * H := IntWalk.wrap64_in _ (by omega)
          have HSI := Lib.hid hs
          clear t1 t2 t3 t4 HMS H11 hs m1 m2
          by_cases t5 : (l.length : Int) = W * H
          · have HI2 := Lib.hid (HIN.out HSI.out t5)
            have q1 : ((l.length : Int) != W * H) = false := by simpa using t5
            clear t5 HIN H10 HSI
            go_enter Tryd.func8, Tryd.ntmps8
            go_wp2_with (fail)
            generalize w.alloc (.cells #[.int .i64 W, .int .i64 H, .slice A l.length c] 24) = w2 at *
            clear s1 s2 s3 s4 q q1
            go_loopw [35] (fun i wr => ∃ k : Nat, k ≤ l.length ∧ i = .int .i64 k ∧ Hid ((l.take k).all rb = true) ∧ Hid (Below w.heap.size w wr)) (fun i _ => l.length - (intOf i).toNat)
            case atStart => exact ⟨0, Nat.zero_le _, rfl, rfl, HB1.out⟩
            case round =>
              obtain ⟨k, hk, rfl, HK, HB⟩ := hrel
              by_cases hlt : k < l.length
              · have t : decide (k < l.length) = true := by simpa using hlt
                obtain ⟨b, off, eA, hc⟩ := (HR.out.below HB.out).at_ hlt
                subst eA
                have hz : l[k] < 4294967296 := HL.out _ (List.getElem_mem hlt)
                have HP := Lib.hid (fun w => dfr_any l[k] hz w)
                have HP2 := Lib.hid (fun w => drt_any l[k] hz w)
                have H1 := Lib.hid (all_take HK.out hlt)
                have H0 := Lib.hid (all_no (p := rb) hlt)
                generalize l[k] = z at *
                unfold eW at hc
                unfold frV at HP HP2
                go_wp2_with (fail)
                refine (HP.out _).mono ?_
                rintro e w3 ⟨rfl, hb⟩
                have HB3 : Hid (Below w.heap.size w w3) := HB.out.trans (hb.mono HB.out.size)
                clear hb HP hc
                go_wp2_with (fail)
                refine (HP2.out _).mono ?_
                rintro e w4 ⟨rfl, hb⟩
                have HB4 : Hid (Below w.heap.size w w4) := HB3.out.trans (hb.mono HB3.out.size)
                clear hb HP2
                generalize rb z = y at *
                cases y with
                | false =>
                  have HF := Lib.hid (HI2.out.trans (if_neg (by rw [H0.out (by trivial)]; decide)))
                  go_wp2_with (fail)
                  go_ret
                  exact ⟨ret_num HF.out.symm, HB4.out⟩
                | true =>
                  go_wp2_with (fail)
                  go_roundw
                  case rel => exact ⟨k + 1, by omega, by go_num, H1.out (by trivial), HB4⟩
                  case measure => simp [intOf]; omega
              · obtain rfl : k = l.length := by omega
                have HF := Lib.hid (HI2.out.trans (if_pos (by have := HK.out; rwa [List.take_length] at this)))
                have t : decide (l.length < l.length) = false := by simp
                go_wp2_with (fail)
                go_ret
                exact ⟨ret_num HF.out.symm, HB.out⟩
          · have HI2 := Lib.hid (H10.out HSI.out t5)
            have q1 : ((l.length : Int) != W * H) = true := by simpa using t5
            clear t5 HIN H10 HSI
            go_enter Tryd.func8, Tryd.ntmps8
            go_wp2_with (fail)
            go_ret
            exact ⟨ret_num HI2.out.symm, HB1.out⟩
end Go.Proofs.YtboelbmpcbeifaaDoor
