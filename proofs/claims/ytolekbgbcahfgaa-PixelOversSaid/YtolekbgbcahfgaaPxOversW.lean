/-
  PixelOvers: the law's walk.
-/
import Derived.Test.YtolekbgbcahfgaaPxG
namespace Go.Proofs.Ytolekbgbcahfgaa
open Go.RowKit pxm

theorem overAll_snoc (p : P4) (l : List P4) (d : P4) : overAll p (l ++ [d]) = (overAll p l).over d := by
  unfold overAll
  rw [List.foldl_append]
  rfl
theorem stack_snoc (p : P4) (l : List P4) (d : P4) : stack p (l ++ [d]) = d.over (stack p l) := stack_app p l [d]
set_option maxRecDepth 100000 in
set_option maxHeartbeats 4000000 in
theorem overs_law (p0 : Int) (A : Option Addr) (l : List Nat) (c : Nat) (w : World) (h1 : 0 ≤ p0) (h2 : p0 ≤ 4294967295) (hrow : Row eW w A l) (_hc : l.length ≤ c) (hm : c ≤ maxLen) (h32 : ∀ z ∈ l, z < 4294967296) :
    Calls Try.prog 5 #[.int .u32 p0, .slice A l.length c] w fun e w' => e = .returned (.bool true) ∧ Below w.heap.size w w' := by
  have HAW := Lib.hid (fun w => awake_any w)
  have hln : l.length ≤ maxLen := Nat.le_trans _hc hm
  have HRL := Lib.hid (rightl_any A l c w h32 hrow hln)
  unfold maxLen at hln
  obtain ⟨n, rfl⟩ : ∃ n : Nat, p0 = (n : Nat) := ⟨p0.toNat, by omega⟩
  have hn : n < 4294967296 := by omega
  have HROW := Lib.hid hrow
  have HRT := Lib.hid (fun w => rightl1 n hn w)
  have HFR := Lib.hid (fun w => dfrom_any n hn w)
  have H32 := Lib.hid h32
  clear hrow _hc hm h32 h1 h2
  cases hRL : rightL l with
  | false =>
    rw [hRL] at HRL
    clear hRL HFR HRT
    go_enter Try.func5, Try.ntmps5
    go_wp2_with (fail)
    refine HRL.out.mono ?_
    rintro e w1 ⟨rfl, hb⟩
    have HB1 := Lib.hid hb
    clear hb
    go_wp2_with (fail)
    refine (HAW.out _).mono ?_
    rintro e w2 ⟨rfl, hb⟩
    have HB2 := Lib.hid (bel_step HB1.out (Nat.le_refl _) hb)
    clear hb
    go_wp2_with (fail)
    go_ret
    exact ⟨rfl, HB2.out⟩
  | true =>
    rw [hRL] at HRL
    have HPR := Lib.hid (px_right hRL)
    have HL60 := Lib.hid (rightL_yes hRL).2
    clear hRL
    cases hR : rightL [n] with
    | false =>
      rw [hR] at HRT
      clear hR HFR
      go_enter Try.func5, Try.ntmps5
      go_wp2_with (fail)
      refine HRL.out.mono ?_
      rintro e w0 ⟨rfl, hb⟩
      have HB0 := Lib.hid hb
      clear hb
      go_wp2_with (fail)
      refine (HRT.out _).mono ?_
      rintro e w1 ⟨rfl, hb⟩
      have HB1 := Lib.hid (bel_new HB0.out hb)
      clear hb
      go_wp2_with (fail)
      refine (HAW.out _).mono ?_
      rintro e w2 ⟨rfl, hb⟩
      have HB2 := Lib.hid (bel_step HB1.out (Nat.le_refl _) hb)
      clear hb
      go_wp2_with (fail)
      go_ret
      exact ⟨rfl, HB2.out⟩
    | true =>
      rw [hR] at HRT
      have HP := Lib.hid (rightL_one hR)
      have HNU : Hid ((frm n).num = n) := num_frm
      clear hR
      generalize frm n = P at *
      go_enter Try.func5, Try.ntmps5
      go_wp2_with (fail)
      refine HRL.out.mono ?_
      rintro e w0 ⟨rfl, hb⟩
      have HB0 := Lib.hid hb
      clear hb
      go_wp2_with (fail)
      refine (HRT.out _).mono ?_
      rintro e w1 ⟨rfl, hb⟩
      have HB1 := Lib.hid (bel_new HB0.out hb)
      clear hb
      go_wp2_with (fail)
      refine (HFR.out _).mono ?_
      rintro e w2 ⟨rfl, hb⟩
      have HB2 := Lib.hid (bel_step HB1.out (Nat.le_refl _) hb)
      have HRW2 := Lib.hid (HROW.out.below HB2.out)
      clear hb HFR HRT HROW HRL HB0 HB1
      go_wp2_with (fail)
      go_loopw [5, 27] (fun v i wr => ∃ k : Nat, k ≤ l.length ∧ i = .int .i64 k ∧ Hid (POwn wr (w2.heap.size + 1 + 1) v ((px l).take k)) ∧ Hid (Blk wr w2.heap.size (overAll P ((px l).take k)).cs) ∧ Hid (Blk wr (w2.heap.size + 1) (stack zero ((px l).take k)).cs) ∧ Hid (Below w2.heap.size w2 wr) ∧ Hid (w2.heap.size + 1 + 1 ≤ wr.heap.size)) (fun _ i _ => l.length - (intOf i).toNat)
      case atStart =>
        refine ⟨0, Nat.zero_le _, rfl, SOwn.nil _ _, (blk_new w2 P.cs _).alloc _, blk_at (w2.alloc _) _ (by simp) zero.cs _, ((Below.refl _ _).alloc (Nat.le_refl _) _).alloc (by simp) _, ?_⟩
        show _ ≤ _
        simp
      case round =>
        obtain ⟨k, hk, rfl, HO, HX, HY, HB, HSZ⟩ := hrel
        by_cases hlt : k < l.length
        · obtain ⟨b, off, rfl, hc⟩ := Row.at_ (HRW2.out.below HB.out) hlt
          unfold eW at hc
          have HT := Lib.hid (px_take hlt)
          have HS1 : Hid (overAll P ((px l).take (k + 1)) = (overAll P ((px l).take k)).over (frm l[k])) := by show _ = _; rw [HT.out]; exact overAll_snoc _ _ _
          have HS2 : Hid (stack zero ((px l).take (k + 1)) = (frm l[k]).over (stack zero ((px l).take k))) := by show _ = _; rw [HT.out]; exact stack_snoc _ _ _
          have hXr := overAll_right HP.out (right_take HPR.out k)
          have hYr := stack_right zero_right (right_take HPR.out k)
          have hdr : (frm l[k]).Right := HPR.out _ (List.mem_map.2 ⟨_, List.getElem_mem hlt, rfl⟩)
          have hm32 := H32.out _ (List.getElem_mem hlt)
          have HFD := Lib.hid (fun w => dfrom_any l[k] hm32 w)
          have HV1 := Lib.hid (fun w => dover_any _ _ hXr hdr w)
          have HV2 := Lib.hid (fun w => dover_any _ _ hdr hYr w)
          obtain ⟨v', w3, hrun, own3, hgr⟩ := app_px HO.out (frm l[k]) (by rw [List.length_take, px_len]; have := HL60.out; omega) HSZ.out
          rw [← HT.out] at own3
          rw [num_frm] at hrun hgr
          have hbk : ∀ j, u5.ownBlock = some j → w2.heap.size + 1 + 1 ≤ j := fun j hj => (SOwn.block HO.out hj).1
          have HX3 : Hid (Blk w3 w2.heap.size (overAll P ((px l).take k)).cs) := (HX.out.alloc _).stays (hgr.block _ (by have := HSZ.out; simp; omega) (fun e => by have := hbk _ e.symm; omega))
          have HY3 : Hid (Blk w3 (w2.heap.size + 1) (stack zero ((px l).take k)).cs) := (HY.out.alloc _).stays (hgr.block _ (by have := HSZ.out; simp; omega) (fun e => by have := hbk _ e.symm; omega))
          have HB3 : Hid (Below w2.heap.size w2 w3) := (HB.out.alloc HB.out.size _).grown hgr (by have := HB.out.size; simp; omega) (fun j hj => by have := hbk j hj; omega)
          have HSZ3 : Hid (w2.heap.size + 1 + 1 ≤ w3.heap.size) := by have := hgr.size; have := HSZ.out; show _ ≤ _; simp at *; omega
          have HO3 := Lib.hid own3
          have hb32 : b < wr.heap.size := World.block_lt_of_cell? wr ⟨b, _, none⟩ hc
          clear own3 hgr hbk HO HX HY HB HSZ HT hXr hYr hdr
          generalize overAll P ((px l).take k) = X at *
          generalize stack zero ((px l).take k) = Y at *
          generalize frm l[k] = d at *
          generalize l[k] = m at *
          generalize X.over d = Z1 at *
          generalize d.over Y = Z2 at *
          obtain ⟨xr, xg, xb, xa⟩ := X
          obtain ⟨yr, yg, yb, ya⟩ := Y
          obtain ⟨dr, dg, db, da⟩ := d
          obtain ⟨pr, pg, pb, pa⟩ := Z1
          obtain ⟨qr, qg, qb, qa⟩ := Z2
          simp only [pxm.P4.cs] at HFD HV1 HV2 HX3 HY3
          go_wp2_with (at_builtin; refine wpl_append rfl _ _ 39 39 39 rfl rfl _ _ _ _ rfl rfl hrun ?_)
          clear hrun hc hb32
          have HJ : Hid (JC w2.heap.size [] w2.heap.size [.int .i64 (xr : Nat), .int .i64 (xg : Nat), .int .i64 (xb : Nat), .int .i64 (xa : Nat)] [.int .i64 (pr : Nat), .int .i64 (pg : Nat), .int .i64 (pb : Nat), .int .i64 (pa : Nat)] false false w3.drew) := JC.start trivial (Nat.le_refl _) HX3.out (fun p hp => by cases hp)
          refine regs.wp_region_put (fun a b => World.grownBy a b (some (w2.heap.size))) (fun L wx => JC w2.heap.size [] (w2.heap.size) [.int .i64 (xr : Nat), .int .i64 (xg : Nat), .int .i64 (xb : Nat), .int .i64 (xa : Nat)] [.int .i64 (pr : Nat), .int .i64 (pg : Nat), .int .i64 (pb : Nat), .int .i64 (pa : Nat)] (L 0) (L 4) wx) [35, 36, 37, 38] (by kernel_rfl) (by kernel_rfl) (fun _ => grown_of_below (Below.refl _ _) _) (fun _ _ _ h k => h.trans k) (fun i => (match i with
            | 0 => regs.Say.val _ (.agg #[.int .i64 (xr : Nat), .int .i64 (xg : Nat), .int .i64 (xb : Nat), .int .i64 (xa : Nat)])
            | 1 => regs.Say.val _ (.int .u32 (m : Nat))
            | 2 => regs.Say.val _ (.agg #[.int .i64 (dr : Nat), .int .i64 (dg : Nat), .int .i64 (db : Nat), .int .i64 (da : Nat)])
            | 3 => regs.Say.val _ (.agg #[.int .i64 (pr : Nat), .int .i64 (pg : Nat), .int .i64 (pb : Nat), .int .i64 (pa : Nat)])
            | 4 => regs.Say.any _
            | _ => regs.Say.any _ : regs.Say (fun a b => World.grownBy a b (some (w2.heap.size)))).p) (fun _ => regs.Say.mono _) (by kernel_rfl) (grown_of_below (Below.refl _ _).drew _) (HJ.out) ⟨?_, ?_, ?_, ?_, ?_, trivial⟩ ?_
          · refine regs.StepOK.plain rfl fun L a w1 hh => ?_
            have h6 : a.tmps[6]?.getD undef = .pointer (some ⟨w2.heap.size, 0, none⟩) := by rw [← Array.getD_eq_getD_getElem?]; exact hh.old 6 rfl
            have hrd := (hh.st.read hh.un).1
            obtain ⟨⟨c0, c1, c2, c3⟩, -, ci⟩ := hrd.c4
            have hJ := Lib.hid hh.st.done
            clear hh hrd
            go_simp
            exact ⟨_, rfl, grown_of_below (Below.refl _ _) _, rfl, hJ.out⟩
          · refine regs.StepOK.plain rfl fun L a w1 hh => ?_
            have h9 : a.tmps[9]?.getD undef = .int .u32 (m : Nat) := by rw [← Array.getD_eq_getD_getElem?]; exact hh.old 9 rfl
            have hJ := Lib.hid hh.st
            clear hh
            go_simp
            exact ⟨_, rfl, grown_of_below (Below.refl _ _) _, rfl, hJ.out⟩
          · refine regs.StepOK.plain rfl fun L a w1 hh => ?_
            have h36 : a.tmps[36]?.getD undef = .int .u32 (m : Nat) := by rw [← Array.getD_eq_getD_getElem?]; exact hh.dep 1 36 (by kernel_rfl) (by kernel_rfl)
            have := True.intro
            have hJ := Lib.hid hh.st
            clear hh
            go_simp
            refine (HFD.out w1).mono ?_
            rintro e w9 ⟨rfl, hb9⟩
            exact ⟨_, rfl, grown_of_below hb9 _, rfl, JC.below hJ.out hb9⟩
          · refine regs.StepOK.plain rfl fun L a w1 hh => ?_
            have h35 : a.tmps[35]?.getD undef = .agg #[.int .i64 (xr : Nat), .int .i64 (xg : Nat), .int .i64 (xb : Nat), .int .i64 (xa : Nat)] := by rw [← Array.getD_eq_getD_getElem?]; exact hh.dep 0 35 (by kernel_rfl) (by kernel_rfl)
            have h37 : a.tmps[37]?.getD undef = .agg #[.int .i64 (dr : Nat), .int .i64 (dg : Nat), .int .i64 (db : Nat), .int .i64 (da : Nat)] := by rw [← Array.getD_eq_getD_getElem?]; exact hh.dep 2 37 (by kernel_rfl) (by kernel_rfl)
            have := True.intro
            have hJ := Lib.hid hh.st
            clear hh
            go_simp
            refine (HV1.out w1).mono ?_
            rintro e w9 ⟨rfl, hb9⟩
            exact ⟨_, rfl, grown_of_below hb9 _, rfl, JC.below hJ.out hb9⟩
          · refine regs.StepOK.plain rfl fun L a w1 hh => ?_
            have h6 : a.tmps[6]?.getD undef = .pointer (some ⟨w2.heap.size, 0, none⟩) := by rw [← Array.getD_eq_getD_getElem?]; exact hh.old 6 rfl
            have h38 : a.tmps[38]?.getD undef = .agg #[.int .i64 (pr : Nat), .int .i64 (pg : Nat), .int .i64 (pb : Nat), .int .i64 (pa : Nat)] := by rw [← Array.getD_eq_getD_getElem?]; exact hh.dep 3 38 (by kernel_rfl) (by kernel_rfl)
            have hB := hh.st.2.2.1
            rw [hh.un] at hB
            obtain ⟨⟨c0, c1, c2, c3⟩, ⟨f0, f1, f2, f3⟩, ci⟩ := (show Blk w1 (w2.heap.size) [.int .i64 (xr : Nat), .int .i64 (xg : Nat), .int .i64 (xb : Nat), .int .i64 (xa : Nat)] from hB).c4
            have hP := Lib.hid (JC.putAll hh.st rfl hh.un (hh.up 0 (by kernel_rfl)))
            have hG := Lib.hid (putBlk_grown (w2.heap.size) [.int .i64 (pr : Nat), .int .i64 (pg : Nat), .int .i64 (pb : Nat), .int .i64 (pa : Nat)] w1)
            clear hh hB
            go_simp
            exact ⟨hG.out, ⟨undef, trivial⟩, hP.out.1⟩
          intro L w4 val hL hJ hRR hv
          have hJ2 := hJ.2.2.1
          rw [hL 4 (by decide)] at hJ2
          have HN := Lib.hid (show Blk w4 (w2.heap.size) [.int .i64 (pr : Nat), .int .i64 (pg : Nat), .int .i64 (pb : Nat), .int .i64 (pa : Nat)] from hJ2)
          have HG := Lib.hid hRR
          clear hv hL hJ hRR hJ2 HJ
          simp only [regs.putAll, List.map_cons, List.map_nil]
          generalize val 35 = v35
          generalize val 36 = v36
          generalize val 37 = v37
          generalize val 38 = v38
          simp only [Act.put, List.setIfInBounds_toArray, List.set_cons_zero, List.set_cons_succ]
          have HX4 := Lib.hid HN.out
          have HY4 := Lib.hid (HY3.out.far HG.out (by omega))
          have HO4 := Lib.hid (HO3.out.far HG.out (by omega))
          have HB4 := Lib.hid (below_grown HB3.out HG.out (Nat.le_refl _))
          have HSZ4 := Lib.hid (Nat.le_trans HSZ3.out HG.out.size)
          clear HN HG HX3 HY3 HO3 HB3 HSZ3
          go_wp2_with (fail)
          have HJ : Hid (JC w2.heap.size [] (w2.heap.size + 1) [.int .i64 (yr : Nat), .int .i64 (yg : Nat), .int .i64 (yb : Nat), .int .i64 (ya : Nat)] [.int .i64 (qr : Nat), .int .i64 (qg : Nat), .int .i64 (qb : Nat), .int .i64 (qa : Nat)] false false w4.drew) := JC.start trivial (by omega) HY4.out (fun p hp => by cases hp)
          refine regs.wp_region_put (fun a b => World.grownBy a b (some (w2.heap.size + 1))) (fun L wx => JC w2.heap.size [] (w2.heap.size + 1) [.int .i64 (yr : Nat), .int .i64 (yg : Nat), .int .i64 (yb : Nat), .int .i64 (ya : Nat)] [.int .i64 (qr : Nat), .int .i64 (qg : Nat), .int .i64 (qb : Nat), .int .i64 (qa : Nat)] (L 2) (L 4) wx) [39, 40, 41, 42] (by kernel_rfl) (by kernel_rfl) (fun _ => grown_of_below (Below.refl _ _) _) (fun _ _ _ h k => h.trans k) (fun i => (match i with
            | 0 => regs.Say.val _ (.int .u32 (m : Nat))
            | 1 => regs.Say.val _ (.agg #[.int .i64 (dr : Nat), .int .i64 (dg : Nat), .int .i64 (db : Nat), .int .i64 (da : Nat)])
            | 2 => regs.Say.val _ (.agg #[.int .i64 (yr : Nat), .int .i64 (yg : Nat), .int .i64 (yb : Nat), .int .i64 (ya : Nat)])
            | 3 => regs.Say.val _ (.agg #[.int .i64 (qr : Nat), .int .i64 (qg : Nat), .int .i64 (qb : Nat), .int .i64 (qa : Nat)])
            | 4 => regs.Say.any _
            | _ => regs.Say.any _ : regs.Say (fun a b => World.grownBy a b (some (w2.heap.size + 1)))).p) (fun _ => regs.Say.mono _) (by kernel_rfl) (grown_of_below (Below.refl _ _).drew _) (HJ.out) ⟨?_, ?_, ?_, ?_, ?_, trivial⟩ ?_
          · refine regs.StepOK.plain rfl fun L a w1 hh => ?_
            have h9 : a.tmps[9]?.getD undef = .int .u32 (m : Nat) := by rw [← Array.getD_eq_getD_getElem?]; exact hh.old 9 rfl
            have hJ := Lib.hid hh.st
            clear hh
            go_simp
            exact ⟨_, rfl, grown_of_below (Below.refl _ _) _, rfl, hJ.out⟩
          · refine regs.StepOK.plain rfl fun L a w1 hh => ?_
            have h39 : a.tmps[39]?.getD undef = .int .u32 (m : Nat) := by rw [← Array.getD_eq_getD_getElem?]; exact hh.dep 0 39 (by kernel_rfl) (by kernel_rfl)
            have := True.intro
            have hJ := Lib.hid hh.st
            clear hh
            go_simp
            refine (HFD.out w1).mono ?_
            rintro e w9 ⟨rfl, hb9⟩
            exact ⟨_, rfl, grown_of_below hb9 _, rfl, JC.below hJ.out hb9⟩
          · refine regs.StepOK.plain rfl fun L a w1 hh => ?_
            have h7 : a.tmps[7]?.getD undef = .pointer (some ⟨w2.heap.size + 1, 0, none⟩) := by rw [← Array.getD_eq_getD_getElem?]; exact hh.old 7 rfl
            have hrd := (hh.st.read hh.un).1
            obtain ⟨⟨c0, c1, c2, c3⟩, -, ci⟩ := hrd.c4
            have hJ := Lib.hid hh.st.done
            clear hh hrd
            go_simp
            exact ⟨_, rfl, grown_of_below (Below.refl _ _) _, rfl, hJ.out⟩
          · refine regs.StepOK.plain rfl fun L a w1 hh => ?_
            have h40 : a.tmps[40]?.getD undef = .agg #[.int .i64 (dr : Nat), .int .i64 (dg : Nat), .int .i64 (db : Nat), .int .i64 (da : Nat)] := by rw [← Array.getD_eq_getD_getElem?]; exact hh.dep 1 40 (by kernel_rfl) (by kernel_rfl)
            have h41 : a.tmps[41]?.getD undef = .agg #[.int .i64 (yr : Nat), .int .i64 (yg : Nat), .int .i64 (yb : Nat), .int .i64 (ya : Nat)] := by rw [← Array.getD_eq_getD_getElem?]; exact hh.dep 2 41 (by kernel_rfl) (by kernel_rfl)
            have := True.intro
            have hJ := Lib.hid hh.st
            clear hh
            go_simp
            refine (HV2.out w1).mono ?_
            rintro e w9 ⟨rfl, hb9⟩
            exact ⟨_, rfl, grown_of_below hb9 _, rfl, JC.below hJ.out hb9⟩
          · refine regs.StepOK.plain rfl fun L a w1 hh => ?_
            have h7 : a.tmps[7]?.getD undef = .pointer (some ⟨w2.heap.size + 1, 0, none⟩) := by rw [← Array.getD_eq_getD_getElem?]; exact hh.old 7 rfl
            have h42 : a.tmps[42]?.getD undef = .agg #[.int .i64 (qr : Nat), .int .i64 (qg : Nat), .int .i64 (qb : Nat), .int .i64 (qa : Nat)] := by rw [← Array.getD_eq_getD_getElem?]; exact hh.dep 3 42 (by kernel_rfl) (by kernel_rfl)
            have hB := hh.st.2.2.1
            rw [hh.un] at hB
            obtain ⟨⟨c0, c1, c2, c3⟩, ⟨f0, f1, f2, f3⟩, ci⟩ := (show Blk w1 (w2.heap.size + 1) [.int .i64 (yr : Nat), .int .i64 (yg : Nat), .int .i64 (yb : Nat), .int .i64 (ya : Nat)] from hB).c4
            have hP := Lib.hid (JC.putAll hh.st rfl hh.un (hh.up 2 (by kernel_rfl)))
            have hG := Lib.hid (putBlk_grown (w2.heap.size + 1) [.int .i64 (qr : Nat), .int .i64 (qg : Nat), .int .i64 (qb : Nat), .int .i64 (qa : Nat)] w1)
            clear hh hB
            go_simp
            exact ⟨hG.out, ⟨undef, trivial⟩, hP.out.1⟩
          intro L w5 val hL hJ hRR hv
          have hJ2 := hJ.2.2.1
          rw [hL 4 (by decide)] at hJ2
          have HN := Lib.hid (show Blk w5 (w2.heap.size + 1) [.int .i64 (qr : Nat), .int .i64 (qg : Nat), .int .i64 (qb : Nat), .int .i64 (qa : Nat)] from hJ2)
          have HG := Lib.hid hRR
          clear hv hL hJ hRR hJ2 HJ
          simp only [regs.putAll, List.map_cons, List.map_nil]
          generalize val 39 = v39
          generalize val 40 = v40
          generalize val 41 = v41
          generalize val 42 = v42
          simp only [Act.put, List.setIfInBounds_toArray, List.set_cons_zero, List.set_cons_succ]
          have HY5 := Lib.hid HN.out
          have HX5 := Lib.hid (HX4.out.far HG.out (by omega))
          have HO5 := Lib.hid (HO4.out.far HG.out (by omega))
          have HB5 := Lib.hid (below_grown HB4.out HG.out (by omega))
          have HSZ5 := Lib.hid (Nat.le_trans HSZ4.out HG.out.size)
          clear HN HG HX4 HY4 HO4 HB4 HSZ4
          go_wp2_with (fail)
          go_roundw
          case rel => exact ⟨k + 1, by omega, by go_num, HO5, by rw [HS1.out]; exact HX5, by rw [HS2.out]; exact HY5, HB5, HSZ5⟩
          case measure => simp [intOf]; omega
        · obtain rfl : k = l.length := by omega
          have hA : (px l).take l.length = px l := List.take_of_length_le (by rw [px_len]; exact Nat.le_refl _)
          rw [hA] at HO HX HY
          obtain ⟨A5, c5, hv, -, -, hrow5⟩ := HO.out.prow
          rw [px_len] at hv
          subst hv
          have HR5 := Lib.hid hrow5
          have hlm : (px l).length ≤ maxLen := by rw [px_len]; unfold maxLen; exact hln
          have HC1 := Lib.hid (over_any P HP.out A5 (px l) c5 wr HPR.out hrow5 hlm)
          have HC2 := Lib.hid (fun w (hr : Row eP w A5 (px l)) => stack_any A5 (px l) c5 w HPR.out hr hlm)
          rw [HNU.out] at HC1
          rw [px_len] at HC1 HC2
          have hXr := overAll_right HP.out HPR.out
          have hYr := stack_right zero_right HPR.out
          have HRI1 := Lib.hid (fun w => right_any _ hXr.bytes w)
          have HRI2 := Lib.hid (fun w => right_any _ hYr.bytes w)
          have HDO1 := Lib.hid (fun w => dof_any _ hXr.bytes w)
          have HDO2 := Lib.hid (fun w => dof_any _ hYr.bytes w)
          rw [P4.rightB_iff.2 hXr] at HRI1
          rw [P4.rightB_iff.2 hYr] at HRI2
          clear hXr hYr hrow5 hlm hA hlt hk HO HP HPR H32 HNU HL60 hln HRW2
          generalize overAll P (px l) = X at *
          generalize stack zero (px l) = Y at *
          generalize X.num = N1 at *
          generalize Y.num = N2 at *
          obtain ⟨xr, xg, xb, xa⟩ := X
          obtain ⟨yr, yg, yb, ya⟩ := Y
          simp only [pxm.P4.cs] at HX HY HDO1 HDO2
          have HB0 := Lib.hid (HB2.out.trans (HB.out.mono HB2.out.size))
          clear HB HB2
          go_wp2_with (fail)
          refine HC1.out.mono ?_
          rintro e w3 ⟨rfl, hb⟩
          have HX3 := Lib.hid (HX.out.below' hb)
          have HY3 := Lib.hid (HY.out.below' hb)
          have HR3 := Lib.hid (HR5.out.below hb)
          have HB3 := Lib.hid (bel_step HB0.out (Nat.le_refl _) hb)
          clear hb HX HY HR5 HB0 HC1
          go_wp2_with (fail)
          refine (HC2.out _ HR3.out).mono ?_
          rintro e w4 ⟨rfl, hb⟩
          have HX4 := Lib.hid (HX3.out.below' hb)
          have HY4 := Lib.hid (HY3.out.below' hb)
          have HB4 := Lib.hid (bel_step HB3.out (Nat.le_refl _) hb)
          clear hb HX3 HY3 HR3 HB3 HC2
          obtain ⟨⟨c0, c1, c2, c3⟩, -, ci⟩ := HX4.out.c4
          go_wp2_with (fail)
          refine (HDO1.out _).mono ?_
          rintro e w5 ⟨rfl, hb⟩
          have HY5 := Lib.hid (HY4.out.below' hb)
          have HB5 := Lib.hid (bel_step HB4.out (Nat.le_refl _) hb)
          clear hb HX4 HY4 HB4 c0 c1 c2 c3 ci
          obtain ⟨⟨c0, c1, c2, c3⟩, -, ci⟩ := HY5.out.c4
          go_wp2_with (fail)
          refine (HDO2.out _).mono ?_
          rintro e w6 ⟨rfl, hb⟩
          have HB6 := Lib.hid (bel_step HB5.out (Nat.le_refl _) hb)
          clear hb HY5 HB5 c0 c1 c2 c3 ci
          go_wp2_with (fail)
          refine (HRI1.out _).mono ?_
          rintro e w7 ⟨rfl, hd⟩
          have HB7 := Lib.hid (bel_step HB6.out (Nat.le_refl _) (hd.below _))
          clear hd HB6
          go_wp2_with (fail)
          refine (HRI2.out _).mono ?_
          rintro e w8 ⟨rfl, hd⟩
          have HB8 := Lib.hid (bel_step HB7.out (Nat.le_refl _) (hd.below _))
          clear hd HB7
          go_wp2_with (fail)
          refine (HAW.out _).mono ?_
          rintro e w9 ⟨rfl, hb⟩
          have HB9 := Lib.hid (bel_step HB8.out (Nat.le_refl _) hb)
          clear hb HB8
          go_wp2_with (fail)
          go_ret
          exact ⟨rfl, HB9.out⟩
end Go.Proofs.Ytolekbgbcahfgaa
