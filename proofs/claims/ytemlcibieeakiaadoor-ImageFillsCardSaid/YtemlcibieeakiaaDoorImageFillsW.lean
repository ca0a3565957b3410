/-
  ImageFills: the walk.
-/
import Derived.Test.YtemlcibieeakiaaDoorImQ
import Derived.Test.YtemlcibieeakiaaDoorImageChecksW
namespace Go.Proofs.YtemlcibieeakiaaDoor
open Go.RowKit pxm imm

set_option maxHeartbeats 8000000 in
set_option maxRecDepth 100000 in
theorem fills_core (W H p : Nat) (hW : 1 ≤ W ∧ W ≤ 30) (hH : 1 ≤ H ∧ H ≤ 30) (hp4 : p < 4294967296) (w : World) (ht : crcs.TabAt w) :
    Calls Tryd.prog 6 #[.int .i64 (W : Nat), .int .i64 (H : Nat), .int .u32 (p : Nat)] w fun e w' => e = .returned (.bool true) ∧ Below w.heap.size w w' := by
  have HAW := Lib.hid (awk ht)
  have HFR := Lib.hid (fun w => dfr_any p hp4 w)
  have HRT := Lib.hid (fun w => drt_any p hp4 w)
  have HRB : Hid (rb p = rb p) := rfl
  have HT := Lib.hid ht
  obtain ⟨N, hN⟩ : ∃ N, N = W * H := ⟨_, rfl⟩
  have hN2 : N ≤ 900 := by rw [hN]; exact Nat.mul_le_mul hW.2 hH.2
  have hW0 : 0 < W := by omega
  have hW4 : 1 ≤ W ∧ W ≤ 4096 := by omega
  have hH4 : 1 ≤ H ∧ H ≤ 4096 := by omega
  have hNml : N ≤ maxLen := by unfold maxLen; omega
  have hNE := Lib.hid (fun w => new_any (W : Nat) (H : Nat) w)
  unfold NewQ at hNE
  rw [sidesB_iff.2 (by omega)] at hNE
  have HNN : Hid (∀ n : Nat, (n : Int) = (W : Nat) * (H : Nat) → n = N) := fun n h => by
    rw [hN]
    have : (n : Int) = ((W * H : Nat) : Int) := by rw [h]; simp
    omega
  have HA1 : Hid (rb p = true → ∀ g b w, BRow w (some ⟨b, 0, none⟩) [⟨0, 0, (W : Nat), (H : Nat)⟩] → Px w g (List.replicate N 0) → Calls Tryd.prog 17 #[.agg #[.int .i64 (W : Nat), .int .i64 (H : Nat), .slice (some ⟨g, 0, none⟩) N N], .int .u32 (p : Nat), .slice (some ⟨b, 0, none⟩) 1 1] w
      fun e w' => e = .returned (.int .i64 (N : Nat)) ∧ Px w' g (List.replicate N p) ∧ Off [g] w w') := fun hrb g b w h1 h2 =>
    fill_n W H N hW4 hH4 hN g p N _ List.length_replicate (Nat.le_refl _) hNml hp4 hrb _ [⟨0, 0, (W : Nat), (H : Nat)⟩] 1 (by simp) N _ (by rw [cnt_congr (G := fun _ => true) (fun i hi => whole_at hW0 (by rw [← hN]; exact hi))]; exact cnt_all N)
      (by rw [paint_all p _ (fun j hj => whole_at hW0 (by rw [List.length_replicate, hN] at hj; exact hj)), List.length_replicate]) w h1 h2
  have HA2 : Hid (rb p = true → ∀ y, y < H → ∀ g b w, BRow w (some ⟨b, 0, none⟩) [⟨-5, (y : Nat), (W : Nat) + 5, (y : Nat) + 1⟩] → Px w g (lines W y p N) → Calls Tryd.prog 17 #[.agg #[.int .i64 (W : Nat), .int .i64 (H : Nat), .slice (some ⟨g, 0, none⟩) N N], .int .u32 (p : Nat), .slice (some ⟨b, 0, none⟩) 1 1] w
      fun e w' => e = .returned (.int .i64 (W : Nat)) ∧ Px w' g (lines W (y + 1) p N) ∧ Off [g] w w') := fun hrb y hy g b w h1 h2 =>
    fill_n W H N hW4 hH4 hN g p N _ (lines_len _ _ _ _) (Nat.le_refl _) hNml hp4 hrb _ [⟨-5, (y : Nat), (W : Nat) + 5, (y : Nat) + 1⟩] 1 (by simp) W _ (by rw [hN]; exact line_cnt hW0 hy) (lines_step hW0 p N) w h1 h2
  obtain ⟨n3, hn3⟩ : ∃ n3, cnt (atI W (cov [⟨0, 0, 1, 1⟩, ⟨0, 0, 9, 9⟩])) N = n3 := ⟨_, rfl⟩
  have HA3 : Hid (rb p = true → ∀ g b w, BRow w (some ⟨b, 0, none⟩) [⟨0, 0, 1, 1⟩, ⟨0, 0, 9, 9⟩] → Px w g (List.replicate N p) → Calls Tryd.prog 17 #[.agg #[.int .i64 (W : Nat), .int .i64 (H : Nat), .slice (some ⟨g, 0, none⟩) N N], .int .u32 (p : Nat), .slice (some ⟨b, 0, none⟩) 2 2] w
      fun e w' => e = .returned (.int .i64 (n3 : Nat)) ∧ Px w' g (List.replicate N p) ∧ Off [g] w w') := fun hrb g b w h1 h2 =>
    fill_n W H N hW4 hH4 hN g p N _ List.length_replicate (Nat.le_refl _) hNml hp4 hrb _ [⟨0, 0, 1, 1⟩, ⟨0, 0, 9, 9⟩] 2 (by decide) n3 _ hn3 (paint_same _ _ _) w h1 h2
  have HA4 : Hid (∀ g w, Px w g (List.replicate N p) → Calls Tryd.prog 17 #[.agg #[.int .i64 (W : Nat), .int .i64 (H : Nat), .slice (some ⟨g, 0, none⟩) N N], .int .u32 0, .slice none 0 0] w
      fun e w' => e = .returned (.int .i64 0) ∧ Px w' g (List.replicate N p) ∧ Off [g] w w') := fun g w h2 =>
    fill_n W H N hW4 hH4 hN g 0 N _ List.length_replicate (Nat.le_refl _) hNml (by decide) (by decide +kernel) none [] 0 (by decide) 0 _ (cnt_none N) (paint_none _ _ (fun _ _ => rfl)) w (SRow.none_ rfl) h2
  have HS : Hid (∀ g w, Px w g (List.replicate N p) → crcs.TabAt w → Calls Tryd.prog 21 #[.agg #[.int .i64 (W : Nat), .int .i64 (H : Nat), .slice (some ⟨g, 0, none⟩) N N]] w fun e w' => e = .returned (.int .u32 (crcs.sum (sumL W H (List.replicate N p)) : Nat)) ∧ Below w.heap.size w w') := fun g w h1 h2 => by
    have h := isum_any W H (by omega) (by omega) (some ⟨g, 0, none⟩) (List.replicate N p) N (fun z hz => by rw [List.eq_of_mem_replicate hz]; exact hp4) (by rw [List.length_replicate]; omega) w h1.row h2
    rw [List.length_replicate] at h
    exact h
  have HEQ : Hid (∀ g g2 w, Px w g (List.replicate N p) → Px w g2 (List.replicate N p) → Calls Tryd.prog 20 #[.agg #[.int .i64 (W : Nat), .int .i64 (H : Nat), .slice (some ⟨g, 0, none⟩) N N], .agg #[.int .i64 (W : Nat), .int .i64 (H : Nat), .slice (some ⟨g2, 0, none⟩) N N]] w fun e w' => e = .returned (.bool true) ∧ Below w.heap.size w w') := fun g g2 w h1 h2 => by
    have hN1 : 0 < N := by rw [hN]; exact Nat.mul_pos (by omega) (by omega)
    have h := equal_any (W : Nat) (H : Nat) (some ⟨g, 0, none⟩) (List.replicate N p) N (W : Nat) (H : Nat) (some ⟨g2, 0, none⟩) (List.replicate N p) N w h1.row h2.row (by rw [List.length_replicate]; exact hN1) (by rw [List.length_replicate]; exact hN1) (by rw [List.length_replicate]; exact hNml) (by rw [List.length_replicate]; exact hNml)
    rw [List.length_replicate, show eqB (W : Nat) (H : Nat) (List.replicate N p) (W : Nat) (H : Nat) (List.replicate N p) = true by simp [eqB]] at h
    exact h
  have HAT : Hid (∀ g w, Px w g (List.replicate N p) → Calls Tryd.prog 18 #[.agg #[.int .i64 (W : Nat), .int .i64 (H : Nat), .slice (some ⟨g, 0, none⟩) N N], .int .i64 ((W : Int) - 1), .int .i64 ((H : Int) - 1)] w fun e w' => e = .returned (.int .u32 (p : Nat)) ∧ Below w.heap.size w w') := fun g w h1 => by
    have hw : wholeB (W : Nat) (H : Nat) (List.replicate N p).length = true := whole_iff.2 ⟨sidesB_iff.2 (by omega), by rw [List.length_replicate, hN]; simp⟩
    have h := at_any (W : Nat) (H : Nat) (some ⟨g, 0, none⟩) (List.replicate N p) N ((W : Int) - 1) ((H : Int) - 1) hw (by rw [List.length_replicate]; exact hNml) w h1.row
    have hi : inB (W : Nat) (H : Nat) ((W : Int) - 1) ((H : Int) - 1) = true := inB_iff.2 (by omega)
    have hpx : pixAt (W : Nat) (H : Nat) (List.replicate N p) ((W : Int) - 1) ((H : Int) - 1) = p := by
      unfold pixAt
      rw [if_pos hi]
      have h2 := place_in hw hi
      rw [List.length_replicate] at h2
      rw [List.getD_eq_getElem?_getD, List.getElem?_replicate, if_pos (by omega)]
      rfl
    rw [List.length_replicate, hpx] at h
    exact h
  have HLM := Lib.hid (fun y (hy : y < H) => line_mul (W := W) hy)
  have HLA := Lib.hid (And.intro (lines_0 W p N) (lines_all hN p))
  have HNWH : Hid (N = H * W) := by show _ = _; rw [hN, Nat.mul_comm]
  generalize crcs.sum (sumL W H (List.replicate N p)) = sm at *
  generalize List.replicate N p = lp at *
  obtain ⟨l0, hl0⟩ : ∃ x, List.replicate N 0 = x := ⟨_, rfl⟩
  rw [hl0] at HA1 HLA
  have HL0 := Lib.hid hl0
  clear hl0
  clear ht hn3 hN hNml hW4 hH4
  have t1 : decide ((W : Int) < 1) = false := by simp; omega
  have t2 : decide ((H : Int) < 1) = false := by simp; omega
  have t3 : decide ((30 : Int) < (W : Int)) = false := by simp; omega
  have t4 : decide ((30 : Int) < (H : Int)) = false := by simp; omega
  unfold frV at *
  go_enter Tryd.func6, Tryd.ntmps6
  go_wp2_with (fail)
  refine (HFR.out _).mono ?_
  rintro e w1 ⟨rfl, hb⟩
  have HB1 := Lib.hid hb
  clear hb HFR
  go_wp2_with (fail)
  refine (HRT.out _).mono ?_
  rintro e w2 ⟨rfl, hb⟩
  have HB2 : Hid (Below w.heap.size w w2) := HB1.out.trans (hb.mono HB1.out.size)
  clear hb HRT HB1 t1 t2 t3 t4
  generalize hyy : rb p = y at *
  cases y with
  | false =>
    go_wp2_with (fail)
    refine (HAW.out _ HB2.out).mono ?_
    rintro e w3 ⟨rfl, hb⟩
    have HB3 := Lib.hid hb
    clear hb
    go_wp2_with (fail)
    go_ret
    exact ⟨rfl, HB3.out⟩
  | true =>
    have A1 := Lib.hid (HA1.out rfl)
    have A2 := Lib.hid (HA2.out rfl)
    have A3 := Lib.hid (HA3.out rfl)
    clear HA1 HA2 HA3 HRB hyy
    go_wp2_with (fail)
    refine (hNE.out _).mono ?_
    rintro e w3 ⟨hb, hq⟩
    rw [if_pos (by trivial)] at hq
    obtain ⟨ga, n, rfl, hn, hga, hxa⟩ := hq
    have hnN : n = N := HNN.out n hn
    subst n
    rw [HL0.out] at hxa
    have HB3 : Hid (Below w.heap.size w w3) := HB2.out.trans (hb.mono HB2.out.size)
    have hb3 : Below w3.heap.size w3 (w3.alloc (.cells #[.int .i64 (W : Nat), .int .i64 (H : Nat), .slice (some ⟨ga, 0, none⟩) N N] 24)) := (Below.refl _ _).alloc (Nat.le_refl _) _
    have HB3b := Lib.hid (HB3.out.trans (hb3.mono HB3.out.size))
    have HXA3 : Hid (Px (w3.alloc (.cells #[.int .i64 (W : Nat), .int .i64 (H : Nat), .slice (some ⟨ga, 0, none⟩) N N] 24)) ga l0) := hxa.below hb3
    have KA3 : Hid (Blk (w3.alloc (.cells #[.int .i64 (W : Nat), .int .i64 (H : Nat), .slice (some ⟨ga, 0, none⟩) N N] 24)) w3.heap.size [.int .i64 (W : Nat), .int .i64 (H : Nat), .slice (some ⟨ga, 0, none⟩) N N]) := blk_new w3 [.int .i64 (W : Nat), .int .i64 (H : Nat), .slice (some ⟨ga, 0, none⟩) N N] _
    have HGA : Hid (w.heap.size ≤ ga ∧ ga < w3.heap.size ∧ w.heap.size ≤ w3.heap.size) := ⟨Nat.le_trans HB2.out.size hga, hxa.inside, HB3.out.size⟩
    clear hb hb3 hxa hga hn HB2 HB3
    unfold imV
    go_wp2_with (fail)
    generalize w3.alloc (.cells #[.int .i64 (W : Nat), .int .i64 (H : Nat), .slice (some ⟨ga, 0, none⟩) N N] 24) = w4 at *
    generalize w3.heap.size = ba at *
    refine (hNE.out _).mono ?_
    rintro e w5 ⟨hb, hq⟩
    rw [if_pos (by trivial)] at hq
    obtain ⟨gb, n, rfl, hn, hgb, hxb⟩ := hq
    have hnN : n = N := HNN.out n hn
    subst n
    rw [HL0.out] at hxb
    have HB5 : Hid (Below w.heap.size w w5) := HB3b.out.trans (hb.mono HB3b.out.size)
    have hb5 : Below w5.heap.size w5 (w5.alloc (.cells #[.int .i64 (W : Nat), .int .i64 (H : Nat), .slice (some ⟨gb, 0, none⟩) N N] 24)) := (Below.refl _ _).alloc (Nat.le_refl _) _
    have HB6 := Lib.hid (HB5.out.trans (hb5.mono HB5.out.size))
    have HXA6 := Lib.hid ((HXA3.out.below hb).below hb5)
    have KA6 := Lib.hid ((KA3.out.below' hb).below' hb5)
    have HXB6 := Lib.hid (hxb.below hb5)
    have KB6 : Hid (Blk (w5.alloc (.cells #[.int .i64 (W : Nat), .int .i64 (H : Nat), .slice (some ⟨gb, 0, none⟩) N N] 24)) w5.heap.size [.int .i64 (W : Nat), .int .i64 (H : Nat), .slice (some ⟨gb, 0, none⟩) N N]) := blk_new w5 [.int .i64 (W : Nat), .int .i64 (H : Nat), .slice (some ⟨gb, 0, none⟩) N N] _
    have HGB : Hid (ga < ba ∧ ba < gb ∧ gb < w5.heap.size ∧ w.heap.size ≤ ga) := ⟨HGA.out.2.1, Nat.lt_of_lt_of_le KA3.out.inside hgb, hxb.inside, HGA.out.1⟩
    have HTG : Hid (0 < w.heap.size) := HT.out.pos
    clear hb hb5 hxb hgb hn HB3b HXA3 KA3 HB5 HNN hNE
    unfold imV
    go_wp2_with (fail)
    generalize w5.alloc (.cells #[.int .i64 (W : Nat), .int .i64 (H : Nat), .slice (some ⟨gb, 0, none⟩) N N] 24) = w6 at *
    generalize w5.heap.size = bb at *
    have HJ6 : Hid (JF [(ba, [.int .i64 (W : Nat), .int .i64 (H : Nat), .slice (some ⟨ga, 0, none⟩) N N]), (bb, [.int .i64 (W : Nat), .int .i64 (H : Nat), .slice (some ⟨gb, 0, none⟩) N N])] [(gb, l0)] ga l0 lp false w6) := by
      have hg := HGB.out
      refine ⟨⟨KA6.out, KB6.out, trivial⟩, ⟨?_, ?_⟩, HXA6.out, trivial⟩
      · intro q hq; simp only [List.mem_cons, List.not_mem_nil, or_false] at hq; subst hq; exact ⟨HXB6.out, by simp only; omega⟩
      · intro q hq; simp only [List.mem_cons, List.not_mem_nil, or_false] at hq; rcases hq with rfl | rfl <;> simp only <;> omega
    have HF1 : Hid (∀ w, Calls Tryd.prog 11 #[.agg #[.int .i64 (W : Nat), .int .i64 (H : Nat), .slice (some ⟨ga, 0, none⟩) N N]] w fun e w' => e = .returned (.agg #[.int .i64 0, .int .i64 0, .int .i64 (W : Nat), .int .i64 (H : Nat)]) ∧ Below w.heap.size w w') := fun w => frame_any (W : Nat) (H : Nat) (some ⟨ga, 0, none⟩) N N w
    clear KA6 KB6 HXA6 HXB6
    refine regs.wp_region_put (Off [ga]) (fun L wx => JF [(ba, [.int .i64 (W : Nat), .int .i64 (H : Nat), .slice (some ⟨ga, 0, none⟩) N N]), (bb, [.int .i64 (W : Nat), .int .i64 (H : Nat), .slice (some ⟨gb, 0, none⟩) N N])] [(gb, l0)] ga l0 lp (L 5) wx) [53, 54, 55, 56, 57, 58, 11] (by kernel_rfl) (by kernel_rfl) (fun _ => Off.refl _ _) (fun _ _ _ h k => h.trans k) (fun i => (match i with
      | 0 => regs.Say.val _ (.agg #[.int .i64 (W : Nat), .int .i64 (H : Nat), .slice (some ⟨ga, 0, none⟩) N N])
      | 1 => regs.Say.val _ (.int .u32 (p : Nat))
      | 2 => regs.Say.val _ (.agg #[.int .i64 (W : Nat), .int .i64 (H : Nat), .slice (some ⟨ga, 0, none⟩) N N])
      | 3 => regs.Say.val _ (.agg #[.int .i64 0, .int .i64 0, .int .i64 (W : Nat), .int .i64 (H : Nat)])
      | 4 => sayF ga [(⟨0, 0, (W : Nat), (H : Nat)⟩ : Bx)]
      | 5 => regs.Say.val _ (.int .i64 (N : Nat))
      | 6 => regs.Say.val _ (.int .i64 (N : Nat))
      | _ => regs.Say.any _ : regs.Say (Off [ga])).p) (fun _ => regs.Say.mono _) (by kernel_rfl) (Off.of_below (Below.refl _ _).drew) (HJ6.out) ⟨?_, ?_, ?_, ?_, ?_, ?_, ?_, trivial⟩ ?_
    · refine regs.StepOK.plain rfl fun L a w1 hh => ?_
      have h7 : a.tmps[7]?.getD undef = .pointer (some ⟨ba, 0, none⟩) := by rw [← Array.getD_eq_getD_getElem?]; exact hh.old 7 rfl
      obtain ⟨⟨c0, c1, c2⟩, -, ci⟩ := (hh.st.1.1).c3
      have hJ := Lib.hid hh.st
      clear hh
      go_simp
      exact ⟨_, rfl, Off.refl _ _, rfl, hJ.out⟩
    · refine regs.StepOK.plain rfl fun L a w1 hh => ?_
      have h2 : a.tmps[2]?.getD undef = .int .u32 (p : Nat) := by rw [← Array.getD_eq_getD_getElem?]; exact hh.old 2 rfl
      have hJ := Lib.hid hh.st
      clear hh
      go_simp
      exact ⟨_, rfl, Off.refl _ _, rfl, hJ.out⟩
    · refine regs.StepOK.plain rfl fun L a w1 hh => ?_
      have h7 : a.tmps[7]?.getD undef = .pointer (some ⟨ba, 0, none⟩) := by rw [← Array.getD_eq_getD_getElem?]; exact hh.old 7 rfl
      obtain ⟨⟨c0, c1, c2⟩, -, ci⟩ := (hh.st.1.1).c3
      have hJ := Lib.hid hh.st
      clear hh
      go_simp
      exact ⟨_, rfl, Off.refl _ _, rfl, hJ.out⟩
    · refine regs.StepOK.plain rfl fun L a w1 hh => ?_
      have h55 : a.tmps[55]?.getD undef = .agg #[.int .i64 (W : Nat), .int .i64 (H : Nat), .slice (some ⟨ga, 0, none⟩) N N] := by rw [← Array.getD_eq_getD_getElem?]; exact hh.dep 2 55 (by kernel_rfl) (by kernel_rfl)
      have := True.intro
      have hJ := Lib.hid hh.st
      clear hh
      go_simp
      refine (HF1.out w1).mono ?_
      rintro e w9 ⟨rfl, hb9⟩
      exact ⟨_, rfl, Off.of_below hb9, rfl, JF.below hJ.out hb9⟩
    · refine regs.StepOK.plain rfl fun L a w1 hh => ?_
      have h56 : a.tmps[56]?.getD undef = .agg #[.int .i64 0, .int .i64 0, .int .i64 (W : Nat), .int .i64 (H : Nat)] := by rw [← Array.getD_eq_getD_getElem?]; exact hh.dep 3 56 (by kernel_rfl) (by kernel_rfl)
      have hJ := Lib.hid hh.st
      clear hh
      go_simp
      exact ⟨_, rfl, Off.of_below ((Below.refl _ _).alloc (Nat.le_refl _) _), ⟨_, rfl, brow_new w1 [(⟨0, 0, (W : Nat), (H : Nat)⟩ : Bx)] rfl, Nat.ne_of_gt (JF.inside hJ.out), by simp⟩, JF.below hJ.out ((Below.refl _ _).alloc (Nat.le_refl _) _)⟩
    · refine regs.StepOK.plain rfl fun L a w1 hh => ?_
      have h53 : a.tmps[53]?.getD undef = .agg #[.int .i64 (W : Nat), .int .i64 (H : Nat), .slice (some ⟨ga, 0, none⟩) N N] := by rw [← Array.getD_eq_getD_getElem?]; exact hh.dep 0 53 (by kernel_rfl) (by kernel_rfl)
      have h54 : a.tmps[54]?.getD undef = .int .u32 (p : Nat) := by rw [← Array.getD_eq_getD_getElem?]; exact hh.dep 1 54 (by kernel_rfl) (by kernel_rfl)
      have hJ0 := hh.st
      rw [hh.un] at hJ0
      have hJ := Lib.hid (show JF [(ba, [.int .i64 (W : Nat), .int .i64 (H : Nat), .slice (some ⟨ga, 0, none⟩) N N]), (bb, [.int .i64 (W : Nat), .int .i64 (H : Nat), .slice (some ⟨gb, 0, none⟩) N N])] [(gb, l0)] ga l0 lp false w1 from hJ0)
      clear hJ0
      obtain ⟨b9, h57, hrow9, hne9, hb9⟩ : ∃ b, a.tmps[57]?.getD undef = .slice (some ⟨b, 0, none⟩) 1 1 ∧ BRow w1 (some ⟨b, 0, none⟩) [(⟨0, 0, (W : Nat), (H : Nat)⟩ : Bx)] ∧ b ≠ ga ∧ b < w1.heap.size := by rw [← Array.getD_eq_getD_getElem?]; exact hh.dep 4 57 (by kernel_rfl) (by kernel_rfl)
      clear hh
      go_simp
      have hx9 := hJ.out.2.2.1
      refine (A1.out ga b9 w1 hrow9 hx9).mono ?_
      rintro e w9 ⟨rfl, hy9, ho9⟩
      exact ⟨_, rfl, ho9, rfl, JF.filled hJ.out ho9 hy9⟩
    · refine regs.StepOK.plain rfl fun L a w1 hh => ?_
      have h58 : a.tmps[58]?.getD undef = .int .i64 (N : Nat) := by rw [← Array.getD_eq_getD_getElem?]; exact hh.dep 5 58 (by kernel_rfl) (by kernel_rfl)
      have hJ := Lib.hid hh.st
      clear hh
      go_simp
      exact ⟨_, rfl, Off.refl _ _, rfl, hJ.out⟩
    intro L w7 val hL hJ hR hv
    have h11 : val 11 = .int .i64 (N : Nat) := hv 6 11 (by kernel_rfl)
    rw [hL 5 (by decide)] at hJ
    have HJ7 := Lib.hid (JF.end_ hJ)
    have HR7 := Lib.hid hR
    clear hv hL hJ hR
    simp only [regs.putAll, List.map_cons, List.map_nil]
    rw [h11]
    generalize val 53 = v53
    generalize val 54 = v54
    generalize val 55 = v55
    generalize val 56 = v56
    generalize val 57 = v57
    generalize val 58 = v58
    simp only [Act.put, List.setIfInBounds_toArray, List.set_cons_zero, List.set_cons_succ]
    clear h11
    have HB7 : Hid (Below w.heap.size w w7) := HB6.out.trans (HR7.out.to_below HB6.out.size (by intro q hq; have := HGB.out; simp at hq; omega))
    have HXA7 : Hid (Px w7 ga lp) := HJ7.out.2.2
    have HXB7 : Hid (Px w7 gb (lines W 0 p N)) := by rw [HLA.out.1]; exact HJ7.out.2.1 _ (List.mem_cons_self)
    have KA7 : Hid (Blk w7 ba [.int .i64 (W : Nat), .int .i64 (H : Nat), .slice (some ⟨ga, 0, none⟩) N N]) := HJ7.out.1.1
    have KB7 : Hid (Blk w7 bb [.int .i64 (W : Nat), .int .i64 (H : Nat), .slice (some ⟨gb, 0, none⟩) N N]) := HJ7.out.1.2.1
    clear HJ7 HR7 HJ6 HB6 A1 HF1
    go_wp2_with (fail)
    go_loopw [11, 60] (fun nv i wr => ∃ y m : Nat, y ≤ H ∧ i = .int .i64 y ∧ nv = .int .i64 m ∧ Hid (m + y * W = N) ∧ Hid (Px wr ga lp) ∧ Hid (Px wr gb (lines W y p N)) ∧ Hid (Blk wr ba [.int .i64 (W : Nat), .int .i64 (H : Nat), .slice (some ⟨ga, 0, none⟩) N N]) ∧ Hid (Blk wr bb [.int .i64 (W : Nat), .int .i64 (H : Nat), .slice (some ⟨gb, 0, none⟩) N N]) ∧ Hid (Below w.heap.size w wr)) (fun _ i _ => H - (intOf i).toNat)
    case atStart => exact ⟨0, N, Nat.zero_le _, rfl, rfl, (by show _ = _; omega), HXA7.out, HXB7.out, KA7.out, KB7.out, HB7.out⟩
    case round =>
      obtain ⟨y, m, hy, rfl, rfl, HMY, HXA, HXB, KA, KB, HB⟩ := hrel
      clear HXA7 HXB7 KA7 KB7 HB7
      by_cases hlt : y < H
      · have t : decide (y < H) = true := by simpa using hlt
        have hmm : W ≤ m := by
          have h1 := HLM.out y hlt
          have h2 := HMY.out
          have h3 := HNWH.out
          rw [Nat.mul_comm] at h3
          omega
        obtain ⟨m1, hm1⟩ : ∃ m1, m = m1 + W := ⟨m - W, by omega⟩
        have hmb : m ≤ 900 := by have := HMY.out; omega
        have HM1 : Hid (m1 + (y + 1) * W = N) := by have := HMY.out; show _ = _; rw [Nat.add_mul, Nat.one_mul]; omega
        have HW5 : Hid (IntKind.i64.wrap ((W : Int) + 5) = (W : Int) + 5) := IntWalk.i64_in _ (by omega)
        have HY1 : Hid (IntKind.i64.wrap ((y : Int) + 1) = (y : Int) + 1) := IntWalk.i64_in _ (by omega)
        have HMS : Hid (IntKind.i64.wrap ((m : Int) - (W : Int)) = (m1 : Nat)) := by rw [show IntKind.i64.wrap ((m : Int) - (W : Int)) = (m : Int) - (W : Int) from IntWalk.i64_in _ (by omega)]; show _ = _; omega
        have HF2 := Lib.hid (fun w => bx_of ⟨-5, (y : Nat), (W : Nat) + 5, (y : Nat) + 1⟩ w)
        rw [nrm_ff (r := ⟨-5, (y : Nat), (W : Nat) + 5, (y : Nat) + 1⟩) (emp_ff.2 ⟨by simp only; omega, by simp only; omega⟩)] at HF2
        unfold Bx.v at HF2
        simp only at HF2
        have AY := Lib.hid (A2.out y hlt)
        have hy1 : y + 1 ≤ H := by omega
        have hme : H - (y + 1) < H - y := by omega
        obtain ⟨ly1, hly1⟩ : ∃ x, lines W (y + 1) p N = x := ⟨_, rfl⟩
        have HLY := Lib.hid hly1
        rw [hly1] at AY
        clear hly1
        generalize hly : lines W y p N = ly at *
        have HJ8 : Hid (JF [(ba, [.int .i64 (W : Nat), .int .i64 (H : Nat), .slice (some ⟨ga, 0, none⟩) N N]), (bb, [.int .i64 (W : Nat), .int .i64 (H : Nat), .slice (some ⟨gb, 0, none⟩) N N])] [(ga, lp)] gb ly ly1 false wr) := by
          have hg := HGB.out
          refine ⟨⟨KA.out, KB.out, trivial⟩, ⟨?_, ?_⟩, HXB.out, trivial⟩
          · intro q hq; simp only [List.mem_cons, List.not_mem_nil, or_false] at hq; subst hq; exact ⟨HXA.out, by simp only; omega⟩
          · intro q hq; simp only [List.mem_cons, List.not_mem_nil, or_false] at hq; rcases hq with rfl | rfl <;> simp only <;> omega
        clear KA KB HXA HXB hly hm1 hmm hmb
        have q5 : IntKind.i64.wrap ((W : Int) + 5) = (W : Int) + 5 := HW5.out
        have q1 : IntKind.i64.wrap ((y : Int) + 1) = (y : Int) + 1 := HY1.out
        have qm : IntKind.i64.wrap ((m : Int) - (W : Int)) = (m1 : Nat) := HMS.out
        have HBR : Hid (∀ w : World, BRow (w.alloc (.cells #[.int .i64 (-5), .int .i64 (y : Nat), .int .i64 ((W : Int) + 5), .int .i64 ((y : Int) + 1)] 30)) (some ⟨w.heap.size, 0, none⟩) [⟨-5, (y : Nat), (W : Nat) + 5, (y : Nat) + 1⟩]) := fun w => brow_new w [⟨-5, (y : Nat), (W : Nat) + 5, (y : Nat) + 1⟩] rfl
        have hneb : bb ∉ [gb] := by have := HGB.out; simp; omega
        have HJ8d : Hid (JF [(ba, [.int .i64 (W : Nat), .int .i64 (H : Nat), .slice (some ⟨ga, 0, none⟩) N N]), (bb, [.int .i64 (W : Nat), .int .i64 (H : Nat), .slice (some ⟨gb, 0, none⟩) N N])] [(ga, lp)] gb ly ly1 false wr.drew) := HJ8.out
        obtain ⟨⟨c0, c1, c2⟩, -, ci⟩ := HJ8.out.1.2.1.c3
        go_wp2_with (fail)
        go_region_held3 (fun w' => w'.cell? ⟨bb, 0, none⟩ = some (.int .i64 (W : Nat)) ∧ w'.cell? ⟨bb, 1, none⟩ = some (.int .i64 (H : Nat)) ∧ w'.cell? ⟨bb, 2, none⟩ = some (.slice (some ⟨gb, 0, none⟩) N N))
          (first | exact ⟨HJ8d.out.1.2.1.c3.1.1, HJ8d.out.1.2.1.c3.1.2.1, HJ8d.out.1.2.1.c3.1.2.2⟩ | exact ⟨x0, x1, x2⟩ | exact ⟨y0, y1, y2⟩ | go_keep)
          ((first | (go_at_call 24; refine (HF2.out _).mono ?_; rintro e w7 ⟨rfl, hb7⟩; have k7 : Blk w7 bb [.int .i64 (W : Nat), .int .i64 (H : Nat), .slice (some ⟨gb, 0, none⟩) N N] := HJ8d.out.1.2.1.below' hb7; have x0 : w7.cell? ⟨bb, 0, none⟩ = some (.int .i64 (W : Nat)) := k7.c3.1.1; have x1 : w7.cell? ⟨bb, 1, none⟩ = some (.int .i64 (H : Nat)) := k7.c3.1.2.1; have x2 : w7.cell? ⟨bb, 2, none⟩ = some (.slice (some ⟨gb, 0, none⟩) N N) := k7.c3.1.2.2; have hlt7 : bb < w7.heap.size := k7.inside) | (go_at_call 17; refine (AY.out gb _ _ (HBR.out w7) (((HJ8d.out.below hb7).below ((Below.refl _ _).alloc (Nat.le_refl _) _)).2.2.1)).mono ?_; rintro e w8 ⟨rfl, hx8, ho8⟩; have k8 : Blk w8 bb [.int .i64 (W : Nat), .int .i64 (H : Nat), .slice (some ⟨gb, 0, none⟩) N N] := ho8.blk (k7.alloc _) hneb; have y0 : w8.cell? ⟨bb, 0, none⟩ = some (.int .i64 (W : Nat)) := k8.c3.1.1; have y1 : w8.cell? ⟨bb, 1, none⟩ = some (.int .i64 (H : Nat)) := k8.c3.1.2.1; have y2 : w8.cell? ⟨bb, 2, none⟩ = some (.slice (some ⟨gb, 0, none⟩) N N) := k8.c3.1.2.2)))
        have hb71 : Below w7.heap.size w7 (w7.alloc (.cells #[.int .i64 (-5), .int .i64 (y : Nat), .int .i64 ((W : Int) + 5), .int .i64 ((y : Int) + 1)] 30)) := (Below.refl _ _).alloc (Nat.le_refl _) _
        have HJ8 := Lib.hid (JF.end_ (((HJ8d.out.below hb7).below hb71).filled ho8 hx8))
        have HB71 := Lib.hid ((HB.out.drew.trans (hb7.mono HB.out.size)).trans (hb71.mono (Nat.le_trans HB.out.size hb7.size)))
        have HR8 : Hid (Off [gb] (w7.alloc (.cells #[.int .i64 (-5), .int .i64 (y : Nat), .int .i64 ((W : Int) + 5), .int .i64 ((y : Int) + 1)] 30)) w8) := ho8
        clear q5 q1 qm HBR hneb HJ8d c0 c1 c2 ci hb7 k7 x0 x1 x2 hlt7 hx8 ho8 k8 y0 y1 y2 hb71
        have HB8 : Hid (Below w.heap.size w w8) := HB71.out.trans (HR8.out.to_below HB71.out.size (by intro q hq; have := HGB.out; simp at hq; omega))
        have HXB8 : Hid (Px w8 gb ly1) := HJ8.out.2.2
        have HXA8 : Hid (Px w8 ga lp) := HJ8.out.2.1 _ (List.mem_cons_self)
        have KA8 : Hid (Blk w8 ba [.int .i64 (W : Nat), .int .i64 (H : Nat), .slice (some ⟨ga, 0, none⟩) N N]) := HJ8.out.1.1
        have KB8 : Hid (Blk w8 bb [.int .i64 (W : Nat), .int .i64 (H : Nat), .slice (some ⟨gb, 0, none⟩) N N]) := HJ8.out.1.2.1
        clear HJ8 HR8 HB HB71 HF2 AY HW5 HY1 HMS
        go_wp2_with (fail)
        go_roundw
        case rel => exact ⟨y + 1, m1, hy1, by go_num, rfl, HM1, HXA8, by rw [HLY.out]; exact HXB8, KA8, KB8, HB8⟩
        case measure => simp [intOf]; omega
      · obtain rfl : y = H := by omega
        have t : decide (y < y) = false := by simp
        have hm0 : m = 0 := by have := HMY.out; have := HNWH.out; omega
        subst hm0
        have HXB2 : Hid (Px wr gb lp) := by have h := HXB.out; rw [HLA.out.2] at h; exact h
        have HTR : Hid (crcs.TabAt wr) := HT.out.below HB.out
        clear HMY HXB HLM HLA HL0 A2 HNWH
        obtain ⟨⟨c0, c1, c2⟩, -, ci⟩ := KA.out.c3
        go_wp2_with (fail)
        refine (HS.out ga _ HXA.out HTR.out).mono ?_
        rintro e w9 ⟨rfl, hb⟩
        have HB9 : Hid (Below w.heap.size w w9) := HB.out.trans (hb.mono HB.out.size)
        have HXA9 := Lib.hid (HXA.out.below hb)
        have HXB9 := Lib.hid (HXB2.out.below hb)
        have KA9 := Lib.hid (KA.out.below' hb)
        have KB9 := Lib.hid (KB.out.below' hb)
        clear hb HB HXA HXB2 KA KB HTR c0 c1 c2 ci
        have HJ9 : Hid (JF [(ba, [.int .i64 (W : Nat), .int .i64 (y : Nat), .slice (some ⟨ga, 0, none⟩) N N]), (bb, [.int .i64 (W : Nat), .int .i64 (y : Nat), .slice (some ⟨gb, 0, none⟩) N N])] [(gb, lp)] ga lp lp false w9) := by
          have hg := HGB.out
          refine ⟨⟨KA9.out, KB9.out, trivial⟩, ⟨?_, ?_⟩, HXA9.out, trivial⟩
          · intro q hq; simp only [List.mem_cons, List.not_mem_nil, or_false] at hq; subst hq; exact ⟨HXB9.out, by simp only; omega⟩
          · intro q hq; simp only [List.mem_cons, List.not_mem_nil, or_false] at hq; rcases hq with rfl | rfl <;> simp only <;> omega
        have HF3 := Lib.hid (fun w => bx_of ⟨0, 0, 1, 1⟩ w)
        have HF4 := Lib.hid (fun w => bx_of ⟨0, 0, 9, 9⟩ w)
        rw [show Bx.nrm ⟨0, 0, 1, 1⟩ = ⟨0, 0, 1, 1⟩ by decide] at HF3
        rw [show Bx.nrm ⟨0, 0, 9, 9⟩ = ⟨0, 0, 9, 9⟩ by decide] at HF4
        unfold Bx.v at HF3 HF4
        simp only at HF3 HF4
        clear HXA9 HXB9 KA9 KB9
        go_wp2_with (fail)
        refine regs.wp_region_put (Off [ga]) (fun L wx => JF [(ba, [.int .i64 (W : Nat), .int .i64 (y : Nat), .slice (some ⟨ga, 0, none⟩) N N]), (bb, [.int .i64 (W : Nat), .int .i64 (y : Nat), .slice (some ⟨gb, 0, none⟩) N N])] [(gb, lp)] ga lp lp (L 5) wx) [78, 79, 80, 81, 82, 83] (by kernel_rfl) (by kernel_rfl) (fun _ => Off.refl _ _) (fun _ _ _ h k => h.trans k) (fun i => (match i with
          | 0 => regs.Say.val _ (.agg #[.int .i64 (W : Nat), .int .i64 (y : Nat), .slice (some ⟨ga, 0, none⟩) N N])
          | 1 => regs.Say.val _ (.int .u32 (p : Nat))
          | 2 => regs.Say.val _ (.agg #[.int .i64 0, .int .i64 0, .int .i64 1, .int .i64 1])
          | 3 => regs.Say.val _ (.agg #[.int .i64 0, .int .i64 0, .int .i64 9, .int .i64 9])
          | 4 => sayF ga [(⟨0, 0, 1, 1⟩ : Bx), ⟨0, 0, 9, 9⟩]
          | 5 => regs.Say.val _ (.int .i64 (n3 : Nat))
          | _ => regs.Say.any _ : regs.Say (Off [ga])).p) (fun _ => regs.Say.mono _) (by kernel_rfl) (Off.of_below (Below.refl _ _).drew) (HJ9.out) ⟨?_, ?_, ?_, ?_, ?_, ?_, trivial⟩ ?_
        · refine regs.StepOK.plain rfl fun L a w1 hh => ?_
          have h7 : a.tmps[7]?.getD undef = .pointer (some ⟨ba, 0, none⟩) := by rw [← Array.getD_eq_getD_getElem?]; exact hh.old 7 rfl
          obtain ⟨⟨c0, c1, c2⟩, -, ci⟩ := (hh.st.1.1).c3
          have hJ := Lib.hid hh.st
          clear hh
          go_simp
          exact ⟨_, rfl, Off.refl _ _, rfl, hJ.out⟩
        · refine regs.StepOK.plain rfl fun L a w1 hh => ?_
          have h2 : a.tmps[2]?.getD undef = .int .u32 (p : Nat) := by rw [← Array.getD_eq_getD_getElem?]; exact hh.old 2 rfl
          have hJ := Lib.hid hh.st
          clear hh
          go_simp
          exact ⟨_, rfl, Off.refl _ _, rfl, hJ.out⟩
        · refine regs.StepOK.plain rfl fun L a w1 hh => ?_
          have := True.intro
          have hJ := Lib.hid hh.st
          clear hh
          go_simp
          refine (HF3.out w1).mono ?_
          rintro e w9 ⟨rfl, hb9⟩
          exact ⟨_, rfl, Off.of_below hb9, rfl, JF.below hJ.out hb9⟩
        · refine regs.StepOK.plain rfl fun L a w1 hh => ?_
          have := True.intro
          have hJ := Lib.hid hh.st
          clear hh
          go_simp
          refine (HF4.out w1).mono ?_
          rintro e w9 ⟨rfl, hb9⟩
          exact ⟨_, rfl, Off.of_below hb9, rfl, JF.below hJ.out hb9⟩
        · refine regs.StepOK.plain rfl fun L a w1 hh => ?_
          have h80 : a.tmps[80]?.getD undef = .agg #[.int .i64 0, .int .i64 0, .int .i64 1, .int .i64 1] := by rw [← Array.getD_eq_getD_getElem?]; exact hh.dep 2 80 (by kernel_rfl) (by kernel_rfl)
          have h81 : a.tmps[81]?.getD undef = .agg #[.int .i64 0, .int .i64 0, .int .i64 9, .int .i64 9] := by rw [← Array.getD_eq_getD_getElem?]; exact hh.dep 3 81 (by kernel_rfl) (by kernel_rfl)
          have hJ := Lib.hid hh.st
          clear hh
          go_simp
          exact ⟨_, rfl, Off.of_below ((Below.refl _ _).alloc (Nat.le_refl _) _), ⟨_, rfl, brow_new w1 [(⟨0, 0, 1, 1⟩ : Bx), ⟨0, 0, 9, 9⟩] rfl, Nat.ne_of_gt (JF.inside hJ.out), by simp⟩, JF.below hJ.out ((Below.refl _ _).alloc (Nat.le_refl _) _)⟩
        · refine regs.StepOK.plain rfl fun L a w1 hh => ?_
          have h78 : a.tmps[78]?.getD undef = .agg #[.int .i64 (W : Nat), .int .i64 (y : Nat), .slice (some ⟨ga, 0, none⟩) N N] := by rw [← Array.getD_eq_getD_getElem?]; exact hh.dep 0 78 (by kernel_rfl) (by kernel_rfl)
          have h79 : a.tmps[79]?.getD undef = .int .u32 (p : Nat) := by rw [← Array.getD_eq_getD_getElem?]; exact hh.dep 1 79 (by kernel_rfl) (by kernel_rfl)
          have hJ0 := hh.st
          rw [hh.un] at hJ0
          have hJ := Lib.hid (show JF [(ba, [.int .i64 (W : Nat), .int .i64 (y : Nat), .slice (some ⟨ga, 0, none⟩) N N]), (bb, [.int .i64 (W : Nat), .int .i64 (y : Nat), .slice (some ⟨gb, 0, none⟩) N N])] [(gb, lp)] ga lp lp false w1 from hJ0)
          clear hJ0
          obtain ⟨b9, h82, hrow9, hne9, hb9⟩ : ∃ b, a.tmps[82]?.getD undef = .slice (some ⟨b, 0, none⟩) 2 2 ∧ BRow w1 (some ⟨b, 0, none⟩) [(⟨0, 0, 1, 1⟩ : Bx), ⟨0, 0, 9, 9⟩] ∧ b ≠ ga ∧ b < w1.heap.size := by rw [← Array.getD_eq_getD_getElem?]; exact hh.dep 4 82 (by kernel_rfl) (by kernel_rfl)
          clear hh
          go_simp
          have hx9 := hJ.out.2.2.1
          refine (A3.out ga b9 w1 hrow9 hx9).mono ?_
          rintro e w9 ⟨rfl, hy9, ho9⟩
          exact ⟨_, rfl, ho9, rfl, JF.filled hJ.out ho9 hy9⟩
        intro L w10 val hL hJ hR hv
        rw [hL 5 (by decide)] at hJ
        have HJ10 := Lib.hid (JF.end_ hJ)
        have HR10 := Lib.hid hR
        clear hv hL hJ hR
        simp only [regs.putAll, List.map_cons, List.map_nil]
        generalize val 78 = v78
        generalize val 79 = v79
        generalize val 80 = v80
        generalize val 81 = v81
        generalize val 82 = v82
        generalize val 83 = v83
        simp only [Act.put, List.setIfInBounds_toArray, List.set_cons_zero, List.set_cons_succ]
        have HB10 : Hid (Below w.heap.size w w10) := HB9.out.trans (HR10.out.to_below HB9.out.size (by intro q hq; have := HGB.out; simp at hq; omega))
        have HX : Hid (Px w10 ga lp ∧ Px w10 gb lp) := ⟨HJ10.out.2.2, HJ10.out.2.1 _ (List.mem_cons_self)⟩
        have KA10 : Hid (Blk w10 ba [.int .i64 (W : Nat), .int .i64 (y : Nat), .slice (some ⟨ga, 0, none⟩) N N]) := HJ10.out.1.1
        have KB10 : Hid (Blk w10 bb [.int .i64 (W : Nat), .int .i64 (y : Nat), .slice (some ⟨gb, 0, none⟩) N N]) := HJ10.out.1.2.1
        have HT10 : Hid (crcs.TabAt w10) := HT.out.below HB10.out
        have qp : ((p : Int) == (p : Int)) = true := by simp
        have qs : ((sm : Int) == (sm : Int)) = true := by simp
        have w1' : wrap64 ((W : Int) - 1) = (W : Int) - 1 := IntWalk.wrap64_in _ (by omega)
        have w2' : wrap64 ((y : Int) - 1) = (y : Int) - 1 := IntWalk.wrap64_in _ (by omega)
        clear HJ10 HR10 HJ9 HB9 HF3 HF4 A3
        obtain ⟨⟨c0, c1, c2⟩, -, ci⟩ := KA10.out.c3
        obtain ⟨⟨d0, d1, d2⟩, -, di⟩ := KB10.out.c3
        go_wp2_with (fail)
        refine (HEQ.out ga gb _ HX.out.1 HX.out.2).mono ?_
        rintro e w11 ⟨rfl, hb⟩
        have HB11 : Hid (Below w.heap.size w w11) := HB10.out.trans (hb.mono HB10.out.size)
        have HX11 := Lib.hid (HX.out.1.below hb)
        have KA11 := Lib.hid (KA10.out.below' hb)
        have HT11 := Lib.hid (HT10.out.below hb)
        clear hb HEQ HX KB10 KA10 HT10 HB10 c0 c1 c2 ci d0 d1 d2 di
        obtain ⟨⟨c0, c1, c2⟩, -, ci⟩ := KA11.out.c3
        go_wp2_with (fail)
        refine (HS.out ga _ HX11.out HT11.out).mono ?_
        rintro e w12 ⟨rfl, hb⟩
        have HB12 : Hid (Below w.heap.size w w12) := HB11.out.trans (hb.mono HB11.out.size)
        have HX12 := Lib.hid (HX11.out.below hb)
        have KA12 := Lib.hid (KA11.out.below' hb)
        clear hb HS HX11 KA11 HT11 HB11 c0 c1 c2 ci
        obtain ⟨⟨c0, c1, c2⟩, -, ci⟩ := KA12.out.c3
        go_wp2_with (fail)
        refine (HAT.out ga _ HX12.out).mono ?_
        rintro e w13 ⟨rfl, hb⟩
        have HB13 : Hid (Below w.heap.size w w13) := HB12.out.trans (hb.mono HB12.out.size)
        have HX13 := Lib.hid (HX12.out.below hb)
        have KA13 := Lib.hid (KA12.out.below' hb)
        clear hb HAT HX12 KA12 HB12 c0 c1 c2 ci
        obtain ⟨⟨c0, c1, c2⟩, -, ci⟩ := KA13.out.c3
        go_wp2_with (fail)
        refine (HA4.out ga _ HX13.out).mono ?_
        rintro e w14 ⟨rfl, -, ho⟩
        have HB14 : Hid (Below w.heap.size w w14) := HB13.out.trans (ho.to_below HB13.out.size (by intro q hq; have := HGB.out; simp at hq; omega))
        clear ho HA4 HX13 KA13 HB13 c0 c1 c2 ci
        go_wp2_with (fail)
        refine (HAW.out _ HB14.out).mono ?_
        rintro e w15 ⟨rfl, hb⟩
        have HB15 := Lib.hid hb
        clear hb
        go_wp2_with (fail)
        go_ret
        exact ⟨rfl, HB15.out⟩
theorem fills_all (u v z : Int) (w : World) (_ : -9223372036854775808 ≤ u) (_ : u ≤ 9223372036854775807) (_ : -9223372036854775808 ≤ v) (_ : v ≤ 9223372036854775807) (hz1 : 0 ≤ z) (hz2 : z ≤ 4294967295) (ht : crcs.TabAt w) :
    Calls Tryd.prog 6 #[.int .i64 u, .int .i64 v, .int .u32 z] w fun e w' => e = .returned (.bool true) ∧ Below w.heap.size w w' := by
  obtain ⟨p, rfl⟩ := Int.eq_ofNat_of_zero_le hz1
  by_cases h : 1 ≤ u ∧ 1 ≤ v ∧ u ≤ 30 ∧ v ≤ 30
  · obtain ⟨W, rfl⟩ := Int.eq_ofNat_of_zero_le (show 0 ≤ u by omega)
    obtain ⟨H, rfl⟩ := Int.eq_ofNat_of_zero_le (show 0 ≤ v by omega)
    exact fills_core W H p (by omega) (by omega) (by omega) w ht
  · have HAW := Lib.hid (awk ht)
    clear ht
    have hh : (decide (u < 1) = true) ∨ (decide (u < 1) = false ∧ decide (v < 1) = true) ∨ (decide (u < 1) = false ∧ decide (v < 1) = false ∧ decide (30 < u) = true) ∨ (decide (u < 1) = false ∧ decide (v < 1) = false ∧ decide (30 < u) = false ∧ decide (30 < v) = true) := by
      simp only [decide_eq_true_eq, decide_eq_false_iff_not]
      omega
    clear h
    rcases hh with t1 | ⟨t1, t2⟩ | ⟨t1, t2, t3⟩ | ⟨t1, t2, t3, t4⟩
    all_goals
      go_enter Tryd.func6, Tryd.ntmps6
      go_wp2_with (fail)
      refine (HAW.out _ (Below.refl _ _)).mono ?_
      rintro e w2 ⟨rfl, hb⟩
      have HB2 := Lib.hid hb
      clear hb
      go_wp2_with (fail)
      go_ret
      exact ⟨rfl, HB2.out⟩
end Go.Proofs.YtemlcibieeakiaaDoor
