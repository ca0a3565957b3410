/-
  The walk of the law DiskOf: up to 1100 files.
-/
import Derived.Test.YtpnhgongjfknbaaDiskOfU
import Derived.Deep.DeepCutAuto
import Derived.Deep.CutBlock
namespace Go.Proofs.Ytpnhgongjfknbaa
open Go.RowKit omap so

theorem stepG_names (B : Bool) {q : Int × Fs} {x : FIn} (hx : x.n.size ≤ 100) (h : ∀ y ∈ q.2, y.1.length ≤ 1000) : ∀ y ∈ (stepG B q x).2, y.1.length ≤ 1000 := by
  unfold stepG
  by_cases h1 : q.1 ≠ 0
  · rw [if_pos h1]; exact h
  · rw [if_neg h1]
    by_cases h2 : nameB x.k = false
    · rw [if_pos h2]; exact h
    · rw [if_neg h2]
      by_cases h3 : (omap.look q.2 x.k).isSome = true
      · rw [if_pos h3]; exact h
      · rw [if_neg h3]
        cases B with
        | true =>
          have hk : x.k.length ≤ 1000 := by
            have : x.k.length = x.n.size := by unfold FIn.k; rw [Array.length_toList]; rfl
            omega
          exact put_names hk h
        | false => exact h
theorem runG_names (B : Bool) : ∀ (fl : List FIn), (∀ x ∈ fl, x.n.size ≤ 100) → ∀ (q : Int × Fs), (∀ y ∈ q.2, y.1.length ≤ 1000) → ∀ y ∈ (runG B q fl).2, y.1.length ≤ 1000
  | [], _, _, h => h
  | x :: fl, hx, q, h => by
    have : runG B q (x :: fl) = runG B (stepG B q x) fl := rfl
    rw [this]
    exact runG_names B fl (fun z hz => hx z (List.mem_cons_of_mem _ hz)) _ (stepG_names B (hx x List.mem_cons_self) h)
set_option maxRecDepth 100000 in
set_option maxHeartbeats 4000000 in
theorem of_few (cap : Int) (A : Option Addr) (fl : List FIn) (c : Nat) (w : World) (hcap : I64' cap) (hr : FileRow w A fl) (hx : ∀ x ∈ fl, x.p.ok w) (hm : fl.length ≤ 1100) :
    Calls Try.prog 4 #[.int .i64 cap, .slice A fl.length c] w fun e w' => e = .returned (.bool true) ∧ Below w.heap.size w w' := by
  have t1 : decide ((1100 : Int) < fl.length) = false := by simp; omega
  have HROW := Lib.hid hr
  have HX := Lib.hid hx
  clear hr hx
  go_enter Try.func4, Try.ntmps4
  go_wp2_with (fail)
  obtain ⟨B, hB⟩ : ∃ B, B = decide (fl.length ≤ 1024) := ⟨_, rfl⟩
  have HBB := Lib.hid hB
  clear hB
  go_loopw [6, 7, 26] (fun wn us i wr => ∃ (k : Nat) (x : Rf), k ≤ fl.length ∧ wn = .int .i64 (runG B (0, []) (fl.take k)).1 ∧ us = .int .i64 (sumF (fl.take k) : Nat) ∧ i = .int .i64 k ∧ Hid (OfAt w wr w.heap.size cap x ∧ x.d = ⟨⟨0, 0, false⟩, 0, (runG B (0, []) (fl.take k)).2⟩ ∧ ∀ j (hj : j < fl.length), j < k → fl[j].p.l.length ≤ 500 ∧ fl[j].n.size ≤ 100)) (fun _ _ i _ => fl.length - (intOf i).toNat)
  case atStart => exact ⟨0, ⟨none, 0, ⟨⟨0, 0, false⟩, 0, []⟩⟩, Nat.zero_le _, rfl, rfl, rfl, ⟨⟨blk_new w _ _, ⟨fun h => absurd h (by simp), Nat.le_refl _, by simp⟩, (Below.refl _ _).alloc (Nat.le_refl _) _, Nat.le_refl _, fun h => absurd h (by simp)⟩, rfl, fun j _ h => absurd h (by omega)⟩⟩
  case round =>
    obtain ⟨k, x, hk, rfl, rfl, rfl, HH⟩ := hrel
    by_cases hlt : k < fl.length
    · obtain ⟨rb, off, ra, hcell⟩ := (HROW.out.below HH.out.1.below) (by omega)
      subst ra
      obtain ⟨q0, q1⟩ := hcell k hlt
      have hok := (HX.out _ (List.getElem_mem hlt)).below HH.out.1.below
      have hrbl : rb < wr.heap.size := World.block_lt_of_cell? wr _ q0
      have hlti : (k : Int) < (fl.length : Int) := by omega
      have hnb : (k : Int) ≤ 1100 := by omega
      have HN := Lib.hid (runG_next B (0, []) hlt)
      have HS := Lib.hid (sumF_next hlt)
      have hsum : sumF (fl.take k) ≤ 1000000 := by have := sumF_le k (fun j hj hjk => (HH.out.2.2 j hj hjk).1) hk; omega
      have hqlen := runG_length B fl k hk
      generalize sumF (fl.take k) = us at *
      generalize hq : runG B (0, []) (fl.take k) = q at *
      generalize hy : fl[k] = y at *
      obtain ⟨wn, gs⟩ := q
      simp only at *
      clear hcell hq
      obtain ⟨yn, ⟨pa, pl, pc⟩⟩ := y
      simp only at q0 q1 hok
      unfold Part.v at q1
      simp only at q1
      by_cases hbig : 500 < pl.length ∨ 100 < yn.size
      · clear hnb hsum hqlen HN HS hok HX HROW HBB
        by_cases h5 : 500 < pl.length
        · have t5 : decide ((500 : Int) < pl.length) = true := by simp; omega
          clear h5 hbig
          go_wp2_with (fail)
          refine (awake_any _).mono ?_
          rintro r w2 ⟨rfl, hb2⟩
          have HB2 := Lib.hid (HH.out.1.below.trans (((Below.refl _ _).alloc (Nat.le_refl _) _ |>.trans (hb2.mono (by simp))).mono HH.out.1.below.size))
          clear hb2
          go_wp2_with (fail)
          go_ret
          exact ⟨rfl, HB2.out⟩
        · have t5 : decide ((500 : Int) < pl.length) = false := by simp; omega
          have t6 : decide ((100 : Int) < yn.size) = true := by simp; omega
          clear h5 hbig
          go_wp2_with (fail)
          refine (awake_any _).mono ?_
          rintro r w2 ⟨rfl, hb2⟩
          have HB2 := Lib.hid (HH.out.1.below.trans (((Below.refl _ _).alloc (Nat.le_refl _) _ |>.trans (hb2.mono (by simp))).mono HH.out.1.below.size))
          clear hb2
          go_wp2_with (fail)
          go_ret
          exact ⟨rfl, HB2.out⟩
      · have h5 : pl.length ≤ 500 := by omega
        have h6 : yn.size ≤ 100 := by omega
        have t5 : decide ((500 : Int) < pl.length) = false := by simp; omega
        have t6 : decide ((100 : Int) < yn.size) = false := by simp; omega
        obtain ⟨xA, xc, xd⟩ := x
        obtain ⟨hat, hd, hall⟩ := HH.out
        simp only at hd
        subst hd
        have hxb : w.heap.size < wr.heap.size := hat.blk.inside
        have d0 := hat.blk.cell 0
        have d1 := hat.blk.cell 1
        have d2 := hat.blk.cell 2
        have d3 := hat.blk.cell 3
        have d4 := hat.blk.cell 4
        simp only at d0 d1 d2 d3 d4
        have HAT := Lib.hid hat
        have HALL := Lib.hid hall
        have H56 := Lib.hid (And.intro h5 h6)
        have HNM := Lib.hid (rname_any yn)
        clear hat hall HH hbig h5 h6
        have HALL' : Hid (∀ j (hj : j < fl.length), j < k + 1 → fl[j].p.l.length ≤ 500 ∧ fl[j].n.size ≤ 100) := fun j hj hjk => by
          rcases Nat.lt_or_eq_of_le (Nat.le_of_lt_succ hjk) with h | rfl
          · exact HALL.out j hj h
          · rw [hy]; exact H56.out
        have HWR : Hid (wrap64 ((us : Int) + pl.length) = ((us + pl.length : Nat) : Int)) := by
          have := H56.out.1
          show wrap64 _ = _
          unfold wrap64
          omega
        have HB1 := Lib.hid ((Below.refl wr.heap.size wr).alloc (Nat.le_refl _) (.cells #[.string yn, .slice pa pl.length pc] 43))
        have HSZ := Lib.hid H56.out.2
        have HOK := Lib.hid hok
        clear HALL H56 hy hok
        have t9 : decide ((fl.length : Int) ≤ 1024) = B := by rw [HBB.out]; exact decide_eq_decide.2 (by omega)
        by_cases hw : wn = 0
        · subst hw
          go_wp2_with (fail)
          refine (HNM.out _ (by have := HSZ.out; omega)).mono ?_
          rintro r w2 ⟨rfl, rfl⟩
          cases hnm : nameB yn.data.toList with
          | false =>
            have HE : Hid (stepG B (0, gs) ⟨yn, ⟨pa, pl, pc⟩⟩ = (25, gs)) := by
              show stepG _ _ _ = _
              unfold stepG
              rw [if_neg (by simp), if_pos (show nameB (FIn.k ⟨yn, ⟨pa, pl, pc⟩⟩) = false from hnm)]
            clear hnm HNM
            rcases Bool.eq_false_or_eq_true B with hb | hb
            · rw [hb] at t9
              have HB := Lib.hid hb
              clear hb
              go_wp2_with (fail)
              go_roundw
              case rel =>
                exact ⟨k + 1, ⟨xA, xc, ⟨⟨0, 0, false⟩, 0, gs⟩⟩, by omega, by rw [HN.out, HE.out], by rw [HWR.out, HS.out], by go_num, ⟨HAT.out.later HB1.out, by rw [HN.out, HE.out], HALL'.out⟩⟩
              case measure => simp [intOf]; omega
            · rw [hb] at t9
              have HB := Lib.hid hb
              clear hb
              go_wp2_with (fail)
              go_roundw
              case rel =>
                exact ⟨k + 1, ⟨xA, xc, ⟨⟨0, 0, false⟩, 0, gs⟩⟩, by omega, by rw [HN.out, HE.out], by rw [HWR.out, HS.out], by go_num, ⟨HAT.out.later HB1.out, by rw [HN.out, HE.out], HALL'.out⟩⟩
              case measure => simp [intOf]; omega
          | true =>
            clear HNM
            go_wp2_with (fail)
            refine (rfi.rAt_any cap ⟨xA, xc, ⟨⟨0, 0, false⟩, 0, gs⟩⟩ yn _ (HAT.out.ok.below HB1.out)).mono ?_
            rintro r w3 ⟨rfl, hb3⟩
            simp only
            have hpl := placeI_look yn.data.toList gs
            generalize placeI yn.data.toList gs = z at *
            have HB3 := Lib.hid (HB1.out.trans (hb3.mono (by simp)))
            have HY := Lib.hid hb3
            clear hb3
            cases hlk : (omap.look gs yn.data.toList).isSome with
            | true =>
              rw [hlk] at hpl
              have HE : Hid (stepG B (0, gs) ⟨yn, ⟨pa, pl, pc⟩⟩ = (15, gs)) := by
                show stepG _ _ _ = _
                unfold stepG
                rw [if_neg (by simp), if_neg (show ¬ nameB (FIn.k ⟨yn, ⟨pa, pl, pc⟩⟩) = false by rw [show nameB (FIn.k ⟨yn, ⟨pa, pl, pc⟩⟩) = true from hnm]; simp), if_pos (show (omap.look gs (FIn.k ⟨yn, ⟨pa, pl, pc⟩⟩)).isSome = true from hlk)]
              clear hlk hnm
              rcases Bool.eq_false_or_eq_true B with hb | hb
              · rw [hb] at t9
                have HB := Lib.hid hb
                clear hb
                go_wp2_with (fail)
                go_roundw
                case rel =>
                  exact ⟨k + 1, ⟨xA, xc, ⟨⟨0, 0, false⟩, 0, gs⟩⟩, by omega, by rw [HN.out, HE.out], by rw [HWR.out, HS.out], by go_num, ⟨HAT.out.later HB3.out, by rw [HN.out, HE.out], HALL'.out⟩⟩
                case measure => simp [intOf]; omega
              · rw [hb] at t9
                have HB := Lib.hid hb
                clear hb
                go_wp2_with (fail)
                go_roundw
                case rel =>
                  exact ⟨k + 1, ⟨xA, xc, ⟨⟨0, 0, false⟩, 0, gs⟩⟩, by omega, by rw [HN.out, HE.out], by rw [HWR.out, HS.out], by go_num, ⟨HAT.out.later HB3.out, by rw [HN.out, HE.out], HALL'.out⟩⟩
                case measure => simp [intOf]; omega
            | false =>
              rw [hlk] at hpl
              have HE : Hid (stepG B (0, gs) ⟨yn, ⟨pa, pl, pc⟩⟩ = (0, if B = true then putF gs ⟨yn, ⟨pa, pl, pc⟩⟩ else gs)) := by
                show stepG _ _ _ = _
                unfold stepG
                rw [if_neg (by simp), if_neg (show ¬ nameB (FIn.k ⟨yn, ⟨pa, pl, pc⟩⟩) = false by rw [show nameB (FIn.k ⟨yn, ⟨pa, pl, pc⟩⟩) = true from hnm]; simp), if_neg (show ¬ (omap.look gs (FIn.k ⟨yn, ⟨pa, pl, pc⟩⟩)).isSome = true by rw [show (omap.look gs (FIn.k ⟨yn, ⟨pa, pl, pc⟩⟩)).isSome = false from hlk]; simp)]
              clear hlk hnm
              rcases Bool.eq_false_or_eq_true B with hb | hb
              · rw [hb] at t9
                have HX3 := Lib.hid (HAT.out.later HB3.out)
                have hyb := (blk_new wr [.string yn, .slice pa pl.length pc] 43).stays (HY.out.block _ (by simp))
                have n0 := hyb.cell 0
                have n1 := hyb.cell 1
                have e0 := HX3.out.blk.cell 0
                have e1 := HX3.out.blk.cell 1
                have e2 := HX3.out.blk.cell 2
                have e3 := HX3.out.blk.cell 3
                have e4 := HX3.out.blk.cell 4
                have f0 := HX3.out.blk.free 0
                have f1 := HX3.out.blk.free 1
                have f2 := HX3.out.blk.free 2
                have f3 := HX3.out.blk.free 3
                have f4 := HX3.out.blk.free 4
                simp only at n0 n1 e0 e1 e2 e3 e4
                have hcs := conv_str w3 pa pl pc (HOK.out.below HB3.out).at_
                have hyn : (⟨yn.data.toList.toArray⟩ : ByteArray) = yn := by cases yn; simp
                have HW := Lib.hid (rfi.rwith_any cap ⟨xA, xc, ⟨⟨0, 0, false⟩, 0, gs⟩⟩ yn.data.toList ⟨pl, pl.length⟩ w3 HX3.out.ok (by show gs.length < _; omega))
                rw [hyn] at HW
                rw [if_pos hb] at HE
                have HB := Lib.hid hb
                clear hb hyn hyb d0 d1 d2 d3 d4
                go_wp2_with (fail)
                refine HW.out.mono ?_
                rintro r w4 ⟨⟨rA, rc, rd⟩, rfl, hrok, hrd, hrb, hrn⟩
                simp only at hrd
                subst hrd
                have HX4 := Lib.hid (HX3.out.later hrb)
                have HRO := Lib.hid hrok
                have HRN := Lib.hid hrn
                have HB4 := Lib.hid (HB3.out.trans (hrb.mono HB3.out.size))
                have h30 := HX3.out.blk.inside
                have g0 := HX4.out.blk.cell 0
                have g1 := HX4.out.blk.cell 1
                have g2 := HX4.out.blk.cell 2
                have g3 := HX4.out.blk.cell 3
                have g4 := HX4.out.blk.cell 4
                have k0 := HX4.out.blk.free 0
                have k1 := HX4.out.blk.free 1
                have k2 := HX4.out.blk.free 2
                have k3 := HX4.out.blk.free 3
                have k4 := HX4.out.blk.free 4
                simp only at g0 g1 g2 g3 g4
                clear hrok hrn hrb e0 e1 e2 e3 e4 f0 f1 f2 f3 f4 n0 n1 hcs HW
                unfold rfi.vC
                simp only
                go_wp2_with (fail)
                go_roundw
                case rel =>
                  refine ⟨k + 1, ⟨rA, rc, ⟨⟨0, 0, false⟩, 0, omap.put lt yn.data.toList ⟨pl, pl.length⟩ gs⟩⟩, by omega, by rw [HN.out, HE.out], by rw [HWR.out, HS.out], by go_num, ⟨⟨((((HX4.out.blk.set 0 _).set 1 _).set 2 _).set 3 _).set 4 _, ⟨HRO.out.row.stays fun hn a ha => (Turn.far (((((Turn.set (S := [w.heap.size]) (by simp) _).trans (Turn.set (by simp) _)).trans (Turn.set (by simp) _)).trans (Turn.set (by simp) _)).trans (Turn.set (by simp) _)) _ (HRO.out.row.inside hn ha) (by have := HRN.out a ha; simp; omega)).2, HRO.out.room, HRO.out.few⟩, (HAT.out.below.trans (HB4.out.mono HAT.out.below.size)).trans (Turn.to_below (((((Turn.set (S := [w.heap.size]) (by simp) _).trans (Turn.set (by simp) _)).trans (Turn.set (by simp) _)).trans (Turn.set (by simp) _)).trans (Turn.set (by simp) _)) (Nat.le_trans HAT.out.below.size HB4.out.size) (by simp)), Nat.le_refl _, fun _ a ha => by have := HRN.out a ha; omega⟩, by rw [HN.out, HE.out]; rfl, HALL'.out⟩⟩
                case measure => simp [intOf]; omega
              · rw [hb] at t9
                rw [if_neg (by rw [hb]; simp)] at HE
                have HB := Lib.hid hb
                clear hb
                go_wp2_with (fail)
                go_roundw
                case rel =>
                  exact ⟨k + 1, ⟨xA, xc, ⟨⟨0, 0, false⟩, 0, gs⟩⟩, by omega, by rw [HN.out, HE.out], by rw [HWR.out, HS.out], by go_num, ⟨HAT.out.later HB3.out, by rw [HN.out, HE.out], HALL'.out⟩⟩
                case measure => simp [intOf]; omega
        · have t8 : (wn == (0 : Int)) = false := by simp; exact hw
          have t7 : decide (wn = 0) = false := by simp; exact hw
          have HE : Hid (stepG B (wn, gs) ⟨yn, ⟨pa, pl, pc⟩⟩ = (wn, gs)) := by
            show stepG _ _ _ = _
            unfold stepG
            rw [if_pos hw]
          clear HNM hw
          rcases Bool.eq_false_or_eq_true B with hb | hb
          · rw [hb] at t9
            have HB := Lib.hid hb
            clear hb
            go_wp2_with (fail)
            go_roundw
            case rel =>
              exact ⟨k + 1, ⟨xA, xc, ⟨⟨0, 0, false⟩, 0, gs⟩⟩, by omega, by rw [HN.out, HE.out], by rw [HWR.out, HS.out], by go_num, ⟨HAT.out.later HB1.out, by rw [HN.out, HE.out], HALL'.out⟩⟩
            case measure => simp [intOf]; omega
          · rw [hb] at t9
            have HB := Lib.hid hb
            clear hb
            go_wp2_with (fail)
            go_roundw
            case rel =>
              exact ⟨k + 1, ⟨xA, xc, ⟨⟨0, 0, false⟩, 0, gs⟩⟩, by omega, by rw [HN.out, HE.out], by rw [HWR.out, HS.out], by go_num, ⟨HAT.out.later HB1.out, by rw [HN.out, HE.out], HALL'.out⟩⟩
            case measure => simp [intOf]; omega
    · have hk' : k = fl.length := by omega
      subst hk'
      rw [List.take_length] at HH ⊢
      generalize hq : runG B (0, []) fl = q at *
      have hsum : sumF fl ≤ 1000000 := by
        have := sumF_le (fl := fl) fl.length (fun j hj hjk => (HH.out.2.2 j hj hjk).1) (Nat.le_refl _)
        rw [List.take_length] at this
        omega
      have HQ := Lib.hid hq
      obtain ⟨us, hus⟩ : ∃ us, us = sumF fl := ⟨_, rfl⟩
      rw [← hus] at hsum ⊢
      have HUS := Lib.hid hus
      obtain ⟨wn, gs⟩ := q
      simp only at *
      clear hlt hk hq hus
      go_upto_block 2 with (fail)
      go_cut [6] (fun s wx => wx = wr ∧ Hid (s = .int .i64 (wantS cap fl.length wn us)))
      case first =>
        by_cases h1 : cap < 0
        · have HE : Hid (wantS cap fl.length wn us = 11) := by show _ = _; unfold wantS; rw [if_pos (.inl h1)]
          go_wp2_with (fail)
          go_meet
          exact ⟨rfl, Lib.hid (by rw [HE.out])⟩
        · have t10 : decide (cap < 0) = false := by simpa using h1
          by_cases h2 : 67108864 < cap
          · have HE : Hid (wantS cap fl.length wn us = 11) := by show _ = _; unfold wantS; rw [if_pos (.inr h2)]
            have t11 : decide ((67108864 : Int) < cap) = true := by simpa using h2
            clear h1 h2
            go_wp2_with (fail)
            go_meet
            exact ⟨rfl, Lib.hid (by rw [HE.out])⟩
          · have t11 : decide ((67108864 : Int) < cap) = false := by simpa using h2
            by_cases h3 : 1024 < fl.length
            · have HE : Hid (wantS cap fl.length wn us = 12) := by show _ = _; unfold wantS; rw [if_neg (by omega), if_pos h3]
              have t12 : decide ((1024 : Int) < fl.length) = true := by simp; omega
              clear h1 h2 h3
              go_wp2_with (fail)
              go_meet
              exact ⟨rfl, Lib.hid (by rw [HE.out])⟩
            · have t12 : decide ((1024 : Int) < fl.length) = false := by simp; omega
              by_cases h4 : wn = 0
              · subst h4
                by_cases h5 : cap < (us : Int)
                · have HE : Hid (wantS cap fl.length 0 us = 23) := by show _ = _; unfold wantS; rw [if_neg (by omega), if_neg h3, if_pos ⟨rfl, h5⟩]
                  have t13 : decide (cap < (us : Int)) = true := by simpa using h5
                  clear h1 h2 h3 h5
                  go_wp2_with (fail)
                  go_meet
                  exact ⟨rfl, Lib.hid (by rw [HE.out])⟩
                · have HE : Hid (wantS cap fl.length 0 us = 0) := by show _ = _; unfold wantS; rw [if_neg (by omega), if_neg h3, if_neg (fun h => h5 h.2)]
                  have t13 : decide (cap < (us : Int)) = false := by simpa using h5
                  clear h1 h2 h3 h5
                  go_wp2_with (fail)
                  go_meet
                  exact ⟨rfl, Lib.hid (by rw [HE.out])⟩
              · have HE : Hid (wantS cap fl.length wn us = wn) := by show _ = _; unfold wantS; rw [if_neg (by omega), if_neg h3, if_neg (fun h => h4 h.1)]
                have t14 : (wn == (0 : Int)) = false := by simp; exact h4
                clear h1 h2 h3 h4
                go_wp2_with (fail)
                go_meet
                exact ⟨rfl, Lib.hid (by rw [HE.out])⟩
      case rest =>
        obtain ⟨rfl, hcut⟩ := hcut
        obtain rfl := hcut.out
        clear hcut
        obtain ⟨hat, hxd, hall⟩ := HH.out
        have hallx : ∀ j (hj : j < fl.length), fl[j].p.l.length ≤ 500 ∧ fl[j].n.size ≤ 100 := fun j hj => hall j hj hj
        have HAT := Lib.hid hat
        have HXD := Lib.hid hxd
        have HALL := Lib.hid hallx
        have HNM : Hid (∀ y ∈ gs, y.1.length ≤ 1000) := by
          have := runG_names B fl (fun x hx => by obtain ⟨j, hj, rfl⟩ := List.getElem_of_mem hx; exact (hallx j hj).2) (0, []) (fun y hy => by cases hy)
          rw [HQ.out] at this
          exact this
        have HBW : Hid (Below w.heap.size w wc) := hat.below
        have hwant := want_ok (cap := cap) HBB.out HQ.out
        rw [← HUS.out] at hwant
        obtain ⟨W, hW⟩ : ∃ W, wantS cap fl.length wn us = W := ⟨_, rfl⟩
        rw [hW] at hwant ⊢
        have HWANT := Lib.hid hwant
        have hfl : (fl.length : Int) ≤ 1100 := by omega
        have HFL : Hid (fl.length ≤ 1100) := hm
        clear hat hxd hall hallx HH hwant hW HBB HQ HUS hsum hm
        go_wp2_with (fail)
        go_loopw [10, 103] (fun v10 i wx => ∃ (k : Nat) (os : List FIn), k ≤ fl.length ∧ i = .int .i64 k ∧ Hid (os.map plainF = (fl.take k).map plainF) ∧ Hid (FO wx wc.heap.size v10 os) ∧ Hid (OwnAll wx wc.heap.size os) ∧ Hid (ApartAll os) ∧ Hid (Below wc.heap.size wc wx)) (fun _ i _ => fl.length - (intOf i).toNat)
        case atStart => exact ⟨0, [], Nat.zero_le _, rfl, rfl, SOwn.nil _ _, (fun x hx => by cases hx), (fun i j hi => by simp at hi), Below.refl _ _⟩
        case round =>
          obtain ⟨k, os, hk, rfl, HP, HF, HO, HA, HB⟩ := hrel
          by_cases hlt : k < fl.length
          · have hbw : Below w.heap.size w wr := HBW.out.trans (HB.out.mono HBW.out.size)
            obtain ⟨rb, off, ra, hcell⟩ := (HROW.out.below hbw) (by omega)
            subst ra
            obtain ⟨q0, q1⟩ := hcell k hlt
            have hokp := HX.out _ (List.getElem_mem hlt)
            have hsz := HALL.out k hlt
            have hpn : (fl.take (k + 1)).map plainF = os.map plainF ++ [plainF fl[k]] := by rw [List.take_succ_eq_append_getElem hlt, List.map_append, ← HP.out]; rfl
            have hol : os.length = k := by have := congrArg List.length HP.out; simp at this; omega
            generalize fl[k] = y at *
            obtain ⟨yn, ⟨pa, pl, pc⟩⟩ := y
            unfold Part.v at q1
            simp only at q0 q1 hsz
            have hrbl : rb < wr.heap.size := World.block_lt_of_cell? wr ⟨rb, _, none⟩ q0
            have hkk : (k : Int) ≤ 1100 := by have := HFL.out; omega
            have HPN := Lib.hid hpn
            have HOKW : Hid (Bs w pa pl ∧ AreBytes pl) := ⟨hokp.at_, hokp.bytes⟩
            have HSZ := Lib.hid hsz
            have HOL := Lib.hid hol
            have HU10 : Hid (Under wr.heap.size u10) := fun g hg => (SOwn.block HF.out hg).2
            have HUOS : Hid (∀ x ∈ os, Under wr.heap.size x.p.v) := fun x hx g hg => ((HO.out x hx).2.block hg).2
            have HSEP : Hid (∀ x ∈ os, Sep x.p.v u10) := fun x hx => sep_types (HO.out x hx).2 HF.out
            clear hbw hcell hokp hsz hpn hol
            go_wp2_with (fail)
            have HB1 : Hid (Below wc.heap.size wc (wr.alloc (.cells #[.string yn, .slice pa pl.length pc] 43))) := HB.out.alloc HB.out.size _
            have HF1 : Hid (FO (wr.alloc (.cells #[.string yn, .slice pa pl.length pc] 43)) wc.heap.size u10 os ∧ OwnAll (wr.alloc (.cells #[.string yn, .slice pa pl.length pc] 43)) wc.heap.size os ∧ Blk (wr.alloc (.cells #[.string yn, .slice pa pl.length pc] 43)) wr.heap.size [.string yn, .slice pa pl.length pc]) := ⟨SOwn.below HF.out ((Below.refl _ _).alloc (Nat.le_refl _) _), HO.out.below ((Below.refl _ _).alloc (Nat.le_refl _) _), blk_new wr [.string yn, .slice pa pl.length pc] _⟩
            obtain ⟨gb, hgb⟩ : ∃ g, wr.heap.size = g := ⟨_, rfl⟩
            rw [hgb] at HF1 HU10 HUOS ⊢
            have HGB := Lib.hid hgb
            clear hgb hrbl q0 q1 HF HO
            generalize hw1 : (wr.alloc (.cells #[.string yn, .slice pa pl.length pc] 43)) = wz at *
            clear hw1
            refine regv.wp_region_put (Below wc.heap.size) (fun L V wx => JO wc.heap.size gb yn ⟨pa, pl, pc⟩ u10 os (L 3) (L 6) (L 7) (L 8) (L 9) (V 110) (V 113) (V 114) (V 115) (V 116) wx ∧ JP u10 (L 0) (L 9) (L 10) (V 10) (V 116)) [107, 108, 109, 110, 111, 112, 113, 114, 115, 116, 10] (by kernel_rfl) (by kernel_rfl) (fun _ => Below.refl _ _) (fun _ _ _ h k => h.trans k) (fun i => (match i with
              | 0 => regs.Say.val _ (u10)
              | 1 => regs.Say.val _ (.pointer (some ⟨gb, 0, none⟩))
              | 2 => regs.Say.val _ (.string yn)
              | 3 => regs.Say.any _
              | 4 => regs.Say.val _ (.pointer (some ⟨gb, 1, none⟩))
              | 5 => regs.Say.val _ (.slice pa pl.length pc)
              | 6 => regs.Say.any _
              | 7 => regs.Say.any _
              | 8 => regs.Say.any _
              | 9 => regs.Say.any _
              | 10 => regs.Say.any _
              | _ => regs.Say.any _ : regs.Say (Below wc.heap.size)).p) (fun _ => regs.Say.mono _) (by kernel_rfl) ((Below.refl _ _).drew) (⟨JO.start HB1.out.size HF1.out.2.2 HF1.out.1 HF1.out.2.1 _ _ _ _ _, ⟨fun _ => rfl, fun e => (nomatch e), fun e => (nomatch e)⟩⟩) ⟨?_, ?_, ?_, ?_, ?_, ?_, ?_, ?_, ?_, ?_, ?_, trivial⟩ ?_
            · refine regv.StepOK.plain rfl fun L a w1 hh => ?_
              have h10 : a.tmps[10]?.getD undef = u10 := by rw [← Array.getD_eq_getD_getElem?]; exact hh.st.2.1 hh.un
              have hJ := Lib.hid hh.st
              have hsz := Lib.hid hh.size
              clear hh
              go_simp
              exact ⟨_, rfl, Below.refl _ _, rfl, ⟨JO.slots hJ.out.1 (regv.sl_ne (by decide)) (regv.sl_ne (by decide)) (regv.sl_ne (by decide)) (regv.sl_ne (by decide)) (regv.sl_ne (by decide)), JP.slots (JP.did0 hJ.out.2) (regv.sl_ne (by decide)) (regv.sl_ne (by decide))⟩⟩
            · refine regv.StepOK.plain rfl fun L a w1 hh => ?_
              have h12 : a.tmps[12]?.getD undef = .pointer (some ⟨gb, 0, none⟩) := hh.kp 12 rfl rfl
              have hJ := Lib.hid hh.st
              clear hh
              go_simp
              exact ⟨_, rfl, Below.refl _ _, rfl, ⟨JO.slots hJ.out.1 (regv.sl_ne (by decide)) (regv.sl_ne (by decide)) (regv.sl_ne (by decide)) (regv.sl_ne (by decide)) (regv.sl_ne (by decide)), JP.slots hJ.out.2 (regv.sl_ne (by decide)) (regv.sl_ne (by decide))⟩⟩
            · refine regv.StepOK.plain rfl fun L a w1 hh => ?_
              have h108 := hh.v 1 108 rfl (by kernel_rfl) (by kernel_rfl)
              obtain ⟨c0, c1⟩ := blk2 (show Blk w1 gb [.string yn, .slice pa pl.length pc] from hh.st.1.1.2)
              have hJ := Lib.hid hh.st
              clear hh
              go_simp
              exact ⟨_, rfl, Below.refl _ _, rfl, ⟨JO.slots hJ.out.1 (regv.sl_ne (by decide)) (regv.sl_ne (by decide)) (regv.sl_ne (by decide)) (regv.sl_ne (by decide)) (regv.sl_ne (by decide)), JP.slots hJ.out.2 (regv.sl_ne (by decide)) (regv.sl_ne (by decide))⟩⟩
            · refine regv.StepOK.plain rfl fun L a w1 hh => ?_
              have hJ := Lib.hid hh.st
              have hsz := Lib.hid hh.size
              have hgw := Lib.hid hh.st.1.1.2.inside
              clear hh
              go_simp
              exact ⟨_, rfl, (Below.refl _ _).alloc hJ.out.1.1.1 _, trivial, ⟨JO.slots (JO.set110 (hJ.out.1.below ((Below.refl _ _).alloc (Nat.le_refl _) _)) (own_none w1 hJ.out.1.1.1) (fun q hq => by simp only [Value.ownBlock, Option.some.injEq] at hq; have := hgw.out; omega)) (regv.sl_same (by rw [hsz.out]; simp)) (regv.sl_ne (by decide)) (regv.sl_ne (by decide)) (regv.sl_ne (by decide)) (regv.sl_ne (by decide)), JP.slots hJ.out.2 (regv.sl_ne (by decide)) (regv.sl_ne (by decide))⟩⟩
            · refine regv.StepOK.plain rfl fun L a w1 hh => ?_
              have h12 : a.tmps[12]?.getD undef = .pointer (some ⟨gb, 0, none⟩) := hh.kp 12 rfl rfl
              have hJ := Lib.hid hh.st
              clear hh
              go_simp
              exact ⟨_, rfl, Below.refl _ _, rfl, ⟨JO.slots hJ.out.1 (regv.sl_ne (by decide)) (regv.sl_ne (by decide)) (regv.sl_ne (by decide)) (regv.sl_ne (by decide)) (regv.sl_ne (by decide)), JP.slots hJ.out.2 (regv.sl_ne (by decide)) (regv.sl_ne (by decide))⟩⟩
            · refine regv.StepOK.plain rfl fun L a w1 hh => ?_
              have h111 := hh.v 4 111 rfl (by kernel_rfl) (by kernel_rfl)
              obtain ⟨c0, c1⟩ := blk2 (show Blk w1 gb [.string yn, .slice pa pl.length pc] from hh.st.1.1.2)
              have hJ := Lib.hid hh.st
              clear hh
              go_simp
              exact ⟨_, rfl, Below.refl _ _, rfl, ⟨JO.slots hJ.out.1 (regv.sl_ne (by decide)) (regv.sl_ne (by decide)) (regv.sl_ne (by decide)) (regv.sl_ne (by decide)) (regv.sl_ne (by decide)), JP.slots hJ.out.2 (regv.sl_ne (by decide)) (regv.sl_ne (by decide))⟩⟩
            · refine regv.StepOK.plain rfl fun L a w1 hh => ?_
              have hJ := Lib.hid hh.st
              have hsz := Lib.hid hh.size
              have hown := hh.st.1.2.2.2.1 (hh.up 3 (by kernel_rfl)) hh.un
              have hbs := HOKW.out.1.below (HBW.out.trans ((HB1.out.trans hh.rel).mono HBW.out.size))
              obtain ⟨v9, w9, hrun, own9, hgr, hat⟩ := app_row w1 wc.heap.size _ [] hown.1 pa pl pc hbs (by have := HSZ.out.1; simp; omega) hJ.out.1.1.1
              rw [List.nil_append] at own9
              obtain ⟨a3, c3, e3, -⟩ := own9.part HOKW.out.2
              exact wp_app (.tmp 110) (.tmp 112) 35 35 35 rfl rfl rfl (hh.dep 5 112 (by kernel_rfl) (by kernel_rfl)) hrun ⟨v9, rfl, (Below.refl _ _).grown hgr hJ.out.1.1.1 (fun q hq => (hown.1.block hq).1), trivial, ⟨JO.slots (JO.set113 hJ.out.1 HUOS.out HU10.out (hh.up 3 (by kernel_rfl)) hh.un hgr own9 ⟨a3, c3, e3⟩ hat) (regv.sl_ne (by decide)) (regv.sl_same (by rw [hsz.out]; simp)) (regv.sl_ne (by decide)) (regv.sl_ne (by decide)) (regv.sl_ne (by decide)), JP.slots hJ.out.2 (regv.sl_ne (by decide)) (regv.sl_ne (by decide))⟩⟩
            · refine regv.StepOK.plain rfl fun L a w1 hh => ?_
              have h109 := hh.v 2 109 rfl (by kernel_rfl) (by kernel_rfl)
              obtain ⟨⟨a3, c3, h0⟩, -⟩ := hh.st.1.2.2.2.2.1 (hh.up 6 (by kernel_rfl))
              have h113 : a.tmps[113]?.getD undef = .slice a3 pl.length c3 := by rw [← Array.getD_eq_getD_getElem?]; exact h0
              have hJ := Lib.hid hh.st
              have hsz := Lib.hid hh.size
              have hu := Lib.hid (hh.up 6 (by kernel_rfl))
              have H1 := Lib.hid h0
              clear hh h0
              go_simp
              exact ⟨_, rfl, Below.refl _ _, trivial, ⟨JO.slots (JO.set114 hJ.out.1 hu.out) (regv.sl_ne (by decide)) (regv.sl_ne (by decide)) ((regv.sl_same (by rw [hsz.out]; simp)).trans (by rw [H1.out])) (regv.sl_ne (by decide)) (regv.sl_ne (by decide)), JP.slots hJ.out.2 (regv.sl_ne (by decide)) (regv.sl_ne (by decide))⟩⟩
            · refine regv.StepOK.plain rfl fun L a w1 hh => ?_
              obtain ⟨hu6, h0⟩ := hh.st.1.2.2.2.2.2.1 (hh.up 7 (by kernel_rfl))
              obtain ⟨⟨a3, c3, h1⟩, -⟩ := hh.st.1.2.2.2.2.1 hu6
              have h114 : a.tmps[114]?.getD undef = .agg #[.string yn, .slice a3 pl.length c3] := by rw [← Array.getD_eq_getD_getElem?]; exact h0.trans (by rw [h1])
              have hJ := Lib.hid hh.st
              have hsz := Lib.hid hh.size
              have H6 := Lib.hid hu6
              have H1 := Lib.hid h1
              clear hh h0 h1 hu6
              go_simp
              exact ⟨_, rfl, (Below.refl _ _).alloc hJ.out.1.1.1 _, trivial, ⟨JO.slots (JO.set115 (hJ.out.1.below ((Below.refl _ _).alloc (Nat.le_refl _) _)) H6.out (by rw [H1.out]; exact srow_new (enc := fincs) fin_len w1 [⟨yn, ⟨a3, pl, c3⟩⟩] _ rfl)) (regv.sl_ne (by decide)) (regv.sl_ne (by decide)) (regv.sl_ne (by decide)) (regv.sl_same (by rw [hsz.out]; simp)) (regv.sl_ne (by decide)), JP.slots hJ.out.2 (regv.sl_ne (by decide)) (regv.sl_ne (by decide))⟩⟩
            · refine regv.StepOK.plain rfl fun L a w1 hh => ?_
              have hJ := Lib.hid hh.st
              have hsz := Lib.hid hh.size
              obtain ⟨g, h115, hrow⟩ := hh.st.1.2.2.2.2.2.2.1 (hh.up 8 (by kernel_rfl)) hh.un
              have hown := hh.st.1.2.1 hh.un
              obtain ⟨v9, w9, hrun, own9, hgr, -⟩ := app_fin (c := 1) hown _ hrow (by have := HOL.out; have := HFL.out; omega) hJ.out.1.1.1
              exact wp_app (.tmp 107) (.tmp 115) 41 41 41 rfl rfl (hh.dep 0 107 (by kernel_rfl) (by kernel_rfl)) h115 hrun ⟨v9, rfl, (Below.refl _ _).grown hgr hJ.out.1.1.1 (fun q hq => (SOwn.block hown hq).1), trivial, ⟨JO.slots (JO.set116 hJ.out.1 HSEP.out HU10.out (hJ.out.1.2.2.2.2.2.2.2.2 (hh.up 8 (by kernel_rfl))) hgr own9) (regv.sl_ne (by decide)) (regv.sl_ne (by decide)) (regv.sl_ne (by decide)) (regv.sl_ne (by decide)) (regv.sl_same (by rw [hsz.out]; simp)), JP.slots (JP.did9 hJ.out.2 (hh.up 0 (by kernel_rfl)) hh.un) (regv.sl_ne (by decide)) (regv.sl_same (by rw [hsz.out]; simp))⟩⟩
            · refine regv.StepOK.plain rfl fun L a w1 hh => ?_
              obtain ⟨v, h0⟩ : ∃ v, regv.sl a 116 = v := ⟨_, rfl⟩
              have h116 : a.tmps[116]?.getD undef = v := by rw [← Array.getD_eq_getD_getElem?]; exact h0
              have hJ := Lib.hid hh.st
              have hsz := Lib.hid hh.size
              have hu := Lib.hid (hh.up 9 (by kernel_rfl))
              have H1 := Lib.hid h0
              clear hh h0
              go_simp
              exact ⟨_, rfl, Below.refl _ _, trivial, ⟨JO.slots hJ.out.1 (regv.sl_ne (by decide)) (regv.sl_ne (by decide)) (regv.sl_ne (by decide)) (regv.sl_ne (by decide)) (regv.sl_ne (by decide)), JP.slots (JP.did10 hJ.out.2 hu.out) ((regv.sl_same (by rw [hsz.out]; simp)).trans H1.out.symm) (regv.sl_ne (by decide))⟩⟩
            intro L w5 val hL hJ hR hv
            obtain ⟨⟨a3, c3, h113⟩, ho113, hab⟩ := hJ.1.2.2.2.2.1 (hL 6 (by decide))
            have hFO := (hJ.1.2.2.2.2.2.2.2.1 (hL 9 (by decide))).2
            have e10 := (hJ.2.2.2 (hL 10 (by decide))).2
            have hOA := hJ.1.2.2.1
            rw [h113] at hFO ho113 hab
            have HF5 : Hid (FO w5 wc.heap.size (val 116) (os ++ [⟨yn, ⟨a3, pl, c3⟩⟩])) := hFO
            have HO5 : Hid (OwnAll w5 wc.heap.size (os ++ [⟨yn, ⟨a3, pl, c3⟩⟩])) := fun x hx => by
              rcases List.mem_append.1 hx with hx | hx
              · exact hOA x hx
              · obtain rfl := List.mem_singleton.1 hx
                exact ⟨HOKW.out.2, ho113⟩
            have HA5 : Hid (ApartAll (os ++ [(⟨yn, ⟨a3, pl, c3⟩⟩ : FIn)])) := apart_snoc HA.out HUOS.out hab
            have HB5 : Hid (Below wc.heap.size wc w5) := HB1.out.trans hR
            clear hv hL hJ hR hFO hOA ho113 hab h113 HF1
            simp only [regs.putAll, List.map_cons, List.map_nil]
            rw [e10]
            clear e10
            generalize val 116 = v116 at *
            simp only [Act.put, List.setIfInBounds_toArray, List.set_cons_zero, List.set_cons_succ]
            go_wp2_with (fail)
            go_roundw
            case rel => exact ⟨k + 1, os ++ [⟨yn, ⟨a3, pl, c3⟩⟩], by omega, by go_num, by show _ = _; rw [HPN.out, List.map_append]; rfl, HF5, HO5, HA5, HB5⟩
            case measure => simp [intOf]; omega
          · have hkl : k = fl.length := by omega
            subst hkl
            rw [List.take_length] at HP
            have hol : os.length = fl.length := by have := congrArg List.length HP.out; simpa using this
            obtain ⟨A6, c6, rfl, hc6, hm6, hrow⟩ := HF.out.frow
            have hof := of_any cap A6 os c6 wr hrow (fun x hx => ?_) (by have := HFL.out; omega)
            rotate_left 1
            · obtain ⟨j, hj, rfl⟩ := List.getElem_of_mem hx
              obtain ⟨hj2, e1, e2⟩ := plain_at HP.out hj
              have h1 := HALL.out j hj2
              obtain ⟨a, c, hv, hok, -⟩ := (HO.out _ hx).2.part (HO.out _ hx).1
              refine ⟨by rw [e1]; omega, ?_⟩
              have : os[j].p = ⟨a, os[j].p.l, c⟩ := by
                generalize os[j].p = q at *
                obtain ⟨qa, ql, qc⟩ := q
                unfold Part.v at hv
                simp only [Value.slice.injEq] at hv
                rw [hv.1, hv.2.2]
              rw [this]
              exact hok
            have HSP : Hid (Spoilt wc.heap.size wr.heap.size os wr) := fun j hj => ⟨_, rfl, (HO.out _ (List.getElem_mem hj)).1, (HO.out _ (List.getElem_mem hj)).2, fun g hg => ((HO.out _ (List.getElem_mem hj)).2.block hg).2⟩
            have HFB : Hid (∀ g, (Value.slice A6 os.length c6).ownBlock = some g → g < wr.heap.size) := fun g hg => (SOwn.block HF.out hg).2
            have HOL := Lib.hid hol
            have HOF := Lib.hid hof
            have holi : (os.length : Int) ≤ 1100 := by omega
            clear hof hrow hol hc6 hm6 hlt hk
            go_wp2_with (fail)
            refine HOF.out.mono ?_
            rintro e w2 ⟨hb2, hm⟩
            rw [ofS_plain cap HP.out, ← HWANT.out.1] at hm
            obtain ⟨D, rfl, hD⟩ : ∃ D, e = .returned (.tuple #[D, .int .i64 W]) ∧ ((W = 0 → ∃ b S, D = .pointer (some ⟨b, 0, none⟩) ∧ DiskAt w2 b S ⟨⟨0, 0, false⟩, cap.toNat, (ofS cap fl).2⟩ ∧ ∀ g ∈ S, wr.heap.size ≤ g) ∧ (W ≠ 0 → D = .pointer none)) := by
              by_cases hW : W = 0
              · rw [if_pos hW] at hm
                obtain ⟨b, S, h1, h2, h3⟩ := hm
                exact ⟨_, by rw [h1, hW], fun _ => ⟨b, S, rfl, h2, h3⟩, fun h => absurd hW h⟩
              · rw [if_neg hW] at hm
                exact ⟨_, hm, fun h => absurd h hW, fun _ => rfl⟩
            have HD := Lib.hid hD
            have HK2 : Hid (Keep wr.heap.size w2 w2) := ⟨Nat.le_refl _, fun _ _ _ => rfl⟩
            have HB2 : Hid (Below wc.heap.size wc w2) := HB.out.trans (hb2.mono HB.out.size)
            have HF2 : Hid (FO w2 wc.heap.size (.slice A6 os.length c6) os) := SOwn.below HF.out hb2
            have HS2 : Hid (Spoilt wc.heap.size wr.heap.size os w2) := HSP.out.below hb2
            have HN2 : Hid (wr.heap.size ≤ w2.heap.size) := hb2.size
            have HNS : Hid (wc.heap.size ≤ wr.heap.size) := HB.out.size
            clear hb2 hm hD HF HO HB HSP HOF
            obtain ⟨N, hN⟩ : ∃ N, wr.heap.size = N := ⟨_, rfl⟩
            rw [hN] at HD HK2 HS2 HN2 HFB HNS
            clear hN
            go_wp2_with (fail)
            go_loopw [126] (fun i wy => ∃ (k : Nat), k ≤ os.length ∧ i = .int .i64 k ∧ Hid (Keep N w2 wy) ∧ Hid (Below wc.heap.size wc wy) ∧ Hid (FO wy wc.heap.size (.slice A6 os.length c6) os) ∧ Hid (Spoilt wc.heap.size N os wy)) (fun i _ => os.length - (intOf i).toNat)
            case atStart => exact ⟨0, Nat.zero_le _, rfl, HK2, HB2, HF2, HS2⟩
            case round =>
              clear HK2 HB2 HF2 HS2
              obtain ⟨k, hk, rfl, HK, HB, HF, HS⟩ := hrel
              by_cases hlt : k < os.length
              · obtain ⟨A7, c7, e7, -, -, hrow⟩ := HF.out.frow
                simp only [Value.slice.injEq, true_and] at e7
                obtain ⟨rfl, rfl⟩ := e7
                obtain ⟨rb, off, ra, hcell⟩ := hrow (by omega)
                subst ra
                obtain ⟨q0, q1⟩ := hcell k hlt
                have hspk := HALLos HP.out HALL.out k hlt
                obtain ⟨y, hy⟩ : ∃ y, y = os[k] := ⟨_, rfl⟩
                rw [← hy] at q0 q1 hspk
                obtain ⟨yn, ⟨pa, pl, pc⟩⟩ := y
                unfold Part.v at q1
                simp only at q0 q1 hspk
                have HY := Lib.hid hy
                have hrbl : rb < wr.heap.size := World.block_lt_of_cell? wr ⟨rb, _, none⟩ q0
                have hkk : (k : Int) ≤ 1100 := by omega
                have hpl5 : (pl.length : Int) ≤ 500 := by omega
                have HN1 : Hid (N ≤ wr.heap.size) := Nat.le_trans HN2.out HK.out.1
                clear hcell hrow hy hspk
                go_wp2_with (fail)
                have hst : Below wr.heap.size wr (wr.alloc (.cells #[.string yn, .slice pa pl.length pc] 43)) := (Below.refl _ _).alloc (Nat.le_refl _) _
                have HK1 := Lib.hid (HK.out.below hst)
                have HB1 : Hid (Below wc.heap.size wc (wr.alloc (.cells #[.string yn, .slice pa pl.length pc] 43))) := HB.out.trans (hst.mono HB.out.size)
                have HF1 : Hid (FO (wr.alloc (.cells #[.string yn, .slice pa pl.length pc] 43)) wc.heap.size (.slice (some ⟨rb, off, none⟩) os.length c6) os) := SOwn.below HF.out hst
                have HS1 := Lib.hid (HS.out.below hst)
                have HX1 : Hid (Blk (wr.alloc (.cells #[.string yn, .slice pa pl.length pc] 43)) wr.heap.size [.string yn, .slice pa pl.length pc]) := blk_new wr [.string yn, .slice pa pl.length pc] _
                obtain ⟨gb, hgb⟩ : ∃ g, wr.heap.size = g := ⟨_, rfl⟩
                rw [hgb] at HX1 HN1 ⊢
                clear hst hgb hrbl q0 q1 HK HB HF HS
                go_loopw [133] (fun i wy => ∃ (m : Nat), m ≤ pl.length ∧ i = .int .i64 m ∧ Hid (Keep N w2 wy) ∧ Hid (Below wc.heap.size wc wy) ∧ Hid (FO wy wc.heap.size (.slice (some ⟨rb, off, none⟩) os.length c6) os) ∧ Hid (Spoilt wc.heap.size N os wy) ∧ Hid (Blk wy gb [.string yn, .slice pa pl.length pc])) (fun i _ => pl.length - (intOf i).toNat)
                case atStart => exact ⟨0, Nat.zero_le _, rfl, HK1, HB1, HF1, HS1, HX1⟩
                case round =>
                  clear HK1 HB1 HF1 HS1 HX1
                  obtain ⟨m, hm, rfl, HK, HB, HF, HS, HXB⟩ := hrel
                  by_cases hlm : m < pl.length
                  · obtain ⟨l, hl1, hl2, hl3, hl4⟩ := HS.out k hlt
                    rw [← HY.out] at hl1 hl3 hl4
                    unfold Part.v at hl3 hl4
                    simp only at hl1 hl3 hl4
                    obtain ⟨g, cc_, hg, hcl, hfr⟩ := own_cell hl3 (m := m) (by omega)
                    have hz := hl2 _ (List.getElem_mem (show m < l.length by omega))
                    simp only [Value.slice.injEq] at hg
                    obtain ⟨rfl, -, rfl⟩ := hg
                    obtain ⟨hgM, hgw⟩ := hl3.block (g := g) rfl
                    have hgN := hl4 g rfl
                    generalize l[m] = z at *
                    obtain ⟨z2, hz2, hx⟩ := u8_xor1 z hz
                    obtain ⟨b0, b1⟩ := blk2 HXB.out
                    have hgbw := HXB.out.inside
                    have hmm : (m : Int) ≤ 500 := by omega
                    have hml : (m : Int) < (pl.length : Int) := by omega
                    have HPUT := Lib.hid (HS.out.put HA.out hlt (g := g) (c := pc) (by rw [← HY.out]; rfl) m z2 hz2)
                    have HKP := Lib.hid (HK.out.set hgN m (.int .u8 (z2 : Nat)))
                    have HBP : Hid (Below wc.heap.size wc (wr.setCell ⟨g, m, none⟩ (.int .u8 (z2 : Nat)))) := HB.out.setCell (p := ⟨g, m, none⟩) hgM _
                    have HFP : Hid (FO (wr.setCell ⟨g, m, none⟩ (.int .u8 (z2 : Nat))) wc.heap.size (.slice (some ⟨rb, off, none⟩) os.length c6) os) := SOwn.stays HF.out fun q hq => heap_setCell_other _ _ _ _ fun e => sep_types hl3 HF.out g rfl (by have e2 : q = g := e; rw [← e2]; exact hq)
                    have HXP : Hid (Blk (wr.setCell ⟨g, m, none⟩ (.int .u8 (z2 : Nat))) gb [.string yn, .slice (some ⟨g, 0, none⟩) pl.length pc]) := HXB.out.stays (heap_setCell_other _ _ _ _ (show gb ≠ g by have := HN1.out; omega))
                    have HLT := Lib.hid hlm
                    clear hl1 hl2 hl3 hl4 hz hz2 hgM hgN hm hlm HK HB HF HS HXB
                    go_wp2_with (fail)
                    go_roundw
                    case rel => exact ⟨m + 1, HLT.out, by go_num, HKP, HBP, HFP, HPUT, HXP⟩
                    case measure => have := HLT.out; simp [intOf]; omega
                  · go_wp2_with (fail)
                    go_roundw
                    case rel => exact ⟨k + 1, by omega, by go_num, HK, HB, HF, HS⟩
                    case measure => simp [intOf]; omega
              · by_cases hW : W = 0
                · subst hW
                  obtain ⟨b, S, rfl, hdisk, hSN⟩ := HD.out.1 rfl
                  obtain ⟨c1, c2, c3⟩ := HWANT.out.2 HWANT.out.1.symm
                  rw [c3] at hdisk
                  obtain ⟨xA, xc, xd⟩ := x
                  obtain rfl : xd = _ := HXD.out
                  have hat := HAT.out.later (HB.out)
                  have hinS : ∀ g ∈ S, g < w2.heap.size := hdisk.inside
                  have HDK : Hid (DiskAt wr b S ⟨⟨0, 0, false⟩, cap.toNat, gs⟩) := disk_stays hdisk fun g hg => HK.out.2 g (hSN g hg) (hinS g hg)
                  obtain ⟨C, rfl⟩ := Int.eq_ofNat_of_zero_le c1
                  rw [Int.toNat_natCast] at HDK
                  have HOKR : Hid (Rf.ok wr ⟨xA, xc, ⟨⟨0, 0, false⟩, C, gs⟩⟩) := ⟨hat.ok.row, hat.ok.room, hat.ok.few⟩
                  have HRW : Hid (0 < gs.length → ∀ a, xA = some a → a.block ∉ S ∧ a.block ≠ wr.heap.size) := fun hn a ha => by
                    obtain ⟨b2, off2, e2, hc2⟩ := HAT.out.ok.row hn
                    simp only at e2
                    rw [ha] at e2
                    injection e2 with e2
                    subst e2
                    have hlt2 : b2 < wc.heap.size := World.block_lt_of_cell? wc _ (hc2 0 hn).1
                    have h3 := HNS.out
                    have h4 := HB.out.size
                    exact ⟨fun hm => by have := hSN _ hm; simp only at this; omega, by simp only; omega⟩
                  have HAP : Hid (wr.heap.size ∉ S) := fun hm => Nat.lt_irrefl _ (HDK.out.inside _ hm)
                  have HBF : Hid (Below w.heap.size w wr) := HBW.out.trans (HB.out.mono HBW.out.size)
                  have hb := hat.blk
                  have p0 : wr.cell? ⟨w.heap.size, 0, none⟩ = some (.slice xA gs.length xc) := hb.cell 0
                  have p1 : wr.cell? ⟨w.heap.size, 1, none⟩ = some (.int .i64 (C : Nat)) := hb.cell 1
                  have p2 : wr.cell? ⟨w.heap.size, 2, none⟩ = some (.int .i64 0) := hb.cell 2
                  have p3 : wr.cell? ⟨w.heap.size, 3, none⟩ = some (.int .i64 0) := hb.cell 3
                  have p4 : wr.cell? ⟨w.heap.size, 4, none⟩ = some (.bool false) := hb.cell 4
                  have hxbl := hb.inside
                  clear hb hat hinS hdisk hSN c1 c2 c3 HAT HD HWANT HB HF HS HP HA HALL HK HN2 HFB
                  go_wp2_with (fail)
                  refine (is_any _ wr.heap.size b S ⟨xA, xc, ⟨⟨0, 0, false⟩, C, gs⟩⟩ ⟨blk_new wr [.pointer (some ⟨b, 0, none⟩), .slice xA gs.length xc, .int .i64 (C : Nat), .int .i64 0, .int .i64 0, .bool false] _, HDK.out.alloc _, HOKR.out.below ((Below.refl _ _).alloc (Nat.le_refl _) _), HAP.out, HRW.out⟩ HNM.out).mono ?_
                  rintro r w3 ⟨rfl, hb3⟩
                  have HB3 : Hid (Below w.heap.size w w3) := (HBF.out.alloc HBF.out.size _).trans (hb3.mono (HBF.out.alloc HBF.out.size _).size)
                  clear hb3 HBF HRW HAP HOKR HDK HNM p0 p1 p2 p3 p4 hxbl
                  go_wp2_with (fail)
                  refine (awake_any _).mono ?_
                  rintro r w4 ⟨rfl, hb4⟩
                  have HB4 : Hid (Below w.heap.size w w4) := HB3.out.trans (hb4.mono HB3.out.size)
                  clear hb4 HB3
                  go_wp2_with (fail)
                  go_ret
                  exact ⟨rfl, HB4.out⟩
                · have hDn := HD.out.2 hW
                  subst hDn
                  have tW : (W != (0 : Int)) = true := by simpa using hW
                  have tE : (W == W) = true := by simp
                  have HBF : Hid (Below w.heap.size w wr) := HBW.out.trans (HB.out.mono HBW.out.size)
                  clear hW HD HWANT
                  go_wp2_with (fail)
                  refine (awake_any _).mono ?_
                  rintro r w3 ⟨rfl, hb3⟩
                  have HB3 : Hid (Below w.heap.size w w3) := HBF.out.trans (hb3.mono HBF.out.size)
                  clear hb3
                  go_wp2_with (fail)
                  go_ret
                  exact ⟨rfl, HB3.out⟩
theorem of_all (cap : Int) (A : Option Addr) (fl : List FIn) (c : Nat) (w : World) (h1 : -9223372036854775808 ≤ cap) (h2 : cap ≤ 9223372036854775807) (hr : FileRow w A fl) (hx : ∀ x ∈ fl, x.p.ok w) (hl : fl.length ≤ 9223372036854775807) :
    Calls Try.prog 4 #[.int .i64 cap, .slice A fl.length c] w fun e w' => e = .returned (.bool true) ∧ Below w.heap.size w w' := by
  by_cases h : 1100 < fl.length
  · exact of_many cap A fl c w hl h
  · exact of_few cap A fl c w ⟨h1, h2⟩ hr hx (by omega)
end Go.Proofs.Ytpnhgongjfknbaa
