/-
  Layer 8: the walk of AffineKinds.
-/
import Derived.Test.YtmbfkaodoankaaaAfKindsM
import Derived.Deep.Cut
namespace Go.Proofs.Ytmbfkaodoankaaa
open Go.RowKit

theorem dmul_bel (a b : Int) (w : World) (h1 : -1073741824 ≤ a) (h2 : a ≤ 1073741824) (h3 : -1073741824 ≤ b) (h4 : b ≤ 1073741824) :
    Calls Try.prog 21 #[.int .i64 a, .int .i64 b] w fun e w' => e = .returned (.int .i64 (rnd (a * b) 65536)) ∧ Below w.heap.size w w' :=
  (dmul_any a b w h1 h2 h3 h4).mono fun _ _ h => ⟨h.1, by rw [← h.2]; exact Below.refl _ _⟩
theorem pt_neqs (x y : Int) (w : World) : (binOp .neq 25 (.agg #[.int .i64 x, .int .i64 y]) (.agg #[.int .i64 x, .int .i64 y])).run Try.prog w = .ok (.bool false) w := by
  have h := pt_neq ⟨x, y⟩ ⟨x, y⟩ w
  rw [decide_eq_true rfl] at h
  exact h
set_option maxRecDepth 100000 in
set_option maxHeartbeats 8000000 in
theorem kinds_in (p b : Pt) (q : Int) (w : World) (hp : ptR p) (hb : ptR b) : Calls Try.prog 6 #[p.v, b.v, .int .i64 q] w fun e w' => e = .returned (.bool true) ∧ Below w.heap.size w w' := by
  have hxr := rightB_yes hb.1.1 hb.1.2
  have hyr := rightB_yes hb.2.1 hb.2.2
  have hpx := rightB_yes hp.1.1 hp.1.2
  have hpy := rightB_yes hp.2.1 hp.2.2
  have HX := Lib.hid (fun w => dright_any b.x w)
  have HY := Lib.hid (fun w => dright_any b.y w)
  have HPX := Lib.hid (fun w => dright_any p.x w)
  have HPY := Lib.hid (fun w => dright_any p.y w)
  rw [hxr] at HX
  rw [hyr] at HY
  rw [hpx] at HPX
  rw [hpy] at HPY
  have hsh := shift_take hp hxr hyr
  have hsc := scale_take hp hxr hyr
  have HSH := Lib.hid (fun w => mp_shift b.x b.y w)
  have HSC := Lib.hid (fun w => mp_scale b.x b.y w)
  have HTS := Lib.hid (fun w => mp_take ⟨65536, 0, 0, 65536, b.x, b.y⟩ p w)
  have HTC := Lib.hid (fun w => mp_take ⟨b.x, 0, 0, b.y, 0, 0⟩ p w)
  rw [hsh.1, hsh.2] at HTS
  rw [hsc.1, hsc.2] at HTC
  have HS1 := Lib.hid (fun w => dright_any (p.x + b.x) w)
  have HS2 := Lib.hid (fun w => dright_any (p.y + b.y) w)
  have HU1 := Lib.hid (fun w => dright_any (rnd (b.x * p.x) 65536) w)
  have HU2 := Lib.hid (fun w => dright_any (rnd (b.y * p.y) 65536) w)
  have HM1 := Lib.hid (fun w => dmul_bel b.x p.x w hb.1.1 hb.1.2 hp.1.1 hp.1.2)
  have HM2 := Lib.hid (fun w => dmul_bel b.y p.y w hb.2.1 hb.2.2 hp.2.1 hp.2.2)
  have HTU := Lib.hid (fun w => mp_turn q w)
  have HTT := Lib.hid (fun w => mp_take (Mp.turn q) p w)
  rw [(turn_take hp q).1, (turn_take hp q).2] at HTT
  have HOT := Lib.hid (fun w => mp_take Mp.one p w)
  rw [(one_take hp).1, (one_take hp).2] at HOT
  obtain ⟨bk, hbk, hbo, hbf⟩ := turn_back hp q
  have HBK := Lib.hid (fun w => mp_back (Mp.turn q) w)
  rw [hbk] at HBK
  have HFR := Lib.hid (fun w => mp_from bk (rot (q % 4).toNat p) w hbo)
  rw [hbf] at HFR
  have HRB : Hid (∀ k, ptR (rot k p)) := rot_R hp
  have ha := i64_and3 q
  have h4 : 0 ≤ q % 4 ∧ q % 4 < 4 := by omega
  obtain ⟨Rn, hRn⟩ : ∃ n : Nat, (q % 4).toNat = n := ⟨_, rfl⟩
  rw [hRn] at HTT HFR
  have hR4 : q % 4 = (Rn : Int) := by omega
  have hRn4 : Rn < 4 := by omega
  rw [hR4] at ha
  have HRN := Lib.hid hRn4
  have HAND := Lib.hid ha
  clear hxr hyr hpx hpy hsh hsc hbk hbo hbf ha h4 hRn hR4 hRn4
  generalize Mp.turn q = TU at *
  obtain ⟨ua, ub, uc, ud, ue, uf⟩ := TU
  obtain ⟨za, zb, zc, zd, ze, zf⟩ := bk
  obtain ⟨px, py⟩ := p
  obtain ⟨bx, by_⟩ := b
  have HPR : Hid ((-1073741824 ≤ px ∧ px ≤ 1073741824) ∧ (-1073741824 ≤ py ∧ py ≤ 1073741824)) := hp
  have HBR : Hid ((-1073741824 ≤ bx ∧ bx ≤ 1073741824) ∧ (-1073741824 ≤ by_ ∧ by_ ≤ 1073741824)) := hb
  have HROT0 : Hid (rot 0 ⟨px, py⟩ = ⟨px, py⟩) := rfl
  have HROTS : Hid (∀ k, rot (k + 1) ⟨px, py⟩ = ⟨-(rot k ⟨px, py⟩).y, (rot k ⟨px, py⟩).x⟩) := fun _ => rfl
  generalize hfr : (fun k => rot k ⟨px, py⟩) = fr at *
  have hfk : ∀ k, rot k ⟨px, py⟩ = fr k := fun k => by rw [← hfr]
  simp only [hfk] at HROT0 HROTS HRB HTT HFR
  clear hfr hfk hp hb
  unfold Mp.one Mp.v Pt.v at *
  simp only at HX HY HPX HPY HSH HSC HTS HTC HS1 HS2 HU1 HU2 HM1 HM2 HTU HTT HOT HBK HFR ⊢
  obtain ⟨PA, hPA⟩ : ∃ P, (if (rightB (px + bx) && rightB (py + by_)) = true then (⟨px + bx, py + by_⟩ : Pt) else ⟨0, 0⟩) = P := ⟨_, rfl⟩
  obtain ⟨PB, hPB⟩ : ∃ P, (if (rightB (rnd (bx * px) 65536) && rightB (rnd (by_ * py) 65536)) = true then (⟨rnd (bx * px) 65536, rnd (by_ * py) 65536⟩ : Pt) else ⟨0, 0⟩) = P := ⟨_, rfl⟩
  rw [hPA] at HTS
  rw [hPB] at HTC
  generalize rnd (bx * px) 65536 = U at *
  generalize rnd (by_ * py) 65536 = V at *
  obtain ⟨X1, hX1⟩ : ∃ X, px + bx = X := ⟨_, rfl⟩
  obtain ⟨X2, hX2⟩ : ∃ X, py + by_ = X := ⟨_, rfl⟩
  rw [hX1] at HTS HS1 hPA
  rw [hX2] at HTS HS2 hPA
  have HXX := Lib.hid (And.intro hX1 hX2)
  have HXW := Lib.hid (And.intro hX1 hX2)
  have HXQ : Hid (wrap64 X1 = X1 ∧ wrap64 X2 = X2) := by
    have a1 := HPR.out
    have a2 := HBR.out
    exact ⟨IntWalk.wrap64_in _ (by omega), IntWalk.wrap64_in _ (by omega)⟩
  clear hX1 hX2
  generalize rightB X1 = S1 at *
  generalize rightB X2 = S2 at *
  generalize rightB U = T1 at *
  generalize rightB V = T2 at *
  have HPA : Hid ((S1 && S2) = true → (⟨X1, X2⟩ : Pt) = PA) := fun h => by rw [← hPA, if_pos h]
  have HPB : Hid ((T1 && T2) = true → (⟨U, V⟩ : Pt) = PB) := fun h => by rw [← hPB, if_pos h]
  clear hPA hPB
  obtain ⟨pax, pay⟩ := PA
  obtain ⟨pbx, pby⟩ := PB
  simp only at HTS HTC
  go_enter Try.func6, Try.ntmps6
  go_wp2_with (fail)
  go_quiet (fail)
  have HB0 : Hid (Below w.heap.size w (((w.alloc (.cells #[.int .i64 px, .int .i64 py] 25)).alloc (.cells #[.int .i64 bx, .int .i64 by_] 25)).drewN nq)) := Below.drewN' (((Below.refl _ _).alloc (Nat.le_refl _) _).alloc (by simp) _) _
  have bp0 : Hid (Blk (((w.alloc (.cells #[.int .i64 px, .int .i64 py] 25)).alloc (.cells #[.int .i64 bx, .int .i64 by_] 25)).drewN nq) w.heap.size [.int .i64 px, .int .i64 py]) := ((blk_new w [.int .i64 px, .int .i64 py] _).alloc _).drewN _
  generalize (((w.alloc (.cells #[.int .i64 px, .int .i64 py] 25)).alloc (.cells #[.int .i64 bx, .int .i64 by_] 25)).drewN nq) = W0 at *
  obtain ⟨⟨p0, p1⟩, -, pi⟩ := bp0.out.c2
  go_wp2_with (fail)
  refine (HPX.out _).mono ?_
  rintro e w1 ⟨rfl, rfl⟩
  go_wp2_with (fail)
  refine (HPY.out _).mono ?_
  rintro e w1 ⟨rfl, rfl⟩
  go_wp2_with (fail)
  refine (HX.out _).mono ?_
  rintro e w1 ⟨rfl, rfl⟩
  go_wp2_with (fail)
  refine (HY.out _).mono ?_
  rintro e w1 ⟨rfl, rfl⟩
  have HJ : Hid (JBs [(w.heap.size, [.int .i64 px, .int .i64 py])] W0) := ⟨bp0.out, trivial⟩
  clear HPX HPY HX HY bp0
  go_wp2_with (fail)
  clear p0 p1 pi
  refine regv.wp_region_put (Below W0.heap.size) (fun L V wx => JN W0.heap.size [(w.heap.size, [.int .i64 px, .int .i64 py])] [.int .i64 0, .int .i64 0] [.int .i64 pax, .int .i64 pay] (L 8) (L 9) (V 9) wx) [50, 51, 52, 53, 54, 49, 55, 56, 9, 10] (by kernel_rfl) (by kernel_rfl) (fun _ => Below.refl _ _) (fun _ _ _ h k => h.trans k) (fun i => (match i with
    | 0 => regs.Say.val _ (.int .i64 bx)
    | 1 => regs.Say.val _ (.int .i64 by_)
    | 2 => regs.Say.val _ (.agg #[.int .i64 65536, .int .i64 0, .int .i64 0, .int .i64 65536, .int .i64 bx, .int .i64 by_])
    | 3 => regs.Say.val _ (.agg #[.int .i64 px, .int .i64 py])
    | 4 => regs.Say.val _ (.tuple #[.agg #[.int .i64 pax, .int .i64 pay], .bool (S1 && S2)])
    | 5 => regs.Say.val _ (.tuple #[.agg #[.int .i64 pax, .int .i64 pay], .bool (S1 && S2)])
    | 6 => regs.Say.val _ (.agg #[.int .i64 pax, .int .i64 pay])
    | 7 => regs.Say.val _ (.bool (S1 && S2))
    | 8 => regs.Say.any _
    | 9 => regs.Say.any _
    | 10 => regs.Say.val _ (.bool (S1 && S2))
    | _ => regs.Say.any _ : regs.Say (Below W0.heap.size)).p) (fun _ => regs.Say.mono _) (by kernel_rfl) ((Below.refl _ _).drew) (JN.start (w := W0.drew) HJ.out) ⟨?_, ?_, ?_, ?_, ?_, ?_, ?_, ?_, ?_, ?_, ?_, trivial⟩ ?_
  · refine regv.StepOK.plain rfl fun L a w1 hh => ?_
    have h7 : a.tmps[7]?.getD undef = .int .i64 bx := by rw [← Array.getD_eq_getD_getElem?]; exact hh.old 7 rfl
    have hJ := Lib.hid hh.st
    clear hh
    go_simp
    exact ⟨_, rfl, Below.refl _ _, rfl, JN.slots hJ.out (regv.sl_ne (by decide))⟩
  · refine regv.StepOK.plain rfl fun L a w1 hh => ?_
    have h8 : a.tmps[8]?.getD undef = .int .i64 by_ := by rw [← Array.getD_eq_getD_getElem?]; exact hh.old 8 rfl
    have hJ := Lib.hid hh.st
    clear hh
    go_simp
    exact ⟨_, rfl, Below.refl _ _, rfl, JN.slots hJ.out (regv.sl_ne (by decide))⟩
  · refine regv.StepOK.plain rfl fun L a w1 hh => ?_
    have h50 : a.tmps[50]?.getD undef = .int .i64 bx := by rw [← Array.getD_eq_getD_getElem?]; exact hh.dep 0 50 (by kernel_rfl) (by kernel_rfl)
    have h51 : a.tmps[51]?.getD undef = .int .i64 by_ := by rw [← Array.getD_eq_getD_getElem?]; exact hh.dep 1 51 (by kernel_rfl) (by kernel_rfl)
    have := True.intro
    have hJ := Lib.hid hh.st
    clear hh
    go_simp
    refine (HSH.out w1).mono ?_
    rintro e w9 ⟨rfl, hb9⟩
    exact ⟨_, rfl, hb9.mono hJ.out.1.2.1, rfl, JN.slots (JN.below hJ.out hb9) (regv.sl_ne (by decide))⟩
  · refine regv.StepOK.plain rfl fun L a w1 hh => ?_
    have h3 : a.tmps[3]?.getD undef = .pointer (some ⟨w.heap.size, 0, none⟩) := by rw [← Array.getD_eq_getD_getElem?]; exact hh.old 3 rfl
    obtain ⟨⟨c0, c1⟩, -, ci⟩ := (hh.st.1.1.1).c2
    have hJ := Lib.hid hh.st
    clear hh
    go_simp
    exact ⟨_, rfl, Below.refl _ _, rfl, JN.slots hJ.out (regv.sl_ne (by decide))⟩
  · refine regv.StepOK.plain rfl fun L a w1 hh => ?_
    have h52 : a.tmps[52]?.getD undef = .agg #[.int .i64 65536, .int .i64 0, .int .i64 0, .int .i64 65536, .int .i64 bx, .int .i64 by_] := by rw [← Array.getD_eq_getD_getElem?]; exact hh.dep 2 52 (by kernel_rfl) (by kernel_rfl)
    have h53 : a.tmps[53]?.getD undef = .agg #[.int .i64 px, .int .i64 py] := by rw [← Array.getD_eq_getD_getElem?]; exact hh.dep 3 53 (by kernel_rfl) (by kernel_rfl)
    have := True.intro
    have hJ := Lib.hid hh.st
    clear hh
    go_simp
    refine (HTS.out w1).mono ?_
    rintro e w9 ⟨rfl, hb9⟩
    exact ⟨_, rfl, hb9.mono hJ.out.1.2.1, rfl, JN.slots (JN.below hJ.out hb9) (regv.sl_ne (by decide))⟩
  · refine regv.StepOK.plain rfl fun L a w1 hh => ?_
    have h54 : a.tmps[54]?.getD undef = .tuple #[.agg #[.int .i64 pax, .int .i64 pay], .bool (S1 && S2)] := by rw [← Array.getD_eq_getD_getElem?]; exact hh.dep 4 54 (by kernel_rfl) (by kernel_rfl)
    have hJ := Lib.hid hh.st
    clear hh
    go_simp
    exact ⟨_, rfl, Below.refl _ _, rfl, JN.slots hJ.out (regv.sl_ne (by decide))⟩
  · refine regv.StepOK.plain rfl fun L a w1 hh => ?_
    have h49 : a.tmps[49]?.getD undef = .tuple #[.agg #[.int .i64 pax, .int .i64 pay], .bool (S1 && S2)] := by rw [← Array.getD_eq_getD_getElem?]; exact hh.dep 5 49 (by kernel_rfl) (by kernel_rfl)
    have hJ := Lib.hid hh.st
    clear hh
    go_simp
    exact ⟨_, rfl, Below.refl _ _, rfl, JN.slots hJ.out (regv.sl_ne (by decide))⟩
  · refine regv.StepOK.plain rfl fun L a w1 hh => ?_
    have h49 : a.tmps[49]?.getD undef = .tuple #[.agg #[.int .i64 pax, .int .i64 pay], .bool (S1 && S2)] := by rw [← Array.getD_eq_getD_getElem?]; exact hh.dep 5 49 (by kernel_rfl) (by kernel_rfl)
    have hJ := Lib.hid hh.st
    clear hh
    go_simp
    exact ⟨_, rfl, Below.refl _ _, rfl, JN.slots hJ.out (regv.sl_ne (by decide))⟩
  · refine regv.StepOK.plain rfl fun L a w1 hh => ?_
    have hJ := Lib.hid hh.st
    have hsz := Lib.hid hh.size
    have hun := Lib.hid hh.un
    clear hh
    go_simp
    exact ⟨_, rfl, (Below.refl _ _).alloc hJ.out.1.2.1 _, trivial, JN.new hJ.out hun.out (regv.sl_same (by rw [hsz.out]; simp))⟩
  · refine regv.StepOK.plain rfl fun L a w1 hh => ?_
    have h55 : a.tmps[55]?.getD undef = .agg #[.int .i64 pax, .int .i64 pay] := by rw [← Array.getD_eq_getD_getElem?]; exact hh.dep 6 55 (by kernel_rfl) (by kernel_rfl)
    obtain ⟨g, h0, hg, hB⟩ := hh.st.2.1 (hh.up 8 (by kernel_rfl))
    have h9 : a.tmps[9]?.getD undef = .pointer (some ⟨g, 0, none⟩) := by rw [← Array.getD_eq_getD_getElem?]; exact h0
    rw [hh.un] at hB
    obtain ⟨⟨c0, c1⟩, ⟨f0, f1⟩, ci⟩ := (show Blk w1 g [.int .i64 0, .int .i64 0] from hB).c2
    have hP := Lib.hid (JN.put hh.st rfl (hh.up 8 (by kernel_rfl)) hh.un h0)
    clear hh h0 hB
    go_simp
    exact ⟨hP.out.2, ⟨undef, trivial⟩, hP.out.1⟩
  · refine regv.StepOK.plain rfl fun L a w1 hh => ?_
    have h56 : a.tmps[56]?.getD undef = .bool (S1 && S2) := by rw [← Array.getD_eq_getD_getElem?]; exact hh.dep 7 56 (by kernel_rfl) (by kernel_rfl)
    have hJ := Lib.hid hh.st
    clear hh
    go_simp
    exact ⟨_, rfl, Below.refl _ _, rfl, JN.slots hJ.out (regv.sl_ne (by decide))⟩
  intro L w4 val hL hJ hR hv
  have h10 : val 10 = .bool (S1 && S2) := hv 10 10 (by kernel_rfl)
  obtain ⟨g4, e4, hg4, hB4⟩ := hJ.2.1 (hL 8 (by decide))
  rw [hL 9 (by decide)] at hB4
  have HN4 := Lib.hid (And.intro hg4 (show Blk w4 g4 [.int .i64 pax, .int .i64 pay] from hB4))
  have HK4 := Lib.hid hJ.1.1
  clear hg4 hB4
  have HR4 := Lib.hid hR
  clear hv hL hJ hR
  simp only [regs.putAll, List.map_cons, List.map_nil]
  rw [h10, e4]
  generalize val 50 = v50
  generalize val 51 = v51
  generalize val 52 = v52
  generalize val 53 = v53
  generalize val 54 = v54
  generalize val 49 = v49
  generalize val 55 = v55
  generalize val 56 = v56
  simp only [Act.put, List.setIfInBounds_toArray, List.set_cons_zero, List.set_cons_succ]
  clear h10 e4
  have HB4 := Lib.hid (HB0.out.trans (HR4.out.mono HB0.out.size))
  have bp4 : Hid (Blk w4 w.heap.size [.int .i64 px, .int .i64 py]) := HK4.out.1
  have ba4 : Hid (Blk w4 g4 [.int .i64 pax, .int .i64 pay]) := HN4.out.2
  clear HR4 HK4 HN4 HB0 HJ HSH HTS
  go_upto_region 5 with (fail)
  go_cut [11] from 57 (fun u wx => u = .bool (S1 && S2) ∧ wx = w4)
  case first =>
    obtain ⟨⟨p0, p1⟩, -, pi⟩ := bp4.out.c2
    obtain ⟨h1, h2⟩ := HXX.out
    have a1 := HPR.out
    have a2 := HBR.out
    have q1 : wrap64 X1 = X1 := IntWalk.wrap64_in _ (by omega)
    have q2 : wrap64 X2 = X2 := IntWalk.wrap64_in _ (by omega)
    clear a1 a2
    go_wp2_with (fail)
    refine (HS1.out _).mono ?_
    rintro e w5 ⟨rfl, rfl⟩
    cases S1 with
    | true =>
      go_wp2_with (fail)
      refine (HS2.out _).mono ?_
      rintro e w5 ⟨rfl, rfl⟩
      go_wp2_with (fail)
      go_meet
      case rel => exact ⟨rfl, rfl⟩
    | false =>
      go_wp2_with (fail)
      go_meet
      case rel => exact ⟨rfl, rfl⟩
  case rest =>
    obtain ⟨rfl, rfl⟩ := hcut
    clear HS1 HS2 HXX
    generalize (S1 && S2) = SS at *
    go_upto_region 6 with (fail)
    go_cut [87] from 69 (fun u wx => u = .bool false ∧ wx = wc)
    case first =>
      have tS : (SS != SS) = false := by simp
      cases SS with
      | true =>
        have h := HPA.out rfl
        injection h with h1 h2
        subst h1; subst h2
        obtain ⟨⟨p0, p1⟩, -, pi⟩ := bp4.out.c2
        obtain ⟨⟨c0, c1⟩, -, ci⟩ := ba4.out.c2
        have hn := pt_neqs X1 X2
        have a1 := HXW.out.1
        have a2 := HXW.out.2
        have q1 := HXQ.out.1
        have q2 := HXQ.out.2
        go_wp2_with (fail)
        go_meet
        case rel => exact ⟨rfl, rfl⟩
      | false =>
        go_wp2_with (fail)
        go_meet
        case rel => exact ⟨rfl, rfl⟩
    case rest =>
      obtain ⟨rfl, rfl⟩ := hcut
      clear HPA ba4 HXW HXQ
      have HJ : Hid (JBs [(w.heap.size, [.int .i64 px, .int .i64 py])] wc) := ⟨bp4.out, trivial⟩
      clear bp4
      go_wp2_with (fail)
      refine regs.wp_region_put (regs.bl) (fun _ wx => JBs [(w.heap.size, [.int .i64 px, .int .i64 py])] wx) [88, 89, 90, 91, 92, 93, 94, 95, 12, 13] (by kernel_rfl) (by kernel_rfl) (fun _ => regs.bl_refl _) (regs.bl_trans) (fun i => (match i with
        | 0 => regs.Say.val _ (.int .i64 bx)
        | 1 => regs.Say.val _ (.pointer (some ⟨w.heap.size, 0, none⟩))
        | 2 => regs.Say.val _ (.int .i64 px)
        | 3 => regs.Say.val _ (.int .i64 U)
        | 4 => regs.Say.val _ (.int .i64 by_)
        | 5 => regs.Say.val _ (.pointer (some ⟨w.heap.size, 1, none⟩))
        | 6 => regs.Say.val _ (.int .i64 py)
        | 7 => regs.Say.val _ (.int .i64 V)
        | 8 => regs.Say.val _ (.int .i64 U)
        | 9 => regs.Say.val _ (.int .i64 V)
        | _ => regs.Say.any _ : regs.Say (regs.bl)).p) (fun _ => regs.Say.mono _) (by kernel_rfl) ((Below.refl _ _).drew) (HJ.out) ⟨?_, ?_, ?_, ?_, ?_, ?_, ?_, ?_, ?_, ?_, trivial⟩ ?_
      · refine regs.StepOK.plain rfl fun L a w1 hh => ?_
        have h7 : a.tmps[7]?.getD undef = .int .i64 bx := by rw [← Array.getD_eq_getD_getElem?]; exact hh.old 7 rfl
        have hJ := Lib.hid hh.st
        clear hh
        go_simp
        exact ⟨_, rfl, regs.bl_refl _, rfl, hJ.out⟩
      · refine regs.StepOK.plain rfl fun L a w1 hh => ?_
        have h3 : a.tmps[3]?.getD undef = .pointer (some ⟨w.heap.size, 0, none⟩) := by rw [← Array.getD_eq_getD_getElem?]; exact hh.old 3 rfl
        have hJ := Lib.hid hh.st
        clear hh
        go_simp
        exact ⟨_, rfl, regs.bl_refl _, rfl, hJ.out⟩
      · refine regs.StepOK.plain rfl fun L a w1 hh => ?_
        have h89 : a.tmps[89]?.getD undef = .pointer (some ⟨w.heap.size, 0, none⟩) := by rw [← Array.getD_eq_getD_getElem?]; exact hh.dep 1 89 (by kernel_rfl) (by kernel_rfl)
        obtain ⟨⟨c0, c1⟩, -, ci⟩ := (hh.st.1).c2
        have hJ := Lib.hid hh.st
        clear hh
        go_simp
        exact ⟨_, rfl, regs.bl_refl _, rfl, hJ.out⟩
      · refine regs.StepOK.plain rfl fun L a w1 hh => ?_
        have h88 : a.tmps[88]?.getD undef = .int .i64 bx := by rw [← Array.getD_eq_getD_getElem?]; exact hh.dep 0 88 (by kernel_rfl) (by kernel_rfl)
        have h90 : a.tmps[90]?.getD undef = .int .i64 px := by rw [← Array.getD_eq_getD_getElem?]; exact hh.dep 2 90 (by kernel_rfl) (by kernel_rfl)
        have := True.intro
        have hJ := Lib.hid hh.st
        clear hh
        go_simp
        refine (HM1.out w1).mono ?_
        rintro e w9 ⟨rfl, hb9⟩
        exact ⟨_, rfl, hb9, rfl, JBs.below hJ.out hb9⟩
      · refine regs.StepOK.plain rfl fun L a w1 hh => ?_
        have h8 : a.tmps[8]?.getD undef = .int .i64 by_ := by rw [← Array.getD_eq_getD_getElem?]; exact hh.old 8 rfl
        have hJ := Lib.hid hh.st
        clear hh
        go_simp
        exact ⟨_, rfl, regs.bl_refl _, rfl, hJ.out⟩
      · refine regs.StepOK.plain rfl fun L a w1 hh => ?_
        have h3 : a.tmps[3]?.getD undef = .pointer (some ⟨w.heap.size, 0, none⟩) := by rw [← Array.getD_eq_getD_getElem?]; exact hh.old 3 rfl
        have hJ := Lib.hid hh.st
        clear hh
        go_simp
        exact ⟨_, rfl, regs.bl_refl _, rfl, hJ.out⟩
      · refine regs.StepOK.plain rfl fun L a w1 hh => ?_
        have h93 : a.tmps[93]?.getD undef = .pointer (some ⟨w.heap.size, 1, none⟩) := by rw [← Array.getD_eq_getD_getElem?]; exact hh.dep 5 93 (by kernel_rfl) (by kernel_rfl)
        obtain ⟨⟨c0, c1⟩, -, ci⟩ := (hh.st.1).c2
        have hJ := Lib.hid hh.st
        clear hh
        go_simp
        exact ⟨_, rfl, regs.bl_refl _, rfl, hJ.out⟩
      · refine regs.StepOK.plain rfl fun L a w1 hh => ?_
        have h92 : a.tmps[92]?.getD undef = .int .i64 by_ := by rw [← Array.getD_eq_getD_getElem?]; exact hh.dep 4 92 (by kernel_rfl) (by kernel_rfl)
        have h94 : a.tmps[94]?.getD undef = .int .i64 py := by rw [← Array.getD_eq_getD_getElem?]; exact hh.dep 6 94 (by kernel_rfl) (by kernel_rfl)
        have := True.intro
        have hJ := Lib.hid hh.st
        clear hh
        go_simp
        refine (HM2.out w1).mono ?_
        rintro e w9 ⟨rfl, hb9⟩
        exact ⟨_, rfl, hb9, rfl, JBs.below hJ.out hb9⟩
      · refine regs.StepOK.plain rfl fun L a w1 hh => ?_
        have h91 : a.tmps[91]?.getD undef = .int .i64 U := by rw [← Array.getD_eq_getD_getElem?]; exact hh.dep 3 91 (by kernel_rfl) (by kernel_rfl)
        have hJ := Lib.hid hh.st
        clear hh
        go_simp
        exact ⟨_, rfl, regs.bl_refl _, rfl, hJ.out⟩
      · refine regs.StepOK.plain rfl fun L a w1 hh => ?_
        have h95 : a.tmps[95]?.getD undef = .int .i64 V := by rw [← Array.getD_eq_getD_getElem?]; exact hh.dep 7 95 (by kernel_rfl) (by kernel_rfl)
        have hJ := Lib.hid hh.st
        clear hh
        go_simp
        exact ⟨_, rfl, regs.bl_refl _, rfl, hJ.out⟩
      intro L w5 val hL hJ hR hv
      have h12 : val 12 = .int .i64 U := hv 8 12 (by kernel_rfl)
      have h13 : val 13 = .int .i64 V := hv 9 13 (by kernel_rfl)
      have HK5 := Lib.hid hJ
      have HR5 := Lib.hid hR
      clear hv hL hJ hR
      simp only [regs.putAll, List.map_cons, List.map_nil]
      rw [h12, h13]
      generalize val 88 = v88
      generalize val 89 = v89
      generalize val 90 = v90
      generalize val 91 = v91
      generalize val 92 = v92
      generalize val 93 = v93
      generalize val 94 = v94
      generalize val 95 = v95
      simp only [Act.put, List.setIfInBounds_toArray, List.set_cons_zero, List.set_cons_succ]
      clear h12 h13
      have HB5 := Lib.hid (HB4.out.trans (HR5.out.mono HB4.out.size))
      clear HJ HR5 HB4 HM1 HM2
      go_wp2_with (fail)
      refine regv.wp_region_put (Below w5.heap.size) (fun L V wx => JN w5.heap.size [(w.heap.size, [.int .i64 px, .int .i64 py])] [.int .i64 0, .int .i64 0] [.int .i64 pbx, .int .i64 pby] (L 8) (L 9) (V 14) wx) [97, 98, 99, 100, 101, 96, 102, 103, 14, 15] (by kernel_rfl) (by kernel_rfl) (fun _ => Below.refl _ _) (fun _ _ _ h k => h.trans k) (fun i => (match i with
        | 0 => regs.Say.val _ (.int .i64 bx)
        | 1 => regs.Say.val _ (.int .i64 by_)
        | 2 => regs.Say.val _ (.agg #[.int .i64 bx, .int .i64 0, .int .i64 0, .int .i64 by_, .int .i64 0, .int .i64 0])
        | 3 => regs.Say.val _ (.agg #[.int .i64 px, .int .i64 py])
        | 4 => regs.Say.val _ (.tuple #[.agg #[.int .i64 pbx, .int .i64 pby], .bool (T1 && T2)])
        | 5 => regs.Say.val _ (.tuple #[.agg #[.int .i64 pbx, .int .i64 pby], .bool (T1 && T2)])
        | 6 => regs.Say.val _ (.agg #[.int .i64 pbx, .int .i64 pby])
        | 7 => regs.Say.val _ (.bool (T1 && T2))
        | 8 => regs.Say.any _
        | 9 => regs.Say.any _
        | 10 => regs.Say.val _ (.bool (T1 && T2))
        | _ => regs.Say.any _ : regs.Say (Below w5.heap.size)).p) (fun _ => regs.Say.mono _) (by kernel_rfl) ((Below.refl _ _).drew) (JN.start (w := w5.drew) HK5.out) ⟨?_, ?_, ?_, ?_, ?_, ?_, ?_, ?_, ?_, ?_, ?_, trivial⟩ ?_
      · refine regv.StepOK.plain rfl fun L a w1 hh => ?_
        have h7 : a.tmps[7]?.getD undef = .int .i64 bx := by rw [← Array.getD_eq_getD_getElem?]; exact hh.old 7 rfl
        have hJ := Lib.hid hh.st
        clear hh
        go_simp
        exact ⟨_, rfl, Below.refl _ _, rfl, JN.slots hJ.out (regv.sl_ne (by decide))⟩
      · refine regv.StepOK.plain rfl fun L a w1 hh => ?_
        have h8 : a.tmps[8]?.getD undef = .int .i64 by_ := by rw [← Array.getD_eq_getD_getElem?]; exact hh.old 8 rfl
        have hJ := Lib.hid hh.st
        clear hh
        go_simp
        exact ⟨_, rfl, Below.refl _ _, rfl, JN.slots hJ.out (regv.sl_ne (by decide))⟩
      · refine regv.StepOK.plain rfl fun L a w1 hh => ?_
        have h97 : a.tmps[97]?.getD undef = .int .i64 bx := by rw [← Array.getD_eq_getD_getElem?]; exact hh.dep 0 97 (by kernel_rfl) (by kernel_rfl)
        have h98 : a.tmps[98]?.getD undef = .int .i64 by_ := by rw [← Array.getD_eq_getD_getElem?]; exact hh.dep 1 98 (by kernel_rfl) (by kernel_rfl)
        have := True.intro
        have hJ := Lib.hid hh.st
        clear hh
        go_simp
        refine (HSC.out w1).mono ?_
        rintro e w9 ⟨rfl, hb9⟩
        exact ⟨_, rfl, hb9.mono hJ.out.1.2.1, rfl, JN.slots (JN.below hJ.out hb9) (regv.sl_ne (by decide))⟩
      · refine regv.StepOK.plain rfl fun L a w1 hh => ?_
        have h3 : a.tmps[3]?.getD undef = .pointer (some ⟨w.heap.size, 0, none⟩) := by rw [← Array.getD_eq_getD_getElem?]; exact hh.old 3 rfl
        obtain ⟨⟨c0, c1⟩, -, ci⟩ := (hh.st.1.1.1).c2
        have hJ := Lib.hid hh.st
        clear hh
        go_simp
        exact ⟨_, rfl, Below.refl _ _, rfl, JN.slots hJ.out (regv.sl_ne (by decide))⟩
      · refine regv.StepOK.plain rfl fun L a w1 hh => ?_
        have h99 : a.tmps[99]?.getD undef = .agg #[.int .i64 bx, .int .i64 0, .int .i64 0, .int .i64 by_, .int .i64 0, .int .i64 0] := by rw [← Array.getD_eq_getD_getElem?]; exact hh.dep 2 99 (by kernel_rfl) (by kernel_rfl)
        have h100 : a.tmps[100]?.getD undef = .agg #[.int .i64 px, .int .i64 py] := by rw [← Array.getD_eq_getD_getElem?]; exact hh.dep 3 100 (by kernel_rfl) (by kernel_rfl)
        have := True.intro
        have hJ := Lib.hid hh.st
        clear hh
        go_simp
        refine (HTC.out w1).mono ?_
        rintro e w9 ⟨rfl, hb9⟩
        exact ⟨_, rfl, hb9.mono hJ.out.1.2.1, rfl, JN.slots (JN.below hJ.out hb9) (regv.sl_ne (by decide))⟩
      · refine regv.StepOK.plain rfl fun L a w1 hh => ?_
        have h101 : a.tmps[101]?.getD undef = .tuple #[.agg #[.int .i64 pbx, .int .i64 pby], .bool (T1 && T2)] := by rw [← Array.getD_eq_getD_getElem?]; exact hh.dep 4 101 (by kernel_rfl) (by kernel_rfl)
        have hJ := Lib.hid hh.st
        clear hh
        go_simp
        exact ⟨_, rfl, Below.refl _ _, rfl, JN.slots hJ.out (regv.sl_ne (by decide))⟩
      · refine regv.StepOK.plain rfl fun L a w1 hh => ?_
        have h96 : a.tmps[96]?.getD undef = .tuple #[.agg #[.int .i64 pbx, .int .i64 pby], .bool (T1 && T2)] := by rw [← Array.getD_eq_getD_getElem?]; exact hh.dep 5 96 (by kernel_rfl) (by kernel_rfl)
        have hJ := Lib.hid hh.st
        clear hh
        go_simp
        exact ⟨_, rfl, Below.refl _ _, rfl, JN.slots hJ.out (regv.sl_ne (by decide))⟩
      · refine regv.StepOK.plain rfl fun L a w1 hh => ?_
        have h96 : a.tmps[96]?.getD undef = .tuple #[.agg #[.int .i64 pbx, .int .i64 pby], .bool (T1 && T2)] := by rw [← Array.getD_eq_getD_getElem?]; exact hh.dep 5 96 (by kernel_rfl) (by kernel_rfl)
        have hJ := Lib.hid hh.st
        clear hh
        go_simp
        exact ⟨_, rfl, Below.refl _ _, rfl, JN.slots hJ.out (regv.sl_ne (by decide))⟩
      · refine regv.StepOK.plain rfl fun L a w1 hh => ?_
        have hJ := Lib.hid hh.st
        have hsz := Lib.hid hh.size
        have hun := Lib.hid hh.un
        clear hh
        go_simp
        exact ⟨_, rfl, (Below.refl _ _).alloc hJ.out.1.2.1 _, trivial, JN.new hJ.out hun.out (regv.sl_same (by rw [hsz.out]; simp))⟩
      · refine regv.StepOK.plain rfl fun L a w1 hh => ?_
        have h102 : a.tmps[102]?.getD undef = .agg #[.int .i64 pbx, .int .i64 pby] := by rw [← Array.getD_eq_getD_getElem?]; exact hh.dep 6 102 (by kernel_rfl) (by kernel_rfl)
        obtain ⟨g, h0, hg, hB⟩ := hh.st.2.1 (hh.up 8 (by kernel_rfl))
        have h14 : a.tmps[14]?.getD undef = .pointer (some ⟨g, 0, none⟩) := by rw [← Array.getD_eq_getD_getElem?]; exact h0
        rw [hh.un] at hB
        obtain ⟨⟨c0, c1⟩, ⟨f0, f1⟩, ci⟩ := (show Blk w1 g [.int .i64 0, .int .i64 0] from hB).c2
        have hP := Lib.hid (JN.put hh.st rfl (hh.up 8 (by kernel_rfl)) hh.un h0)
        clear hh h0 hB
        go_simp
        exact ⟨hP.out.2, ⟨undef, trivial⟩, hP.out.1⟩
      · refine regv.StepOK.plain rfl fun L a w1 hh => ?_
        have h103 : a.tmps[103]?.getD undef = .bool (T1 && T2) := by rw [← Array.getD_eq_getD_getElem?]; exact hh.dep 7 103 (by kernel_rfl) (by kernel_rfl)
        have hJ := Lib.hid hh.st
        clear hh
        go_simp
        exact ⟨_, rfl, Below.refl _ _, rfl, JN.slots hJ.out (regv.sl_ne (by decide))⟩
      intro L w6 val hL hJ hR hv
      have h15 : val 15 = .bool (T1 && T2) := hv 10 15 (by kernel_rfl)
      obtain ⟨g6, e6, hg6, hB6⟩ := hJ.2.1 (hL 8 (by decide))
      rw [hL 9 (by decide)] at hB6
      have HN6 := Lib.hid (And.intro hg6 (show Blk w6 g6 [.int .i64 pbx, .int .i64 pby] from hB6))
      have HK6 := Lib.hid hJ.1.1
      clear hg6 hB6
      have HR6 := Lib.hid hR
      clear hv hL hJ hR
      simp only [regs.putAll, List.map_cons, List.map_nil]
      rw [h15, e6]
      generalize val 97 = v97
      generalize val 98 = v98
      generalize val 99 = v99
      generalize val 100 = v100
      generalize val 101 = v101
      generalize val 96 = v96
      generalize val 102 = v102
      generalize val 103 = v103
      simp only [Act.put, List.setIfInBounds_toArray, List.set_cons_zero, List.set_cons_succ]
      clear h15 e6
      have HB6 := Lib.hid (HB5.out.trans (HR6.out.mono HB5.out.size))
      have bp6 : Hid (Blk w6 w.heap.size [.int .i64 px, .int .i64 py]) := HK6.out.1
      have ba6 : Hid (Blk w6 g6 [.int .i64 pbx, .int .i64 pby]) := HN6.out.2
      clear HR6 HK6 HN6 HB5 HK5 HSC HTC
      go_upto_region 10 with (fail)
      go_cut [16] from 104 (fun u wx => u = .bool (T1 && T2) ∧ wx = w6)
      case first =>
        go_wp2_with (fail)
        refine (HU1.out _).mono ?_
        rintro e w7 ⟨rfl, rfl⟩
        cases T1 with
        | true =>
          go_wp2_with (fail)
          refine (HU2.out _).mono ?_
          rintro e w7 ⟨rfl, rfl⟩
          go_wp2_with (fail)
          go_meet
          case rel => exact ⟨rfl, rfl⟩
        | false =>
          go_wp2_with (fail)
          go_meet
          case rel => exact ⟨rfl, rfl⟩
      case rest =>
        obtain ⟨rfl, rfl⟩ := hcut
        clear HU1 HU2
        generalize (T1 && T2) = TT at *
        go_upto_region 11 with (fail)
        go_cut [122] from 110 (fun u wx => u = .bool false ∧ wx = wc)
        case first =>
          have tT : (TT != TT) = false := by simp
          cases TT with
          | true =>
            have h := HPB.out rfl
            injection h with h1 h2
            subst h1; subst h2
            obtain ⟨⟨c0, c1⟩, -, ci⟩ := ba6.out.c2
            have hn := pt_neqs U V
            go_wp2_with (fail)
            go_meet
            case rel => exact ⟨rfl, rfl⟩
          | false =>
            go_wp2_with (fail)
            go_meet
            case rel => exact ⟨rfl, rfl⟩
        case rest =>
          obtain ⟨rfl, rfl⟩ := hcut
          clear HPB ba6
          have hin := bp6.out.inside
          obtain ⟨⟨p0, p1⟩, -, pi⟩ := bp6.out.c2
          have hand := HAND.out
          go_wp2_with (fail)
          have hgw : Hid (wc.heap.size = wc.heap.size) := rfl
          go_loopw [126] (fun i wr => ∃ k : Nat, k ≤ Rn ∧ i = .int .i64 k ∧ Hid (Below w.heap.size w wr) ∧ Hid (Blk wr w.heap.size [.int .i64 px, .int .i64 py]) ∧ Hid (Blk wr wc.heap.size [.int .i64 (fr k).x, .int .i64 (fr k).y])) (fun i _ => Rn - (intOf i).toNat)
          case atStart =>
            refine ⟨0, Nat.zero_le _, rfl, HB6.out.alloc HB6.out.size _, bp6.out.alloc _, ?_⟩
            rw [HROT0.out]
            exact blk_new wc [.int .i64 px, .int .i64 py] _
          case round =>
            clear p0 p1 pi hand hgw
            have HGW : Hid (w.heap.size < wc.heap.size) := hin
            have hsz := HB6.out.size
            clear bp6 HB6
            generalize wc.heap.size = gw at *
            obtain ⟨k, hk, rfl, HB, HP, HF⟩ := hrel
            have HS := Lib.hid (HROTS.out k)
            have hbd := HRB.out k
            obtain ⟨z, hz⟩ : ∃ z, fr k = z := ⟨_, rfl⟩
            rw [hz] at HS hbd
            by_cases hlt : k < Rn
            · rw [hz] at HF
              clear hz
              obtain ⟨zx, zy⟩ := z
              obtain ⟨⟨b1, b2⟩, b3, b4⟩ := hbd
              simp only at HS HF b1 b2 b3 b4
              obtain ⟨NY, hNY⟩ : ∃ x, -zy = x := ⟨_, rfl⟩
              rw [hNY] at HS
              have n1 : -1073741824 ≤ NY ∧ NY ≤ 1073741824 := by omega
              obtain ⟨n1, n2⟩ := n1
              have hkb : (k : Int) ≤ 100 := by have := HRN.out; omega
              have tl : decide (k < Rn) = true := by simpa using hlt
              obtain ⟨⟨c0, c1⟩, ⟨f0, f1⟩, ci⟩ := HF.out.c2
              go_wp2_with (fail)
              go_roundw
              case rel => exact ⟨k + 1, by omega, by go_num, below2 HB.out (by have := HGW.out; omega) _ _, HP.out.off2 (by have := HGW.out; omega) _ _, by rw [HS.out]; exact HF.out.put2 _ _⟩
              case measure => simp [intOf]; omega
            · have tl : decide (k < Rn) = false := by simpa using hlt
              obtain rfl : k = Rn := by omega
              clear hk hlt HS hbd
              rw [hz] at HF HTT HFR
              clear hz
              obtain ⟨rx, ry⟩ := z
              simp only at HF HTT HFR
              have HJ : Hid (JBs [(w.heap.size, [.int .i64 px, .int .i64 py]), (gw, [.int .i64 rx, .int .i64 ry])] wr) := ⟨HP.out, HF.out, trivial⟩
              clear HP HF HROTS HROT0 HRB
              go_wp2_with (fail)
              refine regv.wp_region_put (Below wr.heap.size) (fun L V wx => JN wr.heap.size [(w.heap.size, [.int .i64 px, .int .i64 py]), (gw, [.int .i64 rx, .int .i64 ry])] [.int .i64 0, .int .i64 0] [.int .i64 rx, .int .i64 ry] (L 7) (L 8) (V 18) wx) [136, 137, 138, 139, 135, 140, 141, 18, 19] (by kernel_rfl) (by kernel_rfl) (fun _ => Below.refl _ _) (fun _ _ _ h k => h.trans k) (fun i => (match i with
                | 0 => regs.Say.val _ (.int .i64 q)
                | 1 => regs.Say.val _ (.agg #[.int .i64 ua, .int .i64 ub, .int .i64 uc, .int .i64 ud, .int .i64 ue, .int .i64 uf])
                | 2 => regs.Say.val _ (.agg #[.int .i64 px, .int .i64 py])
                | 3 => regs.Say.val _ (.tuple #[.agg #[.int .i64 rx, .int .i64 ry], .bool true])
                | 4 => regs.Say.val _ (.tuple #[.agg #[.int .i64 rx, .int .i64 ry], .bool true])
                | 5 => regs.Say.val _ (.agg #[.int .i64 rx, .int .i64 ry])
                | 6 => regs.Say.val _ (.bool true)
                | 7 => regs.Say.any _
                | 8 => regs.Say.any _
                | 9 => regs.Say.val _ (.bool true)
                | _ => regs.Say.any _ : regs.Say (Below wr.heap.size)).p) (fun _ => regs.Say.mono _) (by kernel_rfl) ((Below.refl _ _).drew) (JN.start (w := wr.drew) HJ.out) ⟨?_, ?_, ?_, ?_, ?_, ?_, ?_, ?_, ?_, ?_, trivial⟩ ?_
              · refine regv.StepOK.plain rfl fun L a w1 hh => ?_
                have h2 : a.tmps[2]?.getD undef = .int .i64 q := by rw [← Array.getD_eq_getD_getElem?]; exact hh.old 2 rfl
                have hJ := Lib.hid hh.st
                clear hh
                go_simp
                exact ⟨_, rfl, Below.refl _ _, rfl, JN.slots hJ.out (regv.sl_ne (by decide))⟩
              · refine regv.StepOK.plain rfl fun L a w1 hh => ?_
                have h136 : a.tmps[136]?.getD undef = .int .i64 q := by rw [← Array.getD_eq_getD_getElem?]; exact hh.dep 0 136 (by kernel_rfl) (by kernel_rfl)
                have := True.intro
                have hJ := Lib.hid hh.st
                clear hh
                go_simp
                refine (HTU.out w1).mono ?_
                rintro e w9 ⟨rfl, hb9⟩
                exact ⟨_, rfl, hb9.mono hJ.out.1.2.1, rfl, JN.slots (JN.below hJ.out hb9) (regv.sl_ne (by decide))⟩
              · refine regv.StepOK.plain rfl fun L a w1 hh => ?_
                have h3 : a.tmps[3]?.getD undef = .pointer (some ⟨w.heap.size, 0, none⟩) := by rw [← Array.getD_eq_getD_getElem?]; exact hh.old 3 rfl
                obtain ⟨⟨c0, c1⟩, -, ci⟩ := (hh.st.1.1.1).c2
                have hJ := Lib.hid hh.st
                clear hh
                go_simp
                exact ⟨_, rfl, Below.refl _ _, rfl, JN.slots hJ.out (regv.sl_ne (by decide))⟩
              · refine regv.StepOK.plain rfl fun L a w1 hh => ?_
                have h137 : a.tmps[137]?.getD undef = .agg #[.int .i64 ua, .int .i64 ub, .int .i64 uc, .int .i64 ud, .int .i64 ue, .int .i64 uf] := by rw [← Array.getD_eq_getD_getElem?]; exact hh.dep 1 137 (by kernel_rfl) (by kernel_rfl)
                have h138 : a.tmps[138]?.getD undef = .agg #[.int .i64 px, .int .i64 py] := by rw [← Array.getD_eq_getD_getElem?]; exact hh.dep 2 138 (by kernel_rfl) (by kernel_rfl)
                have := True.intro
                have hJ := Lib.hid hh.st
                clear hh
                go_simp
                refine (HTT.out w1).mono ?_
                rintro e w9 ⟨rfl, hb9⟩
                exact ⟨_, rfl, hb9.mono hJ.out.1.2.1, rfl, JN.slots (JN.below hJ.out hb9) (regv.sl_ne (by decide))⟩
              · refine regv.StepOK.plain rfl fun L a w1 hh => ?_
                have h139 : a.tmps[139]?.getD undef = .tuple #[.agg #[.int .i64 rx, .int .i64 ry], .bool true] := by rw [← Array.getD_eq_getD_getElem?]; exact hh.dep 3 139 (by kernel_rfl) (by kernel_rfl)
                have hJ := Lib.hid hh.st
                clear hh
                go_simp
                exact ⟨_, rfl, Below.refl _ _, rfl, JN.slots hJ.out (regv.sl_ne (by decide))⟩
              · refine regv.StepOK.plain rfl fun L a w1 hh => ?_
                have h135 : a.tmps[135]?.getD undef = .tuple #[.agg #[.int .i64 rx, .int .i64 ry], .bool true] := by rw [← Array.getD_eq_getD_getElem?]; exact hh.dep 4 135 (by kernel_rfl) (by kernel_rfl)
                have hJ := Lib.hid hh.st
                clear hh
                go_simp
                exact ⟨_, rfl, Below.refl _ _, rfl, JN.slots hJ.out (regv.sl_ne (by decide))⟩
              · refine regv.StepOK.plain rfl fun L a w1 hh => ?_
                have h135 : a.tmps[135]?.getD undef = .tuple #[.agg #[.int .i64 rx, .int .i64 ry], .bool true] := by rw [← Array.getD_eq_getD_getElem?]; exact hh.dep 4 135 (by kernel_rfl) (by kernel_rfl)
                have hJ := Lib.hid hh.st
                clear hh
                go_simp
                exact ⟨_, rfl, Below.refl _ _, rfl, JN.slots hJ.out (regv.sl_ne (by decide))⟩
              · refine regv.StepOK.plain rfl fun L a w1 hh => ?_
                have hJ := Lib.hid hh.st
                have hsz := Lib.hid hh.size
                have hun := Lib.hid hh.un
                clear hh
                go_simp
                exact ⟨_, rfl, (Below.refl _ _).alloc hJ.out.1.2.1 _, trivial, JN.new hJ.out hun.out (regv.sl_same (by rw [hsz.out]; simp))⟩
              · refine regv.StepOK.plain rfl fun L a w1 hh => ?_
                have h140 : a.tmps[140]?.getD undef = .agg #[.int .i64 rx, .int .i64 ry] := by rw [← Array.getD_eq_getD_getElem?]; exact hh.dep 5 140 (by kernel_rfl) (by kernel_rfl)
                obtain ⟨g, h0, hg, hB⟩ := hh.st.2.1 (hh.up 7 (by kernel_rfl))
                have h18 : a.tmps[18]?.getD undef = .pointer (some ⟨g, 0, none⟩) := by rw [← Array.getD_eq_getD_getElem?]; exact h0
                rw [hh.un] at hB
                obtain ⟨⟨c0, c1⟩, ⟨f0, f1⟩, ci⟩ := (show Blk w1 g [.int .i64 0, .int .i64 0] from hB).c2
                have hP := Lib.hid (JN.put hh.st rfl (hh.up 7 (by kernel_rfl)) hh.un h0)
                clear hh h0 hB
                go_simp
                exact ⟨hP.out.2, ⟨undef, trivial⟩, hP.out.1⟩
              · refine regv.StepOK.plain rfl fun L a w1 hh => ?_
                have h141 : a.tmps[141]?.getD undef = .bool true := by rw [← Array.getD_eq_getD_getElem?]; exact hh.dep 6 141 (by kernel_rfl) (by kernel_rfl)
                have hJ := Lib.hid hh.st
                clear hh
                go_simp
                exact ⟨_, rfl, Below.refl _ _, rfl, JN.slots hJ.out (regv.sl_ne (by decide))⟩
              intro L w7 val hL hJ hR hv
              have h19 : val 19 = .bool true := hv 9 19 (by kernel_rfl)
              obtain ⟨g7, e7, hg7, hB7⟩ := hJ.2.1 (hL 7 (by decide))
              rw [hL 8 (by decide)] at hB7
              have HN7 := Lib.hid (And.intro hg7 (show Blk w7 g7 [.int .i64 rx, .int .i64 ry] from hB7))
              have HK7 := Lib.hid hJ.1.1
              clear hg7 hB7
              have HR7 := Lib.hid hR
              clear hv hL hJ hR
              simp only [regs.putAll, List.map_cons, List.map_nil]
              rw [h19, e7]
              generalize val 136 = v136
              generalize val 137 = v137
              generalize val 138 = v138
              generalize val 139 = v139
              generalize val 135 = v135
              generalize val 140 = v140
              generalize val 141 = v141
              simp only [Act.put, List.setIfInBounds_toArray, List.set_cons_zero, List.set_cons_succ]
              clear h19 e7
              have HB7 := Lib.hid (HB.out.trans (HR7.out.mono HB.out.size))
              have HJ7 : Hid (JBs [(w.heap.size, [.int .i64 px, .int .i64 py]), (gw, [.int .i64 rx, .int .i64 ry]), (g7, [.int .i64 rx, .int .i64 ry])] w7) := ⟨HK7.out.1, HK7.out.2.1, HN7.out.2, trivial⟩
              clear HJ HB HR7 HK7 HN7 HTT
              go_wp2_with (fail)
              refine (HTU.out _).mono ?_
              rintro e w8 ⟨rfl, hb⟩
              have HB8 := Lib.hid (HB7.out.trans (hb.mono HB7.out.size))
              have HJ8 := Lib.hid (JBs.below HJ7.out hb)
              clear hb HB7 HJ7 HTU
              go_wp2_with (fail)
              refine (HBK.out _).mono ?_
              rintro e w9 ⟨rfl, hb⟩
              have HB9 := Lib.hid (HB8.out.trans (hb.mono HB8.out.size))
              have HJ9 := Lib.hid (JBs.below HJ8.out hb)
              clear hb HB8 HJ8 HBK
              go_wp2_with (fail)
              have HBA : Hid (Below w.heap.size w (w9.alloc (.cells #[.int .i64 za, .int .i64 zb, .int .i64 zc, .int .i64 zd, .int .i64 ze, .int .i64 zf] 45))) := HB9.out.alloc HB9.out.size _
              have HJA : Hid (JBs [(w.heap.size, [.int .i64 px, .int .i64 py]), (gw, [.int .i64 rx, .int .i64 ry]), (g7, [.int .i64 rx, .int .i64 ry]), (w9.heap.size, [.int .i64 za, .int .i64 zb, .int .i64 zc, .int .i64 zd, .int .i64 ze, .int .i64 zf])] (w9.alloc (.cells #[.int .i64 za, .int .i64 zb, .int .i64 zc, .int .i64 zd, .int .i64 ze, .int .i64 zf] 45))) :=
                ⟨HJ9.out.1.alloc _, HJ9.out.2.1.alloc _, HJ9.out.2.2.1.alloc _, blk_new w9 [.int .i64 za, .int .i64 zb, .int .i64 zc, .int .i64 zd, .int .i64 ze, .int .i64 zf] _, trivial⟩
              clear HB9 HJ9
              generalize w9.alloc (.cells #[.int .i64 za, .int .i64 zb, .int .i64 zc, .int .i64 zd, .int .i64 ze, .int .i64 zf] 45) = WA at *
              generalize w9.heap.size = g9 at *
              refine regv.wp_region_put (Below WA.heap.size) (fun L V wx => JN WA.heap.size [(w.heap.size, [.int .i64 px, .int .i64 py]), (gw, [.int .i64 rx, .int .i64 ry]), (g7, [.int .i64 rx, .int .i64 ry]), (g9, [.int .i64 za, .int .i64 zb, .int .i64 zc, .int .i64 zd, .int .i64 ze, .int .i64 zf])] [.int .i64 0, .int .i64 0] [.int .i64 px, .int .i64 py] (L 6) (L 7) (V 22) wx) [149, 150, 151, 148, 152, 153, 22, 23] (by kernel_rfl) (by kernel_rfl) (fun _ => Below.refl _ _) (fun _ _ _ h k => h.trans k) (fun i => (match i with
                | 0 => regs.Say.val _ (.agg #[.int .i64 65536, .int .i64 0, .int .i64 0, .int .i64 65536, .int .i64 0, .int .i64 0])
                | 1 => regs.Say.val _ (.agg #[.int .i64 px, .int .i64 py])
                | 2 => regs.Say.val _ (.tuple #[.agg #[.int .i64 px, .int .i64 py], .bool true])
                | 3 => regs.Say.val _ (.tuple #[.agg #[.int .i64 px, .int .i64 py], .bool true])
                | 4 => regs.Say.val _ (.agg #[.int .i64 px, .int .i64 py])
                | 5 => regs.Say.val _ (.bool true)
                | 6 => regs.Say.any _
                | 7 => regs.Say.any _
                | 8 => regs.Say.val _ (.bool true)
                | _ => regs.Say.any _ : regs.Say (Below WA.heap.size)).p) (fun _ => regs.Say.mono _) (by kernel_rfl) ((Below.refl _ _).drew) (JN.start (w := WA.drew) HJA.out) ⟨?_, ?_, ?_, ?_, ?_, ?_, ?_, ?_, ?_, trivial⟩ ?_
              · refine regv.StepOK.plain rfl fun L a w1 hh => ?_
                have := True.intro
                have hJ := Lib.hid hh.st
                clear hh
                go_simp
                refine (mp_one w1).mono ?_
                rintro e w9 ⟨rfl, hb9⟩
                exact ⟨_, rfl, hb9.mono hJ.out.1.2.1, rfl, JN.slots (JN.below hJ.out hb9) (regv.sl_ne (by decide))⟩
              · refine regv.StepOK.plain rfl fun L a w1 hh => ?_
                have h3 : a.tmps[3]?.getD undef = .pointer (some ⟨w.heap.size, 0, none⟩) := by rw [← Array.getD_eq_getD_getElem?]; exact hh.old 3 rfl
                obtain ⟨⟨c0, c1⟩, -, ci⟩ := (hh.st.1.1.1).c2
                have hJ := Lib.hid hh.st
                clear hh
                go_simp
                exact ⟨_, rfl, Below.refl _ _, rfl, JN.slots hJ.out (regv.sl_ne (by decide))⟩
              · refine regv.StepOK.plain rfl fun L a w1 hh => ?_
                have h149 : a.tmps[149]?.getD undef = .agg #[.int .i64 65536, .int .i64 0, .int .i64 0, .int .i64 65536, .int .i64 0, .int .i64 0] := by rw [← Array.getD_eq_getD_getElem?]; exact hh.dep 0 149 (by kernel_rfl) (by kernel_rfl)
                have h150 : a.tmps[150]?.getD undef = .agg #[.int .i64 px, .int .i64 py] := by rw [← Array.getD_eq_getD_getElem?]; exact hh.dep 1 150 (by kernel_rfl) (by kernel_rfl)
                have := True.intro
                have hJ := Lib.hid hh.st
                clear hh
                go_simp
                refine (HOT.out w1).mono ?_
                rintro e w9 ⟨rfl, hb9⟩
                exact ⟨_, rfl, hb9.mono hJ.out.1.2.1, rfl, JN.slots (JN.below hJ.out hb9) (regv.sl_ne (by decide))⟩
              · refine regv.StepOK.plain rfl fun L a w1 hh => ?_
                have h151 : a.tmps[151]?.getD undef = .tuple #[.agg #[.int .i64 px, .int .i64 py], .bool true] := by rw [← Array.getD_eq_getD_getElem?]; exact hh.dep 2 151 (by kernel_rfl) (by kernel_rfl)
                have hJ := Lib.hid hh.st
                clear hh
                go_simp
                exact ⟨_, rfl, Below.refl _ _, rfl, JN.slots hJ.out (regv.sl_ne (by decide))⟩
              · refine regv.StepOK.plain rfl fun L a w1 hh => ?_
                have h148 : a.tmps[148]?.getD undef = .tuple #[.agg #[.int .i64 px, .int .i64 py], .bool true] := by rw [← Array.getD_eq_getD_getElem?]; exact hh.dep 3 148 (by kernel_rfl) (by kernel_rfl)
                have hJ := Lib.hid hh.st
                clear hh
                go_simp
                exact ⟨_, rfl, Below.refl _ _, rfl, JN.slots hJ.out (regv.sl_ne (by decide))⟩
              · refine regv.StepOK.plain rfl fun L a w1 hh => ?_
                have h148 : a.tmps[148]?.getD undef = .tuple #[.agg #[.int .i64 px, .int .i64 py], .bool true] := by rw [← Array.getD_eq_getD_getElem?]; exact hh.dep 3 148 (by kernel_rfl) (by kernel_rfl)
                have hJ := Lib.hid hh.st
                clear hh
                go_simp
                exact ⟨_, rfl, Below.refl _ _, rfl, JN.slots hJ.out (regv.sl_ne (by decide))⟩
              · refine regv.StepOK.plain rfl fun L a w1 hh => ?_
                have hJ := Lib.hid hh.st
                have hsz := Lib.hid hh.size
                have hun := Lib.hid hh.un
                clear hh
                go_simp
                exact ⟨_, rfl, (Below.refl _ _).alloc hJ.out.1.2.1 _, trivial, JN.new hJ.out hun.out (regv.sl_same (by rw [hsz.out]; simp))⟩
              · refine regv.StepOK.plain rfl fun L a w1 hh => ?_
                have h152 : a.tmps[152]?.getD undef = .agg #[.int .i64 px, .int .i64 py] := by rw [← Array.getD_eq_getD_getElem?]; exact hh.dep 4 152 (by kernel_rfl) (by kernel_rfl)
                obtain ⟨g, h0, hg, hB⟩ := hh.st.2.1 (hh.up 6 (by kernel_rfl))
                have h22 : a.tmps[22]?.getD undef = .pointer (some ⟨g, 0, none⟩) := by rw [← Array.getD_eq_getD_getElem?]; exact h0
                rw [hh.un] at hB
                obtain ⟨⟨c0, c1⟩, ⟨f0, f1⟩, ci⟩ := (show Blk w1 g [.int .i64 0, .int .i64 0] from hB).c2
                have hP := Lib.hid (JN.put hh.st rfl (hh.up 6 (by kernel_rfl)) hh.un h0)
                clear hh h0 hB
                go_simp
                exact ⟨hP.out.2, ⟨undef, trivial⟩, hP.out.1⟩
              · refine regv.StepOK.plain rfl fun L a w1 hh => ?_
                have h153 : a.tmps[153]?.getD undef = .bool true := by rw [← Array.getD_eq_getD_getElem?]; exact hh.dep 5 153 (by kernel_rfl) (by kernel_rfl)
                have hJ := Lib.hid hh.st
                clear hh
                go_simp
                exact ⟨_, rfl, Below.refl _ _, rfl, JN.slots hJ.out (regv.sl_ne (by decide))⟩
              intro L w10 val hL hJ hR hv
              have h23 : val 23 = .bool true := hv 8 23 (by kernel_rfl)
              obtain ⟨g10, e10, hg10, hB10⟩ := hJ.2.1 (hL 6 (by decide))
              rw [hL 7 (by decide)] at hB10
              have HN10 := Lib.hid (And.intro hg10 (show Blk w10 g10 [.int .i64 px, .int .i64 py] from hB10))
              have HK10 := Lib.hid hJ.1.1
              clear hg10 hB10
              have HR10 := Lib.hid hR
              clear hv hL hJ hR
              simp only [regs.putAll, List.map_cons, List.map_nil]
              rw [h23, e10]
              generalize val 149 = v149
              generalize val 150 = v150
              generalize val 151 = v151
              generalize val 148 = v148
              generalize val 152 = v152
              generalize val 153 = v153
              simp only [Act.put, List.setIfInBounds_toArray, List.set_cons_zero, List.set_cons_succ]
              clear h23 e10
              have HBB := Lib.hid (HBA.out.trans (HR10.out.mono HBA.out.size))
              have HJB : Hid (JBs [(w.heap.size, [.int .i64 px, .int .i64 py]), (gw, [.int .i64 rx, .int .i64 ry]), (g7, [.int .i64 rx, .int .i64 ry]), (g9, [.int .i64 za, .int .i64 zb, .int .i64 zc, .int .i64 zd, .int .i64 ze, .int .i64 zf]), (g10, [.int .i64 px, .int .i64 py])] w10) := ⟨HK10.out.1, HK10.out.2.1, HK10.out.2.2.1, HK10.out.2.2.2.1, HN10.out.2, trivial⟩
              clear HBA HJA HR10 HK10 HN10 HOT
              have HE1 := Lib.hid (pt_same rx ry)
              have HE2 := Lib.hid (pt_same px py)
              go_wp2_with (fail)
              refine regs.wp_region_put (regs.bl) (fun _ wx => JBs [(w.heap.size, [.int .i64 px, .int .i64 py]), (gw, [.int .i64 rx, .int .i64 ry]), (g7, [.int .i64 rx, .int .i64 ry]), (g9, [.int .i64 za, .int .i64 zb, .int .i64 zc, .int .i64 zd, .int .i64 ze, .int .i64 zf]), (g10, [.int .i64 px, .int .i64 py])] wx) [154, 155, 156, 157, 158, 159, 160, 161, 162, 163, 164, 165, 166, 167, 168, 169, 170, 171, 172, 173, 174, 175, 176, 177, 178, 179, 180, 181, 6] (by kernel_rfl) (by kernel_rfl) (fun _ => regs.bl_refl _) (regs.bl_trans) (fun i => (match i with
                | 0 => regs.Say.val _ (.bool true)
                | 1 => regs.Say.val _ (.bool true)
                | 2 => regs.Say.val _ (.agg #[.int .i64 rx, .int .i64 ry])
                | 3 => regs.Say.val _ (.agg #[.int .i64 rx, .int .i64 ry])
                | 4 => regs.Say.val _ (.bool true)
                | 5 => regs.Say.val _ (.bool true)
                | 6 => regs.Say.val _ (.bool true)
                | 7 => regs.Say.val _ (.int .i64 0)
                | 8 => regs.Say.val _ (.bool true)
                | 9 => regs.Say.val _ (.bool true)
                | 10 => regs.Say.val _ (.bool true)
                | 11 => regs.Say.val _ (.agg #[.int .i64 za, .int .i64 zb, .int .i64 zc, .int .i64 zd, .int .i64 ze, .int .i64 zf])
                | 12 => regs.Say.val _ (.agg #[.int .i64 rx, .int .i64 ry])
                | 13 => regs.Say.val _ (.agg #[.int .i64 px, .int .i64 py])
                | 14 => regs.Say.val _ (.agg #[.int .i64 px, .int .i64 py])
                | 15 => regs.Say.val _ (.bool true)
                | 16 => regs.Say.val _ (.bool true)
                | 17 => regs.Say.val _ (.bool true)
                | 18 => regs.Say.val _ (.bool true)
                | 19 => regs.Say.val _ (.bool true)
                | 20 => regs.Say.val _ (.bool true)
                | 21 => regs.Say.val _ (.agg #[.int .i64 px, .int .i64 py])
                | 22 => regs.Say.val _ (.agg #[.int .i64 px, .int .i64 py])
                | 23 => regs.Say.val _ (.bool true)
                | 24 => regs.Say.val _ (.bool true)
                | 25 => regs.Say.val _ (.bool true)
                | 26 => regs.Say.val _ (.bool true)
                | 27 => regs.Say.val _ (.bool true)
                | 28 => regs.Say.val _ (.bool true)
                | _ => regs.Say.any _ : regs.Say (regs.bl)).p) (fun _ => regs.Say.mono _) (by kernel_rfl) ((Below.refl _ _).drew) (HJB.out) ⟨?_, ?_, ?_, ?_, ?_, ?_, ?_, ?_, ?_, ?_, ?_, ?_, ?_, ?_, ?_, ?_, ?_, ?_, ?_, ?_, ?_, ?_, ?_, ?_, ?_, ?_, ?_, ?_, ?_, trivial⟩ ?_
              · refine regs.StepOK.plain rfl fun L a w1 hh => ?_
                have h19 : a.tmps[19]?.getD undef = .bool true := by rw [← Array.getD_eq_getD_getElem?]; exact hh.old 19 rfl
                have hJ := Lib.hid hh.st
                clear hh
                go_simp
                exact ⟨_, rfl, regs.bl_refl _, rfl, hJ.out⟩
              · refine regs.StepOK.plain rfl fun L a w1 hh => ?_
                have h154 : a.tmps[154]?.getD undef = .bool true := by rw [← Array.getD_eq_getD_getElem?]; exact hh.dep 0 154 (by kernel_rfl) (by kernel_rfl)
                have hJ := Lib.hid hh.st
                clear hh
                go_simp
                exact ⟨_, rfl, regs.bl_refl _, rfl, hJ.out⟩
              · refine regs.StepOK.yes 1 true 155 rfl rfl (fun L a w1 hh => hh.dep 1 155 (by kernel_rfl) (by kernel_rfl)) fun L a w1 hh => ?_
                have h18 : a.tmps[18]?.getD undef = .pointer (some ⟨g7, 0, none⟩) := by rw [← Array.getD_eq_getD_getElem?]; exact hh.old 18 rfl
                obtain ⟨⟨c0, c1⟩, -, ci⟩ := (hh.st.2.2.1).c2
                have hJ := Lib.hid hh.st
                clear hh
                go_simp
                exact ⟨_, rfl, regs.bl_refl _, rfl, hJ.out⟩
              · refine regs.StepOK.yes 1 true 155 rfl rfl (fun L a w1 hh => hh.dep 1 155 (by kernel_rfl) (by kernel_rfl)) fun L a w1 hh => ?_
                have h17 : a.tmps[17]?.getD undef = .pointer (some ⟨gw, 0, none⟩) := by rw [← Array.getD_eq_getD_getElem?]; exact hh.old 17 rfl
                obtain ⟨⟨c0, c1⟩, -, ci⟩ := (hh.st.2.1).c2
                have hJ := Lib.hid hh.st
                clear hh
                go_simp
                exact ⟨_, rfl, regs.bl_refl _, rfl, hJ.out⟩
              · refine regs.StepOK.yes 1 true 155 rfl rfl (fun L a w1 hh => hh.dep 1 155 (by kernel_rfl) (by kernel_rfl)) fun L a w1 hh => ?_
                have h156 : a.tmps[156]?.getD undef = .agg #[.int .i64 rx, .int .i64 ry] := by rw [← Array.getD_eq_getD_getElem?]; exact hh.dep 2 156 (by kernel_rfl) (by kernel_rfl)
                have h157 : a.tmps[157]?.getD undef = .agg #[.int .i64 rx, .int .i64 ry] := by rw [← Array.getD_eq_getD_getElem?]; exact hh.dep 3 157 (by kernel_rfl) (by kernel_rfl)
                have eqst := HE1.out
                have hJ := Lib.hid hh.st
                clear hh
                go_simp
                exact ⟨_, rfl, regs.bl_refl _, rfl, hJ.out⟩
              · refine regs.StepOK.plain rfl fun L a w1 hh => ?_
                have h155 : a.tmps[155]?.getD undef = .bool true := by rw [← Array.getD_eq_getD_getElem?]; exact hh.dep 1 155 (by kernel_rfl) (by kernel_rfl)
                have h158 : a.tmps[158]?.getD undef = .bool true := by rw [← Array.getD_eq_getD_getElem?]; exact hh.dep 4 158 (by kernel_rfl) (by kernel_rfl)
                have hJ := Lib.hid hh.st
                clear hh
                go_simp
                exact ⟨_, rfl, regs.bl_refl _, rfl, hJ.out⟩
              · refine regs.StepOK.plain rfl fun L a w1 hh => ?_
                have h159 : a.tmps[159]?.getD undef = .bool true := by rw [← Array.getD_eq_getD_getElem?]; exact hh.dep 5 159 (by kernel_rfl) (by kernel_rfl)
                have hJ := Lib.hid hh.st
                clear hh
                go_simp
                exact ⟨_, rfl, regs.bl_refl _, rfl, hJ.out⟩
              · refine regs.StepOK.yes 6 true 160 rfl rfl (fun L a w1 hh => hh.dep 6 160 (by kernel_rfl) (by kernel_rfl)) fun L a w1 hh => ?_
                have h21 : a.tmps[21]?.getD undef = .int .i64 0 := by rw [← Array.getD_eq_getD_getElem?]; exact hh.old 21 rfl
                have hJ := Lib.hid hh.st
                clear hh
                go_simp
                exact ⟨_, rfl, regs.bl_refl _, rfl, hJ.out⟩
              · refine regs.StepOK.yes 6 true 160 rfl rfl (fun L a w1 hh => hh.dep 6 160 (by kernel_rfl) (by kernel_rfl)) fun L a w1 hh => ?_
                have h161 : a.tmps[161]?.getD undef = .int .i64 0 := by rw [← Array.getD_eq_getD_getElem?]; exact hh.dep 7 161 (by kernel_rfl) (by kernel_rfl)
                have hJ := Lib.hid hh.st
                clear hh
                go_simp
                exact ⟨_, rfl, regs.bl_refl _, rfl, hJ.out⟩
              · refine regs.StepOK.plain rfl fun L a w1 hh => ?_
                have h160 : a.tmps[160]?.getD undef = .bool true := by rw [← Array.getD_eq_getD_getElem?]; exact hh.dep 6 160 (by kernel_rfl) (by kernel_rfl)
                have h162 : a.tmps[162]?.getD undef = .bool true := by rw [← Array.getD_eq_getD_getElem?]; exact hh.dep 8 162 (by kernel_rfl) (by kernel_rfl)
                have hJ := Lib.hid hh.st
                clear hh
                go_simp
                exact ⟨_, rfl, regs.bl_refl _, rfl, hJ.out⟩
              · refine regs.StepOK.plain rfl fun L a w1 hh => ?_
                have h163 : a.tmps[163]?.getD undef = .bool true := by rw [← Array.getD_eq_getD_getElem?]; exact hh.dep 9 163 (by kernel_rfl) (by kernel_rfl)
                have hJ := Lib.hid hh.st
                clear hh
                go_simp
                exact ⟨_, rfl, regs.bl_refl _, rfl, hJ.out⟩
              · refine regs.StepOK.yes 10 true 164 rfl rfl (fun L a w1 hh => hh.dep 10 164 (by kernel_rfl) (by kernel_rfl)) fun L a w1 hh => ?_
                have h20 : a.tmps[20]?.getD undef = .pointer (some ⟨g9, 0, none⟩) := by rw [← Array.getD_eq_getD_getElem?]; exact hh.old 20 rfl
                obtain ⟨⟨c0, c1, c2, c3, c4, c5⟩, -, ci⟩ := (hh.st.2.2.2.1).c6
                have hJ := Lib.hid hh.st
                clear hh
                go_simp
                exact ⟨_, rfl, regs.bl_refl _, rfl, hJ.out⟩
              · refine regs.StepOK.yes 10 true 164 rfl rfl (fun L a w1 hh => hh.dep 10 164 (by kernel_rfl) (by kernel_rfl)) fun L a w1 hh => ?_
                have h18 : a.tmps[18]?.getD undef = .pointer (some ⟨g7, 0, none⟩) := by rw [← Array.getD_eq_getD_getElem?]; exact hh.old 18 rfl
                obtain ⟨⟨c0, c1⟩, -, ci⟩ := (hh.st.2.2.1).c2
                have hJ := Lib.hid hh.st
                clear hh
                go_simp
                exact ⟨_, rfl, regs.bl_refl _, rfl, hJ.out⟩
              · refine regs.StepOK.yes 10 true 164 rfl rfl (fun L a w1 hh => hh.dep 10 164 (by kernel_rfl) (by kernel_rfl)) fun L a w1 hh => ?_
                have h165 : a.tmps[165]?.getD undef = .agg #[.int .i64 za, .int .i64 zb, .int .i64 zc, .int .i64 zd, .int .i64 ze, .int .i64 zf] := by rw [← Array.getD_eq_getD_getElem?]; exact hh.dep 11 165 (by kernel_rfl) (by kernel_rfl)
                have h166 : a.tmps[166]?.getD undef = .agg #[.int .i64 rx, .int .i64 ry] := by rw [← Array.getD_eq_getD_getElem?]; exact hh.dep 12 166 (by kernel_rfl) (by kernel_rfl)
                have := True.intro
                have hJ := Lib.hid hh.st
                clear hh
                go_simp
                refine (HFR.out w1).mono ?_
                rintro e w9 ⟨rfl, hb9⟩
                exact ⟨_, rfl, hb9, rfl, JBs.below hJ.out hb9⟩
              · refine regs.StepOK.yes 10 true 164 rfl rfl (fun L a w1 hh => hh.dep 10 164 (by kernel_rfl) (by kernel_rfl)) fun L a w1 hh => ?_
                have h3 : a.tmps[3]?.getD undef = .pointer (some ⟨w.heap.size, 0, none⟩) := by rw [← Array.getD_eq_getD_getElem?]; exact hh.old 3 rfl
                obtain ⟨⟨c0, c1⟩, -, ci⟩ := (hh.st.1).c2
                have hJ := Lib.hid hh.st
                clear hh
                go_simp
                exact ⟨_, rfl, regs.bl_refl _, rfl, hJ.out⟩
              · refine regs.StepOK.yes 10 true 164 rfl rfl (fun L a w1 hh => hh.dep 10 164 (by kernel_rfl) (by kernel_rfl)) fun L a w1 hh => ?_
                have h167 : a.tmps[167]?.getD undef = .agg #[.int .i64 px, .int .i64 py] := by rw [← Array.getD_eq_getD_getElem?]; exact hh.dep 13 167 (by kernel_rfl) (by kernel_rfl)
                have h168 : a.tmps[168]?.getD undef = .agg #[.int .i64 px, .int .i64 py] := by rw [← Array.getD_eq_getD_getElem?]; exact hh.dep 14 168 (by kernel_rfl) (by kernel_rfl)
                have eqst := HE2.out
                have hJ := Lib.hid hh.st
                clear hh
                go_simp
                exact ⟨_, rfl, regs.bl_refl _, rfl, hJ.out⟩
              · refine regs.StepOK.plain rfl fun L a w1 hh => ?_
                have h164 : a.tmps[164]?.getD undef = .bool true := by rw [← Array.getD_eq_getD_getElem?]; exact hh.dep 10 164 (by kernel_rfl) (by kernel_rfl)
                have h169 : a.tmps[169]?.getD undef = .bool true := by rw [← Array.getD_eq_getD_getElem?]; exact hh.dep 15 169 (by kernel_rfl) (by kernel_rfl)
                have hJ := Lib.hid hh.st
                clear hh
                go_simp
                exact ⟨_, rfl, regs.bl_refl _, rfl, hJ.out⟩
              · refine regs.StepOK.plain rfl fun L a w1 hh => ?_
                have h170 : a.tmps[170]?.getD undef = .bool true := by rw [← Array.getD_eq_getD_getElem?]; exact hh.dep 16 170 (by kernel_rfl) (by kernel_rfl)
                have hJ := Lib.hid hh.st
                clear hh
                go_simp
                exact ⟨_, rfl, regs.bl_refl _, rfl, hJ.out⟩
              · refine regs.StepOK.yes 17 true 171 rfl rfl (fun L a w1 hh => hh.dep 17 171 (by kernel_rfl) (by kernel_rfl)) fun L a w1 hh => ?_
                have h23 : a.tmps[23]?.getD undef = .bool true := by rw [← Array.getD_eq_getD_getElem?]; exact hh.old 23 rfl
                have hJ := Lib.hid hh.st
                clear hh
                go_simp
                exact ⟨_, rfl, regs.bl_refl _, rfl, hJ.out⟩
              · refine regs.StepOK.plain rfl fun L a w1 hh => ?_
                have h171 : a.tmps[171]?.getD undef = .bool true := by rw [← Array.getD_eq_getD_getElem?]; exact hh.dep 17 171 (by kernel_rfl) (by kernel_rfl)
                have h172 : a.tmps[172]?.getD undef = .bool true := by rw [← Array.getD_eq_getD_getElem?]; exact hh.dep 18 172 (by kernel_rfl) (by kernel_rfl)
                have hJ := Lib.hid hh.st
                clear hh
                go_simp
                exact ⟨_, rfl, regs.bl_refl _, rfl, hJ.out⟩
              · refine regs.StepOK.plain rfl fun L a w1 hh => ?_
                have h173 : a.tmps[173]?.getD undef = .bool true := by rw [← Array.getD_eq_getD_getElem?]; exact hh.dep 19 173 (by kernel_rfl) (by kernel_rfl)
                have hJ := Lib.hid hh.st
                clear hh
                go_simp
                exact ⟨_, rfl, regs.bl_refl _, rfl, hJ.out⟩
              · refine regs.StepOK.yes 20 true 174 rfl rfl (fun L a w1 hh => hh.dep 20 174 (by kernel_rfl) (by kernel_rfl)) fun L a w1 hh => ?_
                have h22 : a.tmps[22]?.getD undef = .pointer (some ⟨g10, 0, none⟩) := by rw [← Array.getD_eq_getD_getElem?]; exact hh.old 22 rfl
                obtain ⟨⟨c0, c1⟩, -, ci⟩ := (hh.st.2.2.2.2.1).c2
                have hJ := Lib.hid hh.st
                clear hh
                go_simp
                exact ⟨_, rfl, regs.bl_refl _, rfl, hJ.out⟩
              · refine regs.StepOK.yes 20 true 174 rfl rfl (fun L a w1 hh => hh.dep 20 174 (by kernel_rfl) (by kernel_rfl)) fun L a w1 hh => ?_
                have h3 : a.tmps[3]?.getD undef = .pointer (some ⟨w.heap.size, 0, none⟩) := by rw [← Array.getD_eq_getD_getElem?]; exact hh.old 3 rfl
                obtain ⟨⟨c0, c1⟩, -, ci⟩ := (hh.st.1).c2
                have hJ := Lib.hid hh.st
                clear hh
                go_simp
                exact ⟨_, rfl, regs.bl_refl _, rfl, hJ.out⟩
              · refine regs.StepOK.yes 20 true 174 rfl rfl (fun L a w1 hh => hh.dep 20 174 (by kernel_rfl) (by kernel_rfl)) fun L a w1 hh => ?_
                have h175 : a.tmps[175]?.getD undef = .agg #[.int .i64 px, .int .i64 py] := by rw [← Array.getD_eq_getD_getElem?]; exact hh.dep 21 175 (by kernel_rfl) (by kernel_rfl)
                have h176 : a.tmps[176]?.getD undef = .agg #[.int .i64 px, .int .i64 py] := by rw [← Array.getD_eq_getD_getElem?]; exact hh.dep 22 176 (by kernel_rfl) (by kernel_rfl)
                have eqst := HE2.out
                have hJ := Lib.hid hh.st
                clear hh
                go_simp
                exact ⟨_, rfl, regs.bl_refl _, rfl, hJ.out⟩
              · refine regs.StepOK.plain rfl fun L a w1 hh => ?_
                have h174 : a.tmps[174]?.getD undef = .bool true := by rw [← Array.getD_eq_getD_getElem?]; exact hh.dep 20 174 (by kernel_rfl) (by kernel_rfl)
                have h177 : a.tmps[177]?.getD undef = .bool true := by rw [← Array.getD_eq_getD_getElem?]; exact hh.dep 23 177 (by kernel_rfl) (by kernel_rfl)
                have hJ := Lib.hid hh.st
                clear hh
                go_simp
                exact ⟨_, rfl, regs.bl_refl _, rfl, hJ.out⟩
              · refine regs.StepOK.plain rfl fun L a w1 hh => ?_
                have h178 : a.tmps[178]?.getD undef = .bool true := by rw [← Array.getD_eq_getD_getElem?]; exact hh.dep 24 178 (by kernel_rfl) (by kernel_rfl)
                have hJ := Lib.hid hh.st
                clear hh
                go_simp
                exact ⟨_, rfl, regs.bl_refl _, rfl, hJ.out⟩
              · refine regs.StepOK.yes 25 true 179 rfl rfl (fun L a w1 hh => hh.dep 25 179 (by kernel_rfl) (by kernel_rfl)) fun L a w1 hh => ?_
                have := True.intro
                have hJ := Lib.hid hh.st
                clear hh
                go_simp
                refine (awake_any w1).mono ?_
                rintro e w9 ⟨rfl, hb9⟩
                exact ⟨_, rfl, hb9, rfl, JBs.below hJ.out hb9⟩
              · refine regs.StepOK.plain rfl fun L a w1 hh => ?_
                have h179 : a.tmps[179]?.getD undef = .bool true := by rw [← Array.getD_eq_getD_getElem?]; exact hh.dep 25 179 (by kernel_rfl) (by kernel_rfl)
                have h180 : a.tmps[180]?.getD undef = .bool true := by rw [← Array.getD_eq_getD_getElem?]; exact hh.dep 26 180 (by kernel_rfl) (by kernel_rfl)
                have hJ := Lib.hid hh.st
                clear hh
                go_simp
                exact ⟨_, rfl, regs.bl_refl _, rfl, hJ.out⟩
              · refine regs.StepOK.plain rfl fun L a w1 hh => ?_
                have h181 : a.tmps[181]?.getD undef = .bool true := by rw [← Array.getD_eq_getD_getElem?]; exact hh.dep 27 181 (by kernel_rfl) (by kernel_rfl)
                have hJ := Lib.hid hh.st
                clear hh
                go_simp
                exact ⟨_, rfl, regs.bl_refl _, rfl, hJ.out⟩
              intro L w11 val hL hJ hR hv
              have h6 : val 6 = .bool true := hv 28 6 (by kernel_rfl)
              have HK11 := Lib.hid hJ
              have HR11 := Lib.hid hR
              clear hv hL hJ hR
              simp only [regs.putAll, List.map_cons, List.map_nil]
              rw [h6]
              generalize val 154 = v154
              generalize val 155 = v155
              generalize val 156 = v156
              generalize val 157 = v157
              generalize val 158 = v158
              generalize val 159 = v159
              generalize val 160 = v160
              generalize val 161 = v161
              generalize val 162 = v162
              generalize val 163 = v163
              generalize val 164 = v164
              generalize val 165 = v165
              generalize val 166 = v166
              generalize val 167 = v167
              generalize val 168 = v168
              generalize val 169 = v169
              generalize val 170 = v170
              generalize val 171 = v171
              generalize val 172 = v172
              generalize val 173 = v173
              generalize val 174 = v174
              generalize val 175 = v175
              generalize val 176 = v176
              generalize val 177 = v177
              generalize val 178 = v178
              generalize val 179 = v179
              generalize val 180 = v180
              generalize val 181 = v181
              simp only [Act.put, List.setIfInBounds_toArray, List.set_cons_zero, List.set_cons_succ]
              clear h6
              have HBC := Lib.hid (HBB.out.trans (HR11.out.mono HBB.out.size))
              clear HBB HJB HR11 HK11
              go_wp2_with (fail)
              go_ret
              exact ⟨rfl, HBC.out⟩
end Go.Proofs.Ytmbfkaodoankaaa
