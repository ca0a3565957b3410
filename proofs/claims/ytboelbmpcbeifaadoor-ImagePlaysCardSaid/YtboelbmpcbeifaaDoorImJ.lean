/-
  Layer 10: Fill.
-/
import Derived.Test.YtboelbmpcbeifaaDoorImI
namespace Go.Proofs.YtboelbmpcbeifaaDoor
open Go.RowKit pxm imm

/-- of a set of pixels, the places -/
def atI (W : Nat) (F : Int → Int → Bool) (i : Nat) : Bool := F (i % W : Nat) (i / W : Nat)
theorem rin_has (W a b c d i : Nat) : rin W a b c d i = atI W (Bx.has ⟨(a : Nat), (b : Nat), (c : Nat), (d : Nat)⟩) i := by
  unfold rin atI Bx.has
  rw [Bool.eq_iff_iff]
  simp only [Bool.and_eq_true, decide_eq_true_eq]
  omega
theorem cnt_has (W H a b c d : Nat) (hW : 0 < W) (h1 : a ≤ c) (h2 : c ≤ W) (h3 : b ≤ d) (h4 : d ≤ H) : cnt (atI W (Bx.has ⟨(a : Nat), (b : Nat), (c : Nat), (d : Nat)⟩)) (W * H) = (c - a) * (d - b) := by
  rw [← cnt_congr (fun i _ => rin_has W a b c d i)]
  have h := cnt_rect a b c d W H hW h1 h2 h3
  rw [show min H d - min H b = d - b by omega, Nat.mul_comm (d - b)] at h
  exact h
/-- what Fill is at: the pixels, and how many there are -/
def FI (W H g bn p : Nat) (px : List Nat) (F : Int → Int → Bool) (w : World) : Prop := Px w g (paint (atI W F) p px) ∧ Blk w bn [.int .i64 (cnt (atI W F) (W * H) : Nat)]
theorem FI.below {W H g bn p : Nat} {px : List Nat} {F : Int → Int → Bool} {B : Nat} {w w' : World} (hg : g < B) (hn : bn < B) (h : FI W H g bn p px F w) (hb : Below B w w') : FI W H g bn p px F w' :=
  ⟨h.1.stays (hb.block g hg), h.2.below hb hn⟩
theorem enters_fill1 : Enters Tryd.prog 31 := enters_of Tryd.func31 (by kernel_rfl) rfl
set_option maxHeartbeats 2000000 in
set_option maxRecDepth 100000 in
theorem fill1_any (W H : Nat) (hW : 1 ≤ W ∧ W ≤ 4096) (hH : 1 ≤ H ∧ H ≤ 4096) (g bn bm bp p cap : Nat) (px : List Nat) (hpx : px.length = W * H) (hcap : px.length ≤ cap) (hcm : cap ≤ maxLen) (F : Int → Int → Bool) (r : Bx) (hr : r.emp = false)
    (hin : ∀ x y, r.has x y = true → F x y = false ∧ (0 ≤ x ∧ x < W ∧ 0 ≤ y ∧ y < H)) (w : World) (hm : Blk w bm (imC (W : Nat) (H : Nat) (some ⟨g, 0, none⟩) px.length cap)) (hp : Blk w bp [.int .u32 (p : Nat)]) (hI : FI W H g bn p px F w) (hne : bm ≠ g ∧ bm ≠ bn ∧ bp ≠ g ∧ bp ≠ bn ∧ g ≠ bn) :
    Calls Tryd.prog 31 (#[r.v] ++ #[.pointer (some ⟨bm, 0, none⟩), .pointer (some ⟨bp, 0, none⟩), .pointer (some ⟨bn, 0, none⟩)]) w
      fun e w' => e = .returned (.tuple #[]) ∧ FI W H g bn p px (fun x y => F x y || r.has x y) w' ∧ Off [g, bn] w w' := by
  obtain ⟨e1, e2⟩ := Bx.emp_no hr
  have h1 := (hin r.a r.b (by unfold Bx.has; simp only [Bool.and_eq_true, decide_eq_true_eq]; omega)).2
  have h2 := (hin (r.c - 1) (r.d - 1) (by unfold Bx.has; simp only [Bool.and_eq_true, decide_eq_true_eq]; omega)).2
  obtain ⟨ra, rb, rc, rd⟩ := r
  simp only at e1 e2 h1 h2
  obtain ⟨ka, rfl⟩ : ∃ ka : Nat, ra = (ka : Nat) := ⟨ra.toNat, by omega⟩
  obtain ⟨kb, rfl⟩ : ∃ ka : Nat, rb = (ka : Nat) := ⟨rb.toNat, by omega⟩
  obtain ⟨kc, rfl⟩ : ∃ ka : Nat, rc = (ka : Nat) := ⟨rc.toNat, by omega⟩
  obtain ⟨kd, rfl⟩ : ∃ ka : Nat, rd = (ka : Nat) := ⟨rd.toNat, by omega⟩
  have hac : ka < kc := by omega
  have hbd : kb < kd := by omega
  have hcW : kc ≤ W := by omega
  have hdH : kd ≤ H := by omega
  have hlen : (paint (atI W F) p px).length = px.length := paint_len _ _ _
  have HLY := Lib.hid (fun w hx => lay_any W H ka kb kc kd g (paint (atI W F) p px) cap p (hlen.trans hpx) (by rw [hlen]; exact hcap) hcm (by omega) hW.2 hH.2 hac hcW (by omega) hdH w hx)
  rw [hlen] at HLY
  have hrt : Bx.rt ⟨(ka : Nat), (kb : Nat), (kc : Nat), (kd : Nat)⟩ = true := decide_eq_true ⟨⟨by simp only; omega, by simp only; omega⟩, ⟨by simp only; omega, by simp only; omega⟩, ⟨by simp only; omega, by simp only; omega⟩, ⟨by simp only; omega, by simp only; omega⟩⟩
  have HAR := Lib.hid (fun w => bx_area ⟨(ka : Nat), (kb : Nat), (kc : Nat), (kd : Nat)⟩ w hrt)
  have harea : Bx.area ⟨(ka : Nat), (kb : Nat), (kc : Nat), (kd : Nat)⟩ = (((kc - ka) * (kd - kb) : Nat) : Int) := by
    unfold Bx.area
    rw [nrm_ff hr]
    simp only
    rw [Int.natCast_mul]
    congr 1 <;> omega
  rw [harea] at HAR
  have hcnt : cnt (atI W fun x y => F x y || Bx.has ⟨(ka : Nat), (kb : Nat), (kc : Nat), (kd : Nat)⟩ x y) (W * H) = cnt (atI W F) (W * H) + (kc - ka) * (kd - kb) := by
    rw [← cnt_has W H ka kb kc kd (by omega) (by omega) hcW (by omega) hdH]
    refine cnt_or (F := atI W F) fun i _ hi => ?_
    cases hb : atI W (Bx.has ⟨(ka : Nat), (kb : Nat), (kc : Nat), (kd : Nat)⟩) i with
    | false => exact hb
    | true =>
      have := (hin _ _ hb).1
      unfold atI at hi
      rw [this] at hi
      cases hi
  have hc1 := cnt_le (atI W fun x y => F x y || Bx.has ⟨(ka : Nat), (kb : Nat), (kc : Nat), (kd : Nat)⟩ x y) (W * H)
  have hWH : W * H ≤ 16777216 := Nat.mul_le_mul hW.2 hH.2
  have hpaint : paint (rin W ka kb kc kd) p (paint (atI W F) p px) = paint (atI W fun x y => F x y || Bx.has ⟨(ka : Nat), (kb : Nat), (kc : Nat), (kd : Nat)⟩ x y) p px := by
    rw [paint_paint]
    refine paint_congr p px fun j _ => ?_
    rw [rin_has]
    rfl
  have HFI : Hid (∀ w2, Px w2 g (paint (rin W ka kb kc kd) p (paint (atI W F) p px)) → Blk w2 bn [.int .i64 ((cnt (atI W F) (W * H) + (kc - ka) * (kd - kb) : Nat) : Int)] → FI W H g bn p px (fun x y => F x y || Bx.has ⟨(ka : Nat), (kb : Nat), (kc : Nat), (kd : Nat)⟩ x y) w2) := fun w2 h3 h4 => by
    refine ⟨by rw [← hpaint]; exact h3, ?_⟩
    rw [hcnt]
    exact h4
  have hsum : cnt (atI W F) (W * H) + (kc - ka) * (kd - kb) ≤ 16777216 := by rw [← hcnt]; omega
  obtain ⟨hX, hN⟩ := hI
  unfold imC at hm
  clear hcnt hc1 hWH hpaint harea hrt hlen e1 e2 h1 h2 hin hr
  generalize cnt (atI W F) (W * H) = n0 at *
  generalize (kc - ka) * (kd - kb) = ar at *
  generalize paint (atI W F) p px = l0 at *
  obtain ⟨n1, hn1⟩ : ∃ n1, n0 + ar = n1 := ⟨_, rfl⟩
  rw [hn1] at hsum HFI
  have HW1 : Hid (IntKind.i64.wrap ((n0 : Int) + (ar : Int)) = (n1 : Nat)) := by rw [show IntKind.i64.wrap ((n0 : Int) + (ar : Int)) = (n0 : Int) + (ar : Int) from IntWalk.i64_in _ (by omega)]; show _ = _; omega
  clear hsum hn1
  unfold Bx.v at *
  unfold imV at *
  simp only at HLY HAR ⊢
  have hi1 := hm.inside
  have hi2 := hp.inside
  have hi3 := hX.inside
  have hi4 := hN.inside
  obtain ⟨n1', n2', n3', n4', n5'⟩ := hne
  have KM := Lib.hid hm
  have KP := Lib.hid hp
  have KN := Lib.hid hN
  have KX := Lib.hid hX
  obtain ⟨⟨c0, c1, c2⟩, -, -⟩ := hm.c3
  obtain ⟨d0, -, -⟩ := hp.c1
  clear hm hp hN hX hpx hcap hcm hW hH hac hbd hcW hdH
  go_enter Tryd.func31, Tryd.ntmps31
  go_wp2_with (fail)
  have hb0 : Below w.heap.size w (w.alloc (.cells #[.int .i64 (ka : Nat), .int .i64 (kb : Nat), .int .i64 (kc : Nat), .int .i64 (kd : Nat)] 30)) := (Below.refl _ _).alloc (Nat.le_refl _) _
  have HB0 := Lib.hid hb0
  refine (HLY.out _ (KX.out.below HB0.out)).mono ?_
  rintro e w2 ⟨rfl, hx2, ho2⟩
  have KR : Hid (Blk w2 w.heap.size [.int .i64 (ka : Nat), .int .i64 (kb : Nat), .int .i64 (kc : Nat), .int .i64 (kd : Nat)]) := ho2.blk (blk_new w [.int .i64 (ka : Nat), .int .i64 (kb : Nat), .int .i64 (kc : Nat), .int .i64 (kd : Nat)] _) (by simp; omega)
  have KN2 : Hid (Blk w2 bn [.int .i64 (n0 : Nat)]) := ho2.blk (KN.out.below' HB0.out) (by simp; omega)
  have KX2 := Lib.hid hx2
  have HO2 : Hid (Off [g, bn] w w2) := (Off.of_below HB0.out).trans (ho2.mono (by simp))
  have HJ2 : Hid (JO [(w.heap.size, [.int .i64 (ka : Nat), .int .i64 (kb : Nat), .int .i64 (kc : Nat), .int .i64 (kd : Nat)])] bn [.int .i64 (n0 : Nat)] [.int .i64 (n1 : Nat)] false false w2) := JO.start ⟨KR.out, trivial⟩ KN2.out (by intro q hq; simp at hq; rw [hq]; simp only; omega)
  clear hb0 hx2 ho2 KM KP KN KX HB0 KN2 KR c0 c1 c2 d0 HLY
  go_wp2_with (fail)
  refine regs.wp_region_put (Off [bn]) (fun L wx => JO [(w.heap.size, [.int .i64 (ka : Nat), .int .i64 (kb : Nat), .int .i64 (kc : Nat), .int .i64 (kd : Nat)])] bn [.int .i64 (n0 : Nat)] [.int .i64 (n1 : Nat)] (L 0) (L 4) wx) [9, 10, 11, 12] (by kernel_rfl) (by kernel_rfl) (fun _ => Off.refl _ _) (fun _ _ _ h k => h.trans k) (fun i => (match i with
    | 0 => regs.Say.val _ (.int .i64 (n0 : Nat))
    | 1 => regs.Say.val _ (.agg #[.int .i64 (ka : Nat), .int .i64 (kb : Nat), .int .i64 (kc : Nat), .int .i64 (kd : Nat)])
    | 2 => regs.Say.val _ (.int .i64 (ar : Nat))
    | 3 => regs.Say.val _ (.int .i64 (n1 : Nat))
    | 4 => regs.Say.any _
    | _ => regs.Say.any _ : regs.Say (Off [bn])).p) (fun _ => regs.Say.mono _) (by kernel_rfl) (Off.of_below (Below.refl _ _).drew) (HJ2.out) ⟨?_, ?_, ?_, ?_, ?_, trivial⟩ ?_
  · refine regs.StepOK.plain rfl fun L a w1 hh => ?_
    have h3 : a.tmps[3]?.getD undef = .pointer (some ⟨bn, 0, none⟩) := by rw [← Array.getD_eq_getD_getElem?]; exact hh.old 3 rfl
    have hrd := JO.read hh.st hh.un
    obtain ⟨c0, -, ci⟩ := (show Blk w1 bn [.int .i64 (n0 : Nat)] from hrd).c1
    have hJ := Lib.hid (JO.done hh.st)
    clear hh hrd
    go_simp
    exact ⟨_, rfl, Off.refl _ _, rfl, hJ.out⟩
  · refine regs.StepOK.plain rfl fun L a w1 hh => ?_
    have h4 : a.tmps[4]?.getD undef = .pointer (some ⟨w.heap.size, 0, none⟩) := by rw [← Array.getD_eq_getD_getElem?]; exact hh.old 4 rfl
    obtain ⟨⟨c0, c1, c2, c3⟩, -, ci⟩ := (hh.st.1.1.1).c4
    have hJ := Lib.hid hh.st
    clear hh
    go_simp
    exact ⟨_, rfl, Off.refl _ _, rfl, hJ.out⟩
  · refine regs.StepOK.plain rfl fun L a w1 hh => ?_
    have h10 : a.tmps[10]?.getD undef = .agg #[.int .i64 (ka : Nat), .int .i64 (kb : Nat), .int .i64 (kc : Nat), .int .i64 (kd : Nat)] := by rw [← Array.getD_eq_getD_getElem?]; exact hh.dep 1 10 (by kernel_rfl) (by kernel_rfl)
    have := True.intro
    have hJ := Lib.hid hh.st
    clear hh
    go_simp
    refine (HAR.out w1).mono ?_
    rintro e w9 ⟨rfl, hb9⟩
    exact ⟨_, rfl, Off.of_below hb9, rfl, JO.below hJ.out hb9⟩
  · refine regs.StepOK.plain rfl fun L a w1 hh => ?_
    have h9 : a.tmps[9]?.getD undef = .int .i64 (n0 : Nat) := by rw [← Array.getD_eq_getD_getElem?]; exact hh.dep 0 9 (by kernel_rfl) (by kernel_rfl)
    have h11 : a.tmps[11]?.getD undef = .int .i64 (ar : Nat) := by rw [← Array.getD_eq_getD_getElem?]; exact hh.dep 2 11 (by kernel_rfl) (by kernel_rfl)
    have q := HW1.out
    have hJ := Lib.hid hh.st
    clear hh
    go_simp
    exact ⟨_, rfl, Off.refl _ _, rfl, hJ.out⟩
  · refine regs.StepOK.plain rfl fun L a w1 hh => ?_
    have h3 : a.tmps[3]?.getD undef = .pointer (some ⟨bn, 0, none⟩) := by rw [← Array.getD_eq_getD_getElem?]; exact hh.old 3 rfl
    have h12 : a.tmps[12]?.getD undef = .int .i64 (n1 : Nat) := by rw [← Array.getD_eq_getD_getElem?]; exact hh.dep 3 12 (by kernel_rfl) (by kernel_rfl)
    have hB := hh.st.2.2.1
    rw [hh.un] at hB
    obtain ⟨c0, f0, ci⟩ := (show Blk w1 bn [.int .i64 (n0 : Nat)] from hB).c1
    have hP := Lib.hid (JO.put hh.st rfl hh.un (hh.up 0 (by kernel_rfl)))
    clear hh hB
    go_simp
    exact ⟨hP.out.2, ⟨undef, trivial⟩, hP.out.1⟩
  intro L w5 val hL hJ hR hv
  have hB5 := hJ.2.2.1
  rw [hL 4 (by decide)] at hB5
  have HN5 := Lib.hid (show Blk w5 bn [.int .i64 (n1 : Nat)] from hB5)
  have HK5 := Lib.hid hJ.1.1
  clear hB5
  have HR5 := Lib.hid hR
  clear hv hL hJ hR
  simp only [regs.putAll, List.map_cons, List.map_nil]
  generalize val 9 = v9
  generalize val 10 = v10
  generalize val 11 = v11
  generalize val 12 = v12
  simp only [Act.put, List.setIfInBounds_toArray, List.set_cons_zero, List.set_cons_succ]
  have HX5 := Lib.hid (KX2.out.off HR5.out (by simpa using n5'))
  go_wp2_with (fail)
  go_end0
  exact ⟨rfl, HFI.out _ HX5.out HN5.out, HO2.out.trans (HR5.out.mono (by simp))⟩
end Go.Proofs.YtboelbmpcbeifaaDoor
