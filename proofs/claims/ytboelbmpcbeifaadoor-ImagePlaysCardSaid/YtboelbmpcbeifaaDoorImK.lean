/-
  Layer 10: Fill, whole.
-/
import Derived.Test.YtboelbmpcbeifaaDoorImJ
namespace Go.Proofs.YtboelbmpcbeifaaDoor
open Go.RowKit pxm imm

theorem cov_parts (W H : Int) (l : List Bx) (x y : Int) : cov (partsOf W H l) x y = (cov l x y && inB W H x y) := by
  rw [Bool.eq_iff_iff, Bool.and_eq_true]
  unfold cov partsOf
  rw [List.any_eq_true, List.any_eq_true]
  have hc : ∀ r : Bx, (r.cut [⟨0, 0, W, H⟩]).has x y = (r.has x y && inB W H x y) := fun r => by
    have e : r.cut [⟨0, 0, W, H⟩] = (r.cut1 ⟨0, 0, W, H⟩).nrm := rfl
    rw [e, has_nrm, cut1_has]
    rfl
  constructor
  · rintro ⟨q, hq, h⟩
    obtain ⟨hq, _⟩ := List.mem_filter.1 hq
    obtain ⟨r, hr, rfl⟩ := List.mem_map.1 hq
    rw [hc, Bool.and_eq_true] at h
    exact ⟨⟨r, hr, h.1⟩, h.2⟩
  · rintro ⟨⟨r, hr, h⟩, h2⟩
    have hh : (r.cut [⟨0, 0, W, H⟩]).has x y = true := by rw [hc, h, h2]; rfl
    refine ⟨_, List.mem_filter.2 ⟨List.mem_map.2 ⟨r, hr, rfl⟩, ?_⟩, hh⟩
    unfold Bx.full
    rw [has_ne hh]
    rfl
theorem parts_fine (W H : Int) (l : List Bx) : Fine (partsOf W H l) := fun r hr => by
  have h := (List.mem_filter.1 hr).2
  unfold Bx.full at h
  exact emp_ff.1 (by simpa using h)
theorem parts_in {W H : Int} {l : List Bx} {r : Bx} (hr : r ∈ partsOf W H l) : 0 ≤ r.a ∧ r.c ≤ W ∧ 0 ≤ r.b ∧ r.d ≤ H := by
  obtain ⟨h1, h2⟩ := parts_fine W H l r hr
  have hc : ∀ x y, r.has x y = true → inB W H x y = true := fun x y h => by
    have : cov (partsOf W H l) x y = true := by unfold cov; rw [List.any_eq_true]; exact ⟨r, hr, h⟩
    rw [cov_parts, Bool.and_eq_true] at this
    exact this.2
  have h3 := inB_iff.1 (hc r.a r.b (by unfold Bx.has; simp only [Bool.and_eq_true, decide_eq_true_eq]; omega))
  have h4 := inB_iff.1 (hc (r.c - 1) (r.d - 1) (by unfold Bx.has; simp only [Bool.and_eq_true, decide_eq_true_eq]; omega))
  omega
theorem place_ok {W H i : Nat} (hW : 0 < W) (hi : i < W * H) : inB (W : Nat) (H : Nat) (i % W : Nat) (i / W : Nat) = true := by
  have h1 := Nat.mod_lt i hW
  have h2 : i / W < H := Nat.div_lt_of_lt_mul hi
  rw [inB_iff]
  generalize i % W = r at *
  generalize i / W = q at *
  omega
theorem atI_parts {W H : Nat} (hW : 0 < W) (l : List Bx) {i : Nat} (hi : i < W * H) : atI W (cov (partsOf (W : Nat) (H : Nat) l)) i = atI W (cov l) i := by
  unfold atI
  rw [cov_parts, place_ok hW hi, Bool.and_true]
set_option maxHeartbeats 2000000 in
set_option maxRecDepth 100000 in
theorem fill_any (W H : Nat) (hW : 1 ≤ W ∧ W ≤ 4096) (hH : 1 ≤ H ∧ H ≤ 4096) (g p cap : Nat) (px : List Nat) (hpx : px.length = W * H) (hcap : px.length ≤ cap) (hcm : cap ≤ maxLen) (hp4 : p < 4294967296) (hrb : rb p = true) (AL : Option Addr) (rl : List Bx) (cl : Nat) (hl : rl.length ≤ 1000000) (w : World) (hrow : BRow w AL rl) (hx : Px w g px) :
    Calls Tryd.prog 17 #[imV (W : Nat) (H : Nat) (some ⟨g, 0, none⟩) px.length cap, .int .u32 (p : Nat), .slice AL rl.length cl] w
      fun e w' => e = .returned (.int .i64 (cnt (atI W (cov rl)) (W * H) : Nat)) ∧ Px w' g (paint (atI W (cov rl)) p px) ∧ Off [g] w w' := by
  have hwb : wholeB (W : Nat) (H : Nat) px.length = true := whole_iff.2 ⟨sidesB_iff.2 (by omega), by rw [hpx]; simp⟩
  have HWH := Lib.hid (fun w => whole_any (W : Nat) (H : Nat) (some ⟨g, 0, none⟩) px.length cap (by omega) w)
  rw [hwb] at HWH
  have HRG := Lib.hid (fun w => rgt_any p hp4 w)
  rw [hrb] at HRG
  have HPA := Lib.hid (fun w hr => iparts_any (W : Nat) (H : Nat) (some ⟨g, 0, none⟩) px.length cap AL rl cl hl w hr)
  obtain ⟨ps, hps⟩ : ∃ ps, partsOf (W : Nat) (H : Nat) rl = ps := ⟨_, rfl⟩
  have hF : Fine ps := by rw [← hps]; exact parts_fine _ _ _
  have hin : ∀ r ∈ ps, 0 ≤ r.a ∧ r.c ≤ 4096 := fun r hr => by rw [← hps] at hr; have := parts_in hr; omega
  have hpl : ps.length ≤ 1000000 := by rw [← hps]; exact Nat.le_trans (List.length_filter_le _ _) (by rw [List.length_map]; exact hl)
  have hcin : ∀ x y, cov ps x y = true → 0 ≤ x ∧ x < (W : Nat) ∧ 0 ≤ y ∧ y < (H : Nat) := fun x y h => by
    rw [← hps, cov_parts, Bool.and_eq_true] at h
    exact inB_iff.1 h.2
  have hat : ∀ i, i < W * H → atI W (cov ps) i = atI W (cov rl) i := fun i hi => by rw [← hps]; exact atI_parts (by omega) rl hi
  rw [hps] at HPA
  have HEA : Hid (∀ (bn bm bp : Nat) (A : Option Addr) (c : Nat) (w2 : World), BRow w2 A ps → Px w2 g px → Blk w2 bn [.int .i64 0] → Blk w2 bm (imC (W : Nat) (H : Nat) (some ⟨g, 0, none⟩) px.length cap) → Blk w2 bp [.int .u32 (p : Nat)] → bm ≠ g ∧ bm ≠ bn ∧ bp ≠ g ∧ bp ≠ bn ∧ g ≠ bn →
      Calls Tryd.prog 29 #[.slice A ps.length c, .func (.func 31) #[] #[.pointer (some ⟨bm, 0, none⟩), .pointer (some ⟨bp, 0, none⟩), .pointer (some ⟨bn, 0, none⟩)]] w2
        fun e w' => e = .returned (.tuple #[]) ∧ (Px w' g (paint (atI W (cov rl)) p px) ∧ Blk w' bn [.int .i64 (cnt (atI W (cov rl)) (W * H) : Nat)]) ∧ Off [g, bn] w2 w') := fun bn bm bp A c w2 hA hX hN hM hP hne => by
    refine (each_any' [g, bn] w2 (by intro q hq; simp at hq; rcases hq with rfl | rfl <;> first | exact hX.inside | exact hN.inside) (FI W H g bn p px) (fun F w1 w3 h hb => h.below hX.inside hN.inside hb) ps hF hin hpl A c hA _ _ enters_fill1 ?_ ?_).mono ?_
    · intro F r w1 h1 h2 h3 ho
      refine fill1_any W H hW hH g bn bm bp p cap px hpx hcap hcm F r h2 (fun x y h => ⟨(h1 x y h).1, hcin x y (h1 x y h).2⟩) w1 (ho.blk hM (by simp; exact ⟨hne.1, hne.2.1⟩)) (ho.blk hP (by simp; exact ⟨hne.2.2.1, hne.2.2.2.1⟩)) h3 hne
    · refine ⟨?_, ?_⟩
      · rw [paint_none p px (F := atI W fun _ _ => false) (fun _ _ => rfl)]
        exact hX
      · have e : cnt (atI W fun _ _ => false) (W * H) = 0 := cnt_none _
        rw [e]
        exact hN
    · rintro e w' ⟨he, ⟨h1, h2⟩, ho⟩
      rw [paint_congr p px (fun j hj => hat j (by rw [← hpx]; exact hj))] at h1
      rw [cnt_congr hat] at h2
      exact ⟨he, ⟨h1, h2⟩, ho⟩
  have HRW := Lib.hid (And.intro hrow hx)
  clear hwb hF hin hpl hcin hat hps hrow hx hpx hcap hcm hp4 hrb hl hW hH
  generalize cnt (atI W (cov rl)) (W * H) = nn at *
  generalize paint (atI W (cov rl)) p px = rr at *
  unfold imV imC at *
  go_enter Tryd.func17, Tryd.ntmps17
  go_wp2_with (fail)
  refine (HWH.out _).mono ?_
  rintro e w1 ⟨rfl, hb⟩
  have HB1 : Hid (Below w.heap.size w w1) := (((Below.refl _ _).alloc (Nat.le_refl _) _).alloc (by simp) _).trans (hb.mono (by simp; omega))
  have KM1 : Hid (Blk w1 w.heap.size [.int .i64 (W : Nat), .int .i64 (H : Nat), .slice (some ⟨g, 0, none⟩) px.length cap]) := ((blk_new w [.int .i64 (W : Nat), .int .i64 (H : Nat), .slice (some ⟨g, 0, none⟩) px.length cap] _).alloc _).below' hb
  have KP1 : Hid (Blk w1 (w.heap.size + 1) [.int .u32 (p : Nat)]) := (blk_at (w.alloc _) _ (by simp) [.int .u32 (p : Nat)] _).below' hb
  clear hb HWH
  obtain ⟨d0, -, di⟩ := KP1.out.c1
  go_wp2_with (fail)
  refine (HRG.out _).mono ?_
  rintro e w2 ⟨rfl, hd⟩
  have HB2 : Hid (Below w.heap.size w w2) := HB1.out.trans (hd.below _)
  have KM2 := Lib.hid (hd.blk KM1.out)
  have KP2 := Lib.hid (hd.blk KP1.out)
  clear hd HRG HB1 KM1 KP1 d0 di
  obtain ⟨⟨c0, c1, c2⟩, -, ci⟩ := KM2.out.c3
  go_wp2_with (fail)
  refine (HPA.out _ (HRW.out.1.below (HB2.out.alloc HB2.out.size _))).mono ?_
  rintro e w3 ⟨v, rfl, ho, hb⟩
  obtain ⟨A, c, rfl, -, -, hA⟩ := SOwn.row ho bcs_len
  have KA : Hid (BRow w3 A ps) := hA
  have KN3 : Hid (Blk w3 w2.heap.size [.int .i64 0]) := (blk_new w2 [.int .i64 0] _).below' hb
  have KM3 := Lib.hid ((KM2.out.alloc (.cells #[.int .i64 0] 3)).below' hb)
  have KP3 := Lib.hid ((KP2.out.alloc (.cells #[.int .i64 0] 3)).below' hb)
  have HB3 : Hid (Below w.heap.size w w3) := (HB2.out.alloc HB2.out.size (.cells #[.int .i64 0] 3)).trans (hb.mono (HB2.out.alloc HB2.out.size _).size)
  have hg := HRW.out.2.inside
  have hpi := KP2.out.inside
  have HE := Lib.hid (HEA.out w2.heap.size w.heap.size (w.heap.size + 1) A c w3 KA.out (HRW.out.2.below HB3.out) KN3.out KM3.out KP3.out ⟨by omega, by omega, by omega, by omega, by omega⟩)
  have HGN : Hid (w.heap.size ≤ w2.heap.size) := HB2.out.size
  clear ho hA hb KA KM3 KP3 HEA KM2 KP2 HPA HRW c0 c1 c2 ci hpi hg
  go_wp2_with (fail)
  refine HE.out.mono ?_
  rintro e w4 ⟨rfl, ⟨hx4, hn4⟩, ho4⟩
  have HX4 := Lib.hid hx4
  have hlo : ∀ q ∈ [g, w2.heap.size], q ∈ [g] ∨ w.heap.size ≤ q := by
    intro q hq
    simp only [List.mem_cons, List.not_mem_nil, or_false] at hq
    rcases hq with h | h
    · left; simp [h]
    · right; rw [h]; exact HGN.out
  have HO4 : Hid (Off [g] w w4) := (show Off [g, w2.heap.size] w w4 from (Off.of_below HB3.out).trans ho4).less hlo
  clear hlo
  obtain ⟨d0, -, di⟩ := hn4.c1
  clear hx4 ho4 hn4 HE
  go_wp2_with (fail)
  go_ret
  exact ⟨rfl, HX4.out, HO4.out⟩
end Go.Proofs.YtboelbmpcbeifaaDoor
