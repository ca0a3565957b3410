/-
  ImagePlays: the walk.
-/
import Derived.Test.YtboelbmpcbeifaaDoorImU
namespace Go.Proofs.YtboelbmpcbeifaaDoor
open Go.RowKit pxm imm

theorem out_ways {W H : Nat} {x y : Int} (h : ¬ inB (W : Nat) (H : Nat) x y = true) : (decide (0 ≤ x) = false) ∨ (decide (0 ≤ x) = true ∧ decide (0 ≤ y) = false) ∨ (decide (0 ≤ x) = true ∧ decide (0 ≤ y) = true ∧ decide (x < (W : Int)) = false) ∨ (decide (0 ≤ x) = true ∧ decide (0 ≤ y) = true ∧ decide (x < (W : Int)) = true ∧ decide (y < (H : Int)) = false) := by
  rw [inB_iff] at h
  simp only [decide_eq_true_eq, decide_eq_false_iff_not]
  omega
theorem in_facts {W H N : Nat} (hW : W ≤ 20) (hwb : wholeB (W : Nat) (H : Nat) N = true) {x y : Int} (h : inB (W : Nat) (H : Nat) x y = true) : ∃ xn yn jy j : Nat, x = (xn : Nat) ∧ y = (yn : Nat) ∧ decide (xn < W) = true ∧ decide (yn < H) = true ∧ wrap64 ((yn : Int) * (W : Int)) = (jy : Nat) ∧ wrap64 ((jy : Int) + (xn : Int)) = (j : Nat) ∧ j < N ∧ (y * (W : Int) + x).toNat = j := by
  obtain ⟨i1, i2, i3, i4⟩ := inB_iff.1 h
  obtain ⟨p1, p2, p3, p4⟩ := place_in hwb h
  obtain ⟨xn, rfl⟩ := Int.eq_ofNat_of_zero_le i1
  obtain ⟨yn, rfl⟩ := Int.eq_ofNat_of_zero_le i3
  obtain ⟨jy, hjy⟩ := Int.eq_ofNat_of_zero_le p3
  rw [hjy] at p1 p2 p4
  have e1 : wrap64 (((yn : Nat) : Int) * (W : Int)) = (jy : Nat) := by rw [hjy]; exact IntWalk.wrap64_in _ (by omega)
  refine ⟨xn, yn, jy, jy + xn, rfl, rfl, by simp; omega, by simp; omega, e1, ?_, by omega, by rw [hjy]; omega⟩
  rw [IntWalk.wrap64_in _ (by omega)]
  simp
theorem ten (n : Nat) : (decide ((10 : Int) < (n : Int)) = true) ∨ (decide ((10 : Int) < (n : Int)) = false ∧ Hid (n ≤ 10)) := by
  by_cases h : 10 < n
  · exact .inl (by simp; omega)
  · exact .inr ⟨by simp; omega, show n ≤ 10 by omega⟩
structure QS (w wr : World) (W H N ba ga gw bo : Nat) (cs : List Value) (px px2 : List Nat) : Prop where
  xa : Px wr ga px
  xw : Px wr gw px2
  ka : Blk wr ba [.int .i64 (W : Nat), .int .i64 (H : Nat), .slice (some ⟨ga, 0, none⟩) N N]
  ko : Blk wr bo cs
  hb : Below w.heap.size w wr
theorem QS.below {w wr w' : World} {W H N ba ga gw bo : Nat} {cs : List Value} {px px2 : List Nat} (h : QS w wr W H N ba ga gw bo cs px px2) (hb : Below wr.heap.size wr w') : QS w w' W H N ba ga gw bo cs px px2 := ⟨h.xa.below hb, h.xw.below hb, h.ka.below' hb, h.ko.below' hb, h.hb.trans (hb.mono h.hb.size)⟩
theorem QS.put {w wr : World} {W H N ba ga gw bo : Nat} {cs : List Value} {px px2 : List Nat} (h : QS w wr W H N ba ga gw bo cs px px2) {j p : Nat} (hj : j < px2.length) (hne : ba ≠ ga ∧ ba ≠ gw ∧ ga ≠ gw) (hbo : gw < bo) (hl : w.heap.size ≤ gw) : QS w (wr.setCell ⟨gw, j, none⟩ (.int .u32 (p : Nat))) W H N ba ga gw bo cs px (px2.set j p) :=
  ⟨h.xa.otherCell hne.2.2 _ _, h.xw.set hj p, h.ka.other hne.2.1 _ _, h.ko.other (by omega) _ _, below_set h.hb hl⟩
theorem rq {W k2 : Nat} (hk : k2 ≤ 400) : ∃ am ad : Nat, am = k2 % W ∧ ad = k2 / W ∧ Int.tmod (k2 : Int) (W : Int) = (am : Nat) ∧ Int.tdiv (k2 : Int) (W : Int) = (ad : Nat) ∧ IntKind.i64.wrap ((ad : Nat) : Int) = (ad : Nat) ∧ am ≤ 400 ∧ ad ≤ 400 := by
  have h1 := Nat.div_le_self k2 W
  have h2 := Nat.mod_le k2 W
  exact ⟨_, _, rfl, rfl, rfl, rfl, IntWalk.i64_in _ (by generalize k2 / W = q at *; omega), by omega, by omega⟩
theorem QS.fill {w wr w2 : World} {W H N ba ga gw bo p : Nat} {cs : List Value} {px : List Nat} {F : Nat → Bool} (h : QS w wr W H N ba ga gw bo cs px (paint (upTo F N) p px)) (hrs : Rs N px) (hx : Px w2 ga (paint F p px)) (ho : Off [ga] wr w2) (hp : p < 4294967296) (hr : rb p = true) (hne : ba ≠ ga ∧ ba ≠ gw ∧ ga ≠ gw) (hl : w.heap.size ≤ ga) : PS w w2 W H N ba ga gw (paint F p px) := by
  have hw := h.xw
  rw [paint_upN F p px hrs.1] at hw
  exact ⟨hx, hw.off ho (by simp; exact fun e => hne.2.2 e.symm), ho.blk h.ka (by simp; exact hne.1), h.hb.trans (ho.to_below h.hb.size (by intro q hq; simp at hq; rw [hq]; exact hl)), hrs.paint F hp hr⟩
theorem has_ways (a b c d x y : Int) : (decide (a ≤ x) = true ∧ decide (x < c) = true ∧ decide (b ≤ y) = true ∧ decide (y < d) = true ∧ Hid (Bx.has ⟨a, b, c, d⟩ x y = true)) ∨ (decide (a ≤ x) = false ∧ Hid (Bx.has ⟨a, b, c, d⟩ x y = false)) ∨ (decide (a ≤ x) = true ∧ decide (x < c) = false ∧ Hid (Bx.has ⟨a, b, c, d⟩ x y = false)) ∨ (decide (a ≤ x) = true ∧ decide (x < c) = true ∧ decide (b ≤ y) = false ∧ Hid (Bx.has ⟨a, b, c, d⟩ x y = false)) ∨
    (decide (a ≤ x) = true ∧ decide (x < c) = true ∧ decide (b ≤ y) = true ∧ decide (y < d) = false ∧ Hid (Bx.has ⟨a, b, c, d⟩ x y = false)) := by
  unfold Hid Bx.has
  simp only
  cases decide (a ≤ x) <;> cases decide (x < c) <;> cases decide (b ≤ y) <;> cases decide (y < d) <;> simp
theorem in_facts2 {W H N : Nat} (hW : W ≤ 20) (hwb : wholeB (W : Nat) (H : Nat) N = true) {x y : Int} (h : inB (W : Nat) (H : Nat) x y = true) : ∃ jy j : Nat, decide (0 ≤ x) = true ∧ decide (0 ≤ y) = true ∧ decide (x < (W : Int)) = true ∧ decide (y < (H : Int)) = true ∧ wrap64 (y * (W : Int)) = (jy : Nat) ∧ wrap64 ((jy : Int) + x) = (j : Nat) ∧ j < N ∧ (y * (W : Int) + x).toNat = j := by
  obtain ⟨xn, yn, jy, j, rfl, rfl, u3, u4, qa, qb, hj, he⟩ := in_facts hW hwb h
  have h3 : xn < W := of_decide_eq_true u3
  have h4 : yn < H := of_decide_eq_true u4
  exact ⟨jy, j, decide_eq_true (by omega), decide_eq_true (by omega), decide_eq_true (by omega), decide_eq_true (by omega), qa, qb, hj, he⟩
set_option maxHeartbeats 8000000 in
set_option maxRecDepth 100000 in
theorem plays_core (W H : Nat) (hW : 1 ≤ W ∧ W ≤ 20) (hH : 1 ≤ H ∧ H ≤ 20) (A : Option Addr) (l : List Cl) (c : Nat) (w : World) (hr : ClRow w A l) (ho : ∀ x ∈ l, x.ok w) (hl30 : l.length ≤ 30) (ht : crcs.TabAt w) :
    Calls Tryd.prog 4 #[.int .i64 (W : Nat), .int .i64 (H : Nat), .slice A l.length c] w fun e w' => e = .returned (.bool true) ∧ Below w.heap.size w w' := by
  have HAW := Lib.hid (awk ht)
  have HR := Lib.hid hr
  have HO := Lib.hid ho
  have HFR : Hid (∀ p w, p < 4294967296 → Calls Tryd.prog 14 #[.int .u32 (p : Nat)] w fun e w' => e = .returned (frV p) ∧ Below w.heap.size w w') := fun p w h => dfr_any p h w
  have HRT : Hid (∀ p w, p < 4294967296 → Calls Tryd.prog 13 #[frV p] w fun e w' => e = .returned (.bool (rb p)) ∧ Below w.heap.size w w') := fun p w h => drt_any p h w
  obtain ⟨N, hN⟩ : ∃ N, N = W * H := ⟨_, rfl⟩
  have hN2 : N ≤ 400 := by rw [hN]; exact Nat.mul_le_mul hW.2 hH.2
  have hW0 : 0 < W := by omega
  have hW4 : 1 ≤ W ∧ W ≤ 4096 := by omega
  have hH4 : 1 ≤ H ∧ H ≤ 4096 := by omega
  have hNml : N ≤ maxLen := by unfold maxLen; omega
  have hsb : sidesB (W : Nat) (H : Nat) = true := sidesB_iff.2 (by omega)
  have hwb : wholeB (W : Nat) (H : Nat) N = true := whole_iff.2 ⟨hsb, by rw [hN]; simp⟩
  have HWB := Lib.hid hwb
  have hNE := Lib.hid (fun w => new_any (W : Nat) (H : Nat) w)
  unfold NewQ at hNE
  rw [hsb] at hNE
  have HNN : Hid (∀ n : Nat, (n : Int) = (W : Nat) * (H : Nat) → n = N) := fun n h => by
    rw [hN]
    have : (n : Int) = ((W * H : Nat) : Int) := by rw [h]; simp
    omega
  have HSET : Hid (∀ (px : List Nat) (ga : Nat) (x y : Int) (p : Nat) (w : World), px.length = N → p < 4294967296 → Px w ga px → Calls Tryd.prog 15 #[.agg #[.int .i64 (W : Nat), .int .i64 (H : Nat), .slice (some ⟨ga, 0, none⟩) N N], .int .i64 x, .int .i64 y, .int .u32 (p : Nat)] w
      fun e w' => e = .returned (.bool (inB (W : Nat) (H : Nat) x y && rb p)) ∧ Px w' ga (pxSet (W : Nat) (H : Nat) px x y p) ∧ Off [ga] w w') := fun px ga x y p w h1 h2 h3 => by
    have h := set_any (W : Nat) (H : Nat) ga px N x y p h2 (by rw [h1]; exact hwb) (by rw [h1]; exact hNml) w h3
    rw [h1] at h
    exact h
  have HFILL : Hid (∀ (px : List Nat) (ga p : Nat) (AL : Option Addr) (rl : List Bx) (cl : Nat) (w : World), px.length = N → p < 4294967296 → rb p = true → rl.length ≤ 1000000 → BRow w AL rl → Px w ga px → Calls Tryd.prog 17 #[.agg #[.int .i64 (W : Nat), .int .i64 (H : Nat), .slice (some ⟨ga, 0, none⟩) N N], .int .u32 (p : Nat), .slice AL rl.length cl] w
      fun e w' => e = .returned (.int .i64 (cnt (atI W (cov rl)) N : Nat)) ∧ Px w' ga (paint (atI W (cov rl)) p px) ∧ Off [ga] w w') := fun px ga p AL rl cl w h1 h2 h3 h4 h5 h6 =>
    fill_n W H N hW4 hH4 hN ga p N px h1 (Nat.le_refl _) hNml h2 h3 AL rl cl h4 _ _ rfl rfl w h5 h6
  have HAT : Hid (∀ (px : List Nat) (ga : Nat) (x y : Int) (w : World), px.length = N → Px w ga px → Calls Tryd.prog 18 #[.agg #[.int .i64 (W : Nat), .int .i64 (H : Nat), .slice (some ⟨ga, 0, none⟩) N N], .int .i64 x, .int .i64 y] w
      fun e w' => e = .returned (.int .u32 (pixAt (W : Nat) (H : Nat) px x y : Nat)) ∧ Below w.heap.size w w') := fun px ga x y w h1 h2 => by
    have h := at_any (W : Nat) (H : Nat) (some ⟨ga, 0, none⟩) px N x y (by rw [h1]; exact hwb) (by rw [h1]; exact hNml) w h2.row
    rw [h1] at h
    exact h
  have HCK : Hid (∀ (px : List Nat) (ga : Nat) (w : World), Rs N px → Px w ga px → Calls Tryd.prog 9 #[.agg #[.int .i64 (W : Nat), .int .i64 (H : Nat), .slice (some ⟨ga, 0, none⟩) N N]] w
      fun e w' => e = .returned (.int .i64 0) ∧ Below w.heap.size w w') := fun px ga w h1 h2 => by
    have h := check_any (W : Nat) (H : Nat) (some ⟨ga, 0, none⟩) px N (fun z hz => (h1.2 z hz).1) (by rw [h1.1]; exact hNml) w h2.row
    rw [h1.1, chk_in (by omega) (by rw [h1.1, hN]; simp), if_pos (List.all_eq_true.2 fun z hz => (h1.2 z hz).2)] at h
    exact h
  have HPL : Hid (∀ i, i < N → inB (W : Nat) (H : Nat) (i % W : Nat) (i / W : Nat) = true) := fun i hi => place_ok hW0 (by rw [← hN]; exact hi)
  have hq : wrap64 ((W : Int) * (H : Int)) = (N : Nat) := by
    have e : (W : Int) * (H : Int) = ((W * H : Nat) : Int) := by simp
    rw [e, ← hN]
    exact IntWalk.wrap64_in _ (by omega)
  have hmk := fun w => make_u32 w N (by omega)
  have HRS0 : Hid (Rs N (List.replicate N 0)) := ⟨List.length_replicate, fun z hz => by rw [List.eq_of_mem_replicate hz]; exact ⟨by decide, by decide +kernel⟩⟩
  generalize hz : ((List.replicate N 0).map eW).toArray = zs at hmk
  have HX : Hid (∀ w : World, Px (w.alloc (.cells zs 34)) w.heap.size (List.replicate N 0)) := fun w => by rw [← hz]; exact px_new w _ _ rfl
  clear hz
  obtain ⟨l0, hl0⟩ : ∃ x, List.replicate N 0 = x := ⟨_, rfl⟩
  rw [hl0] at HX HRS0
  have HL0 := Lib.hid hl0
  have hn63 : l.length ≤ 9223372036854775807 := by omega
  have t1 : decide ((W : Int) < 1) = false := by simp; omega
  have t2 : decide ((H : Int) < 1) = false := by simp; omega
  have t3 : decide ((20 : Int) < (W : Int)) = false := by simp; omega
  have t4 : decide ((20 : Int) < (H : Int)) = false := by simp; omega
  have t5 : decide ((30 : Int) < (l.length : Int)) = false := by simp; omega
  have HN := Lib.hid hN
  clear hl0 hr ho ht hW4 hH4 hNml hsb hwb hN
  unfold imV at hNE
  go_enter Tryd.func4, Tryd.ntmps4
  go_wp2_with (fail)
  refine (hNE.out _).mono ?_
  rintro e w1 ⟨hb, hq1⟩
  rw [if_pos (by trivial)] at hq1
  obtain ⟨ga, n, rfl, hn, hga, hxa⟩ := hq1
  have hnN : n = N := HNN.out n hn
  subst n
  rw [HL0.out] at hxa
  have HB1 := Lib.hid hb
  have hb2 : Below w1.heap.size w1 (w1.alloc (.cells #[.int .i64 (W : Nat), .int .i64 (H : Nat), .slice (some ⟨ga, 0, none⟩) N N] 24)) := (Below.refl _ _).alloc (Nat.le_refl _) _
  have HB2 := Lib.hid (HB1.out.trans (hb2.mono HB1.out.size))
  have HXA2 := Lib.hid (hxa.below hb2)
  have KA2 : Hid (Blk (w1.alloc (.cells #[.int .i64 (W : Nat), .int .i64 (H : Nat), .slice (some ⟨ga, 0, none⟩) N N] 24)) w1.heap.size [.int .i64 (W : Nat), .int .i64 (H : Nat), .slice (some ⟨ga, 0, none⟩) N N]) := blk_new w1 [.int .i64 (W : Nat), .int .i64 (H : Nat), .slice (some ⟨ga, 0, none⟩) N N] _
  have HGA : Hid (w.heap.size ≤ ga ∧ ga < w1.heap.size ∧ w.heap.size ≤ w1.heap.size) := ⟨hga, hxa.inside, HB1.out.size⟩
  clear hb hb2 hxa hga hn HB1 HNN hNE t1 t2 t3 t4 t5
  go_wp2_with (fail)
  have hz3 : (w1.alloc (.cells #[.int .i64 (W : Nat), .int .i64 (H : Nat), .slice (some ⟨ga, 0, none⟩) N N] 24)).heap.size = w1.heap.size + 1 := by simp
  have hb3 : Below (w1.heap.size + 1) (w1.alloc (.cells #[.int .i64 (W : Nat), .int .i64 (H : Nat), .slice (some ⟨ga, 0, none⟩) N N] 24)) ((w1.alloc (.cells #[.int .i64 (W : Nat), .int .i64 (H : Nat), .slice (some ⟨ga, 0, none⟩) N N] 24)).alloc (.cells zs 34)) := by rw [← hz3]; exact (Below.refl _ _).alloc (Nat.le_refl _) _
  have hX3 := HX.out (w1.alloc (.cells #[.int .i64 (W : Nat), .int .i64 (H : Nat), .slice (some ⟨ga, 0, none⟩) N N] 24))
  rw [hz3] at hX3
  have HXW3 := Lib.hid hX3
  have HB3 := Lib.hid hb3
  have HZ3 := Lib.hid hz3
  clear hX3 hb3 hz3 HX hmk hq
  generalize hgw : w1.heap.size + 1 = gw at *
  generalize w1.alloc (.cells #[.int .i64 (W : Nat), .int .i64 (H : Nat), .slice (some ⟨ga, 0, none⟩) N N] 24) = w2 at *
  generalize w2.alloc (.cells zs 34) = w3 at *
  have HG : Hid ((w1.heap.size ≠ ga ∧ w1.heap.size ≠ gw ∧ ga ≠ gw) ∧ (w.heap.size ≤ ga ∧ w.heap.size ≤ gw) ∧ w.heap.size ≤ w1.heap.size) := by have := HGA.out; refine ⟨⟨?_, ?_, ?_⟩, ⟨?_, ?_⟩, ?_⟩ <;> omega
  have hb3 : Below w2.heap.size w2 w3 := by rw [HZ3.out]; exact HB3.out
  have HPS3 : Hid (PS w w3 W H N w1.heap.size ga gw l0) := ⟨HXA2.out.below hb3, HXW3.out, KA2.out.below' hb3, HB2.out.trans (hb3.mono HB2.out.size), HRS0.out⟩
  clear hb3 hgw HZ3 HB3 HXW3 HB2 HXA2 KA2 HGA HRS0
  generalize w1.heap.size = ba at *
  go_loopw [58] (fun i wr => ∃ (k : Nat) (px : List Nat), k ≤ l.length ∧ i = .int .i64 k ∧ Hid (PS w wr W H N ba ga gw px)) (fun i _ => l.length - (intOf i).toNat)
  case atStart => exact ⟨0, l0, Nat.zero_le _, rfl, HPS3⟩
  case round =>
    obtain ⟨k, px, hk, rfl, HPS⟩ := hrel
    clear HPS3
    by_cases hlt : k < l.length
    · have t : decide (k < l.length) = true := by simpa using hlt
      obtain ⟨b, off, eA, hbw, d0, d1, d2, d3, d4⟩ := ClRow.at_ (SRow.below HR.out HPS.out.hb) hlt
      have HQ0 : Hid ((l[k]).ok w) := HO.out _ (List.getElem_mem hlt)
      subst eA
      generalize l[k] = q at *
      obtain ⟨kd, x, y, p, AL, rl, cl⟩ := q
      simp only at d0 d1 d2 d3 d4
      have hp4 : p < 4294967296 := HQ0.out.p
      have hrn : rl.length ≤ 9223372036854775807 := HQ0.out.l
      have hx64 := HQ0.out.x
      have hy64 := HQ0.out.y
      have HF := Lib.hid (fun w => HFR.out p w hp4)
      have HT := Lib.hid (fun w => HRT.out p w hp4)
      have HP4 := Lib.hid hp4
      have hbo : Below wr.heap.size wr (wr.alloc (.cells #[.int .i64 kd, .int .i64 x, .int .i64 y, .int .u32 (p : Nat), .slice AL rl.length cl] 41)) := (Below.refl _ _).alloc (Nat.le_refl _) _
      have HPS2 := Lib.hid (HPS.out.below hbo)
      have KO2 : Hid (Blk (wr.alloc (.cells #[.int .i64 kd, .int .i64 x, .int .i64 y, .int .u32 (p : Nat), .slice AL rl.length cl] 41)) wr.heap.size [.int .i64 kd, .int .i64 x, .int .i64 y, .int .u32 (p : Nat), .slice AL rl.length cl]) := blk_new wr [.int .i64 kd, .int .i64 x, .int .i64 y, .int .u32 (p : Nat), .slice AL rl.length cl] _
      have HGO : Hid (ga < wr.heap.size ∧ gw < wr.heap.size ∧ ba < wr.heap.size ∧ w.heap.size ≤ wr.heap.size) := ⟨HPS.out.xa.inside, HPS.out.xw.inside, HPS.out.ka.inside, HPS.out.hb.size⟩
      clear hbo HPS hp4 
      unfold frV at HF HT
      go_wp2_with (fail)
      generalize wr.alloc (.cells #[.int .i64 kd, .int .i64 x, .int .i64 y, .int .u32 (p : Nat), .slice AL rl.length cl] 41) = w4 at *
      generalize wr.heap.size = bo at *
      clear d0 d1 d2 d3 d4 hbw
      refine (HF.out _).mono ?_
      rintro e w5 ⟨rfl, hb⟩
      have HPS5 := Lib.hid (HPS2.out.below hb)
      have KO5 := Lib.hid (KO2.out.below' hb)
      clear hb HF HPS2 KO2
      go_wp2_with (fail)
      refine (HT.out _).mono ?_
      rintro e w6 ⟨rfl, hb⟩
      have HPS6 := Lib.hid (HPS5.out.below hb)
      have KO6 := Lib.hid (KO5.out.below' hb)
      clear hb HT HPS5 KO5
      obtain ⟨⟨e0, e1, e2, e3, e4⟩, -, ei⟩ := KO6.out.c5
      by_cases h1 : kd = 1
      · subst h1
        have HS := Lib.hid (fun w hx => HSET.out px ga x y p w HPS6.out.rs.1 HP4.out hx)
        clear HFILL HAT HCK HAW HFR HRT HR HO HSET HPL HL0 HN HQ0
        obtain ⟨⟨m0, m1, m2⟩, -, mi⟩ := HPS6.out.ka.c3
        have HPX : Hid (pxSet (W : Nat) (H : Nat) px x y p = if (inB (W : Nat) (H : Nat) x y && rb p) = true then px.set (y * (W : Nat) + x).toNat p else px) := rfl
        generalize hry : rb p = ry at *
        have HRY := Lib.hid hry
        clear hry
        go_upto_region 13 with (fail)
        go_cut [13] (fun u wx => u = .bool (inB (W : Nat) (H : Nat) x y) ∧ wx = w6)
        case first =>
          clear HS HPX HRY
          by_cases hin : inB (W : Nat) (H : Nat) x y = true
          · obtain ⟨jy, j, u1, u2, u3, u4, -, -, -, -⟩ := in_facts2 hW.2 HWB.out hin
            have HIN := Lib.hid hin
            clear hin
            go_wp2_with (fail)
            go_meet
            case rel => exact ⟨congrArg Value.bool HIN.out.symm, rfl⟩
          · have hin' : inB (W : Nat) (H : Nat) x y = false := by simpa using hin
            have hw := out_ways hin
            have HIN := Lib.hid hin'
            clear hin hin'
            rcases hw with u1 | ⟨u1, u2⟩ | ⟨u1, u2, u3⟩ | ⟨u1, u2, u3, u4⟩
            all_goals
              go_wp2_with (fail)
              go_meet
              case rel => exact ⟨congrArg Value.bool HIN.out.symm, rfl⟩
        case rest =>
        obtain ⟨rfl, rfl⟩ := hcut
        as_aux_lemma =>
          by_cases hin : inB (W : Nat) (H : Nat) x y = true
          · obtain ⟨xn, yn, jy, j, rfl, rfl, u3, u4, qa, qb, hjN, hje⟩ := in_facts hW.2 HWB.out hin
            rw [hin]
            rw [hin] at HS HPX
            rw [hje] at HPX
            have tj : decide (j < N) = true := by simpa using hjN
            have HJN := Lib.hid hjN
            clear hin hje hjN
            cases ry with
            | true =>
              rw [Bool.true_and, if_pos rfl] at HPX
              rw [HPX.out, Bool.true_and] at HS
              go_wp2_with (fail)
              refine (HS.out _ HPS6.out.xa).mono ?_
              rintro e w7 ⟨rfl, hx, ho⟩
              have hxw : Px w7 gw px := HPS6.out.xw.off ho (by simp; exact fun e => HG.out.1.2.2 e.symm)
              obtain ⟨z, hc⟩ : ∃ z : Nat, w7.cell? ⟨gw, j, none⟩ = some (.int .u32 (z : Nat)) := ⟨_, hxw.cell (j := j) (by rw [HPS6.out.rs.1]; exact HJN.out)⟩
              have hf := hxw.free j
              have hgi := hxw.inside
              have HPS7 : Hid (PS w (w7.setCell ⟨gw, j, none⟩ (.int .u32 (p : Nat))) W H N ba ga gw (px.set j p)) := HPS6.out.both ho HJN.out HP4.out HRY.out hx HG.out.1 HG.out.2.1
              have KO7 : Blk w7 bo [.int .i64 1, .int .i64 (xn : Nat), .int .i64 (yn : Nat), .int .u32 (p : Nat), .slice AL rl.length cl] := ho.blk KO6.out (by have := HGO.out; simp; omega)
              clear e0 e1 e2 e3 e4 ei m0 m1 m2 mi hx ho hxw HS HPS6 KO6
              obtain ⟨⟨e0, e1, e2, e3, e4⟩, -, ei⟩ := KO7.c5
              clear KO7
              go_wp2_with (fail)
              go_roundw
              case rel => exact ⟨k + 1, _, by omega, by go_num, HPS7⟩
              case measure => simp [intOf]; omega
            | false =>
              rw [Bool.and_false, if_neg (by decide)] at HPX
              rw [HPX.out, Bool.and_false] at HS
              go_wp2_with (fail)
              refine (HS.out _ HPS6.out.xa).mono ?_
              rintro e w7 ⟨rfl, hx, ho⟩
              have HPS7 : Hid (PS w w7 W H N ba ga gw px) := HPS6.out.off ho hx rfl HG.out.1 HG.out.2.1.1
              clear e0 e1 e2 e3 e4 ei m0 m1 m2 mi hx ho HS HPS6 KO6
              go_wp2_with (fail)
              go_roundw
              case rel => exact ⟨k + 1, px, by omega, by go_num, HPS7⟩
              case measure => simp [intOf]; omega
          · have hin' : inB (W : Nat) (H : Nat) x y = false := by simpa using hin
            rw [hin', Bool.false_and] at HS HPX
            rw [if_neg (by decide)] at HPX
            rw [HPX.out] at HS
            rw [hin']
            clear hin hin'
            go_wp2_with (fail)
            refine (HS.out _ HPS6.out.xa).mono ?_
            rintro e w7 ⟨rfl, hx, ho⟩
            have HPS7 : Hid (PS w w7 W H N ba ga gw px) := HPS6.out.off ho hx rfl HG.out.1 HG.out.2.1.1
            clear e0 e1 e2 e3 e4 ei m0 m1 m2 mi hx ho HS HPS6 KO6
            go_wp2_with (fail)
            go_roundw
            case rel => exact ⟨k + 1, px, by omega, by go_num, HPS7⟩
            case measure => simp [intOf]; omega
      · by_cases h2 : kd = 2
        · subst h2
          clear HSET HAT HCK HFR HRT HR HO HPL HL0 HN HWB
          generalize hry : rb p = ry at *
          have HRY := Lib.hid hry
          clear hry
          cases ry with
          | false =>
            go_wp2_with (fail)
            go_roundw
            case rel => exact ⟨k + 1, px, by omega, by go_num, HPS6⟩
            case measure => simp [intOf]; omega
          | true =>
            rcases ten rl.length with t9 | ⟨t9, HRN⟩
            · go_wp2_with (fail)
              go_roundw
              case rel => exact ⟨k + 1, px, by omega, by go_num, HPS6⟩
              case measure => simp [intOf]; omega
            · go_wp2_with (fail)
              as_aux_lemma =>
                have HQ6 : Hid (QS w w6 W H N ba ga gw bo [.int .i64 2, .int .i64 x, .int .i64 y, .int .u32 (p : Nat), .slice AL rl.length cl] px px) := ⟨HPS6.out.xa, HPS6.out.xw, HPS6.out.ka, KO6.out, HPS6.out.hb⟩
                have HRS6 := Lib.hid HPS6.out.rs
                have hfl := fun w => HFILL.out px ga p AL rl cl w HPS6.out.rs.1 HP4.out HRY.out (by have := HRN.out; omega)
                have HFK : Hid (∀ k2, atI W (cov rl) k2 = cov rl (k2 % W : Nat) (k2 / W : Nat)) := fun _ => rfl
                obtain ⟨F, hF⟩ : ∃ F, atI W (cov rl) = F := ⟨_, rfl⟩
                rw [hF] at hfl HFK
                have HFL := Lib.hid hfl
                clear HFILL hfl hF e0 e1 e2 e3 e4 ei HPS6 KO6
                go_loopw [14, 130] (fun nv i wr => ∃ k2 n2 : Nat, k2 ≤ N ∧ n2 ≤ 400 ∧ i = .int .i64 k2 ∧ nv = .int .i64 n2 ∧ Hid (n2 = cnt F k2) ∧ Hid (QS w wr W H N ba ga gw bo [.int .i64 2, .int .i64 x, .int .i64 y, .int .u32 (p : Nat), .slice AL rl.length cl] px (paint (upTo F k2) p px))) (fun _ i _ => N - (intOf i).toNat)
                case atStart => exact ⟨0, 0, Nat.zero_le _, Nat.zero_le _, rfl, rfl, rfl, by rw [paint_up0]; exact HQ6⟩
                case round =>
                  obtain ⟨k2, n2, hk2, hn2, rfl, rfl, HN2, HQ⟩ := hrel
                  clear HQ6
                  by_cases hl2 : k2 < N
                  · have t2 : decide (k2 < N) = true := by simpa using hl2
                    obtain ⟨am, ad, ham, had, hq1, hq2, hq3, ham4, had4⟩ := rq (W := W) (show k2 ≤ 400 by omega)
                    have HFk := HFK.out k2
                    rw [← ham, ← had] at HFk
                    have HFKK := Lib.hid HFk
                    have HNW : ¬ W = 0 := by omega
                    have HL2 := Lib.hid hl2
                    clear HFk ham had hl2
                    go_wp2_with (fail)
                    go_quiet (fail)
                    obtain ⟨⟨e0, e1, e2, e3, e4⟩, -, ei⟩ := HQ.out.ko.c5
                    go_wp2_with (fail)
                    have HQ7 := Lib.hid (HQ.out.below (Below.drewN' (Below.refl _ _) nq))
                    clear HQ e0 e1 e2 e3 e4 ei hq1 hq2 hq3 HNW
                    generalize wr.drewN nq = w7 at *
                    go_loopw [18, 142] (fun hv i wr => ∃ k3 : Nat, k3 ≤ rl.length ∧ i = .int .i64 k3 ∧ hv = .bool (cov (rl.take k3) (am : Nat) (ad : Nat)) ∧ Hid (QS w wr W H N ba ga gw bo [.int .i64 2, .int .i64 x, .int .i64 y, .int .u32 (p : Nat), .slice AL rl.length cl] px (paint (upTo F k2) p px))) (fun _ i _ => rl.length - (intOf i).toNat)
                    case atStart => exact ⟨0, Nat.zero_le _, rfl, rfl, HQ7⟩
                    case round =>
                      obtain ⟨k3, hk3, rfl, rfl, HQ8⟩ := hrel
                      clear HQ7
                      by_cases hl3 : k3 < rl.length
                      · have t3 : decide (k3 < rl.length) = true := by simpa using hl3
                        obtain ⟨b3, off3, eA, d0, d1, d2, d3⟩ := BRow.at_ (BRow.below HQ0.out.row HQ8.out.hb) hl3
                        have hb3 : b3 < wr.heap.size := World.block_lt_of_cell? wr ⟨b3, _, none⟩ d0
                        have HCV := Lib.hid (cov_take hl3 (am : Nat) (ad : Nat))
                        have HL3 : Hid (k3 + 1 ≤ rl.length) := hl3
                        have HM3 : Hid (rl.length - (k3 + 1) < rl.length - k3) := by show _ < _; omega
                        subst eA
                        simp only at d0 d1 d2 d3 HCV
                        generalize rl[k3] = r at *
                        obtain ⟨ra, rb', rc, rd⟩ := r
                        simp only at d0 d1 d2 d3
                        have hx : Below wr.heap.size wr (wr.alloc (.cells #[.int .i64 ra, .int .i64 rb', .int .i64 rc, .int .i64 rd] 30)) := (Below.refl _ _).alloc (Nat.le_refl _) _
                        have HQ9 := Lib.hid (HQ8.out.below hx)
                        have KR : Hid (Blk (wr.alloc (.cells #[.int .i64 ra, .int .i64 rb', .int .i64 rc, .int .i64 rd] 30)) wr.heap.size [.int .i64 ra, .int .i64 rb', .int .i64 rc, .int .i64 rd]) := blk_new wr [.int .i64 ra, .int .i64 rb', .int .i64 rc, .int .i64 rd] _
                        have HNR := Lib.hid (fun w => near_any ⟨ra, rb', rc, rd⟩ w)
                        clear hx HQ8 hl3
                        go_wp2_with (fail)
                        generalize wr.alloc (.cells #[.int .i64 ra, .int .i64 rb', .int .i64 rc, .int .i64 rd] 30) = w9 at *
                        generalize wr.heap.size = br at *
                        clear d0 d1 d2 d3 hb3
                        refine (HNR.out _).mono ?_
                        rintro e w10 ⟨⟨nb, rfl⟩, hb⟩
                        have HQ10 := Lib.hid (HQ9.out.below hb)
                        have KR10 := Lib.hid (KR.out.below' hb)
                        clear hb HNR HQ9 KR
                        cases nb with
                        | false =>
                          go_wp2_with (fail)
                          refine (HAW.out _ HQ10.out.hb).mono ?_
                          rintro e w11 ⟨rfl, hb⟩
                          have HB11 := Lib.hid hb
                          clear hb
                          go_wp2_with (fail)
                          go_ret
                          exact ⟨rfl, HB11.out⟩
                        | true =>
                          obtain ⟨⟨e0, e1, e2, e3⟩, -, ei⟩ := KR10.out.c4
                          generalize cov (rl.take k3) (am : Nat) (ad : Nat) = cv at *
                          cases cv with
                          | true =>
                            go_wp2_with (fail)
                            go_roundw
                            case rel => exact ⟨k3 + 1, HL3.out, by go_num, by rw [HCV.out]; rfl, HQ10⟩
                            case measure => simp only [intOf]; exact HM3.out
                          | false =>
                            rcases has_ways ra rb' rc rd (am : Nat) (ad : Nat) with ⟨v1, v2, v3, v4, hh⟩ | ⟨v1, hh⟩ | ⟨v1, v2, hh⟩ | ⟨v1, v2, v3, hh⟩ | ⟨v1, v2, v3, v4, hh⟩
                            all_goals
                              go_wp2_with (fail)
                              go_roundw
                              case rel => exact ⟨k3 + 1, HL3.out, by go_num, by rw [HCV.out, Bool.false_or, hh.out], HQ10⟩
                              case measure => simp only [intOf]; exact HM3.out
                      · obtain rfl : k3 = rl.length := by omega
                        have t3 : decide (rl.length < rl.length) = false := by simp
                        have HCV : Hid (cov (rl.take rl.length) (am : Nat) (ad : Nat) = F k2) := by show _ = _; rw [List.take_length]; exact HFKK.out.symm
                        have HK1 : Hid (k2 + 1 ≤ N) := HL2.out
                        generalize cov (rl.take rl.length) (am : Nat) (ad : Nat) = cv at *
                        cases cv with
                        | true =>
                          have hjl : k2 < (paint (upTo F k2) p px).length := by rw [paint_len, HRS6.out.1]; exact HL2.out
                          obtain ⟨z, hc⟩ : ∃ z : Nat, wr.cell? ⟨gw, k2, none⟩ = some (.int .u32 (z : Nat)) := ⟨_, HQ8.out.xw.cell hjl⟩
                          have hf := HQ8.out.xw.free k2
                          have hgi := HQ8.out.xw.inside
                          have HQ9 : Hid (QS w (wr.setCell ⟨gw, k2, none⟩ (.int .u32 (p : Nat))) W H N ba ga gw bo [.int .i64 2, .int .i64 x, .int .i64 y, .int .u32 (p : Nat), .slice AL rl.length cl] px (paint (upTo F (k2 + 1)) p px)) := by rw [← paint_step_t p px HCV.out.symm]; exact HQ8.out.put hjl HG.out.1 HGO.out.2.1 HG.out.2.1.2
                          have HN3 : Hid (n2 + 1 = cnt F (k2 + 1)) := by show _ = cnt F k2 + (if F k2 = true then 1 else 0); rw [if_pos HCV.out.symm, HN2.out]
                          have HN4 : Hid (n2 + 1 ≤ 400) := by have h1 := HN3.out; have h2 := cnt_le F (k2 + 1); have h3 := HK1.out; show _ ≤ _; omega
                          obtain ⟨⟨e0, e1, e2, e3, e4⟩, -, ei⟩ := HQ8.out.ko.c5
                          clear HQ8 hjl
                          go_wp2_with (fail)
                          go_roundw
                          case rel => exact ⟨k2 + 1, n2 + 1, HK1.out, HN4.out, by go_num, by go_num, HN3, HQ9⟩
                          case measure => simp [intOf]; have := HK1.out; omega
                        | false =>
                          have HQ9 : Hid (QS w wr W H N ba ga gw bo [.int .i64 2, .int .i64 x, .int .i64 y, .int .u32 (p : Nat), .slice AL rl.length cl] px (paint (upTo F (k2 + 1)) p px)) := by rw [← paint_step_f p px HCV.out.symm]; exact HQ8.out
                          have HN3 : Hid (n2 = cnt F (k2 + 1)) := by show _ = cnt F k2 + (if F k2 = true then 1 else 0); rw [if_neg (by rw [← HCV.out]; decide), HN2.out, Nat.add_zero]
                          clear HQ8
                          go_wp2_with (fail)
                          go_roundw
                          case rel => exact ⟨k2 + 1, n2, HK1.out, hn2, by go_num, rfl, HN3, HQ9⟩
                          case measure => simp [intOf]; have := HK1.out; omega
                  · obtain rfl : k2 = N := by omega
                    have t2 : decide (k2 < k2) = false := by simp
                    rw [← HN2.out] at HFL
                    have HF5 := Lib.hid (HFL.out wr (BRow.below HQ0.out.row HQ.out.hb) HQ.out.xa)
                    obtain ⟨⟨m0, m1, m2⟩, -, mi⟩ := HQ.out.ka.c3
                    obtain ⟨⟨e0, e1, e2, e3, e4⟩, -, ei⟩ := HQ.out.ko.c5
                    go_wp2_with (fail)
                    refine HF5.out.mono ?_
                    rintro e w7 ⟨rfl, hx, ho⟩
                    have HPS7 := Lib.hid (HQ.out.fill HRS6.out hx ho HP4.out HRY.out HG.out.1 HG.out.2.1.1)
                    clear hx ho HF5 HQ m0 m1 m2 mi e0 e1 e2 e3 e4 ei
                    go_wp2_with (fail)
                    go_roundw
                    case rel => exact ⟨k + 1, _, by omega, by go_num, HPS7⟩
                    case measure => simp [intOf]; omega
        · have q1 : (kd == 1) = false := by simpa using h1
          have q2 : (kd == 2) = false := by simpa using h2
          clear h1 h2
          go_wp2_with (fail)
          go_roundw
          case rel => exact ⟨k + 1, px, by omega, by go_num, HPS6⟩
          case measure => simp [intOf]; omega
    · obtain rfl : k = l.length := by omega
      have t : decide (l.length < l.length) = false := by simp
      go_wp2_with (fail)
      as_aux_lemma =>
        clear HSET HFILL HFR HRT HR HO HPL HL0 HN
        go_loopw [21] (fun i wr2 => ∃ yy : Int, (-1 ≤ yy ∧ yy ≤ (H : Int) + 1) ∧ i = .int .i64 yy ∧ Hid (PS w wr2 W H N ba ga gw px)) (fun i _ => ((H : Int) + 1 - intOf i).toNat)
        case atStart => exact ⟨-1, by omega, rfl, HPS⟩
        case round =>
          obtain ⟨yy, hyy, rfl, HPS4⟩ := hrel
          clear HPS
          by_cases hly : yy ≤ (H : Int)
          · have u : decide (yy ≤ (H : Int)) = true := by simpa using hly
            have qy : wrap64 (yy + 1) = yy + 1 := IntWalk.wrap64_in _ (by omega)
            have hy1 : -1 ≤ yy + 1 ∧ yy + 1 ≤ (H : Int) + 1 := by omega
            have hym : ((H : Int) + 1 - (yy + 1)).toNat < ((H : Int) + 1 - yy).toNat := by omega
            have HY1 := Lib.hid hy1
            have HYM := Lib.hid hym
            clear hyy hly hy1 hym
            go_wp2_with (fail)
            go_loopw [22] (fun i wr2 => ∃ xx : Int, (-1 ≤ xx ∧ xx ≤ (W : Int) + 1) ∧ i = .int .i64 xx ∧ Hid (PS w wr2 W H N ba ga gw px)) (fun i _ => ((W : Int) + 1 - intOf i).toNat)
            case atStart => exact ⟨-1, by omega, rfl, HPS4⟩
            case round =>
              obtain ⟨xx, hxx, rfl, HPS5⟩ := hrel
              clear HPS4
              by_cases hlx : xx ≤ (W : Int)
              · have ux : decide (xx ≤ (W : Int)) = true := by simpa using hlx
                have qx : wrap64 (xx + 1) = xx + 1 := IntWalk.wrap64_in _ (by omega)
                have hx1 : -1 ≤ xx + 1 ∧ xx + 1 ≤ (W : Int) + 1 := by omega
                have hxm : ((W : Int) + 1 - (xx + 1)).toNat < ((W : Int) + 1 - xx).toNat := by omega
                have HX1 := Lib.hid hx1
                have HXM := Lib.hid hxm
                clear hxx hlx hx1 hxm
                have HA := Lib.hid (HAT.out px ga xx yy _ HPS5.out.rs.1 HPS5.out.xa)
                have HPX : Hid (pixAt (W : Nat) (H : Nat) px xx yy = if inB (W : Nat) (H : Nat) xx yy = true then px.getD (yy * (W : Nat) + xx).toNat 0 else 0) := rfl
                obtain ⟨⟨m0, m1, m2⟩, -, mi⟩ := HPS5.out.ka.c3
                go_upto_region 46 with (fail)
                go_cut [219] (fun u wx => u = .bool (inB (W : Nat) (H : Nat) xx yy) ∧ wx = wr)
                case first =>
                  clear HA HPX HX1 HXM HY1 HYM
                  by_cases hin : inB (W : Nat) (H : Nat) xx yy = true
                  · obtain ⟨jy, j, u1, u2, u3, u4, -, -, -, -⟩ := in_facts2 hW.2 HWB.out hin
                    have HIN := Lib.hid hin
                    clear hin
                    go_wp2_with (fail)
                    go_meet
                    case rel => exact ⟨congrArg Value.bool HIN.out.symm, rfl⟩
                  · have hin' : inB (W : Nat) (H : Nat) xx yy = false := by simpa using hin
                    have hw := out_ways hin
                    have HIN := Lib.hid hin'
                    clear hin hin'
                    rcases hw with u1 | ⟨u1, u2⟩ | ⟨u1, u2, u3⟩ | ⟨u1, u2, u3, u4⟩
                    all_goals
                      go_wp2_with (fail)
                      go_meet
                      case rel => exact ⟨congrArg Value.bool HIN.out.symm, rfl⟩
                case rest =>
                obtain ⟨rfl, rfl⟩ := hcut
                by_cases hin : inB (W : Nat) (H : Nat) xx yy = true
                · rw [if_pos hin] at HPX
                  obtain ⟨jy, j, u1, u2, u3, u4, qa, qb, hjN, hje⟩ := in_facts2 hW.2 HWB.out hin
                  have tj : decide (j < N) = true := by simpa using hjN
                  have hgi := HPS5.out.xw.inside
                  obtain ⟨z, hz, hc⟩ : ∃ z : Nat, pixAt (W : Nat) (H : Nat) px xx yy = z ∧ wc.cell? ⟨gw, j, none⟩ = some (.int .u32 (z : Nat)) := by
                    have hjl : j < px.length := by rw [HPS5.out.rs.1]; exact hjN
                    refine ⟨px[j], ?_, HPS5.out.xw.cell hjl⟩
                    rw [HPX.out, hje, List.getD_eq_getElem?_getD, List.getElem?_eq_getElem hjl]
                    rfl
                  rw [hz] at HA
                  rw [hin]
                  clear hin hje hz HPX hjN
                  go_wp2_with (fail)
                  case isFalse h => exact absurd (of_decide_eq_true tj) h
                  refine HA.out.mono ?_
                  rintro e w6 ⟨rfl, hb⟩
                  have HPS6 := Lib.hid (HPS5.out.below hb)
                  clear hb HA HPS5 m0 m1 m2 mi hc hgi
                  go_wp2_with (fail)
                  go_roundw
                  case rel => exact ⟨xx + 1, HX1.out, by first | rfl | rw [qx], HPS6⟩
                  case measure => simp only [intOf]; first | exact HXM.out | (rw [qx]; exact HXM.out)
                · rw [if_neg hin] at HPX
                  have hin' : inB (W : Nat) (H : Nat) xx yy = false := by simpa using hin
                  rw [HPX.out] at HA
                  rw [hin']
                  clear hin hin' HPX
                  go_wp2_with (fail)
                  refine HA.out.mono ?_
                  rintro e w6 ⟨rfl, hb⟩
                  have HPS6 := Lib.hid (HPS5.out.below hb)
                  clear hb HA HPS5 m0 m1 m2 mi
                  go_wp2_with (fail)
                  go_roundw
                  case rel => exact ⟨xx + 1, HX1.out, by first | rfl | rw [qx], HPS6⟩
                  case measure => simp only [intOf]; first | exact HXM.out | (rw [qx]; exact HXM.out)
              · have ux : decide (xx ≤ (W : Int)) = false := by simpa using hlx
                clear hxx hlx
                go_wp2_with (fail)
                go_roundw
                case rel => exact ⟨yy + 1, HY1.out, by first | rfl | rw [qy], HPS5⟩
                case measure => simp only [intOf]; first | exact HYM.out | (rw [qy]; exact HYM.out)
          · have u : decide (yy ≤ (H : Int)) = false := by simpa using hly
            clear hyy hly
            obtain ⟨⟨m0, m1, m2⟩, -, mi⟩ := HPS4.out.ka.c3
            go_wp2_with (fail)
            refine (HCK.out px ga _ HPS4.out.rs HPS4.out.xa).mono ?_
            rintro e w7 ⟨rfl, hb⟩
            have HB7 : Hid (Below w.heap.size w w7) := HPS4.out.hb.trans (hb.mono HPS4.out.hb.size)
            clear hb m0 m1 m2 mi HPS4
            go_wp2_with (fail)
            refine (HAW.out _ HB7.out).mono ?_
            rintro e w8 ⟨rfl, hb⟩
            have HB8 := Lib.hid hb
            clear hb
            go_wp2_with (fail)
            go_ret
            exact ⟨rfl, HB8.out⟩
set_option maxRecDepth 100000 in
theorem plays_all (u v : Int) (A : Option Addr) (l : List Cl) (c : Nat) (w : World) (_ : -9223372036854775808 ≤ u) (_ : u ≤ 9223372036854775807) (_ : -9223372036854775808 ≤ v) (_ : v ≤ 9223372036854775807) (hr : ClRow w A l) (ho : ∀ x ∈ l, x.ok w) (hn : l.length ≤ 9223372036854775807) (ht : crcs.TabAt w) :
    Calls Tryd.prog 4 #[.int .i64 u, .int .i64 v, .slice A l.length c] w fun e w' => e = .returned (.bool true) ∧ Below w.heap.size w w' := by
  by_cases h : 1 ≤ u ∧ 1 ≤ v ∧ u ≤ 20 ∧ v ≤ 20 ∧ l.length ≤ 30
  · obtain ⟨W, rfl⟩ := Int.eq_ofNat_of_zero_le (show 0 ≤ u by omega)
    obtain ⟨H, rfl⟩ := Int.eq_ofNat_of_zero_le (show 0 ≤ v by omega)
    exact plays_core W H (by omega) (by omega) A l c w hr ho (by omega) ht
  · have HAW := Lib.hid (awk ht)
    clear ht hr ho
    have hh : (decide (u < 1) = true) ∨ (decide (u < 1) = false ∧ decide (v < 1) = true) ∨ (decide (u < 1) = false ∧ decide (v < 1) = false ∧ decide (20 < u) = true) ∨ (decide (u < 1) = false ∧ decide (v < 1) = false ∧ decide (20 < u) = false ∧ decide (20 < v) = true) ∨
        (decide (u < 1) = false ∧ decide (v < 1) = false ∧ decide (20 < u) = false ∧ decide (20 < v) = false ∧ decide ((30 : Int) < (l.length : Int)) = true) := by
      simp only [decide_eq_true_eq, decide_eq_false_iff_not]
      omega
    clear h
    rcases hh with t1 | ⟨t1, t2⟩ | ⟨t1, t2, t3⟩ | ⟨t1, t2, t3, t4⟩ | ⟨t1, t2, t3, t4, t5⟩
    all_goals
      go_enter Tryd.func4, Tryd.ntmps4
      go_wp2_with (fail)
      refine (HAW.out _ (Below.refl _ _)).mono ?_
      rintro e w2 ⟨rfl, hb⟩
      have HB2 := Lib.hid hb
      clear hb
      go_wp2_with (fail)
      go_ret
      exact ⟨rfl, HB2.out⟩
end Go.Proofs.YtboelbmpcbeifaaDoor
