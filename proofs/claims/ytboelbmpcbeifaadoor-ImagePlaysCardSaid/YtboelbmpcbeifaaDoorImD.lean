/-
  Layer 10: images: a rectangle of pixels is laid.
-/
import Derived.Test.YtboelbmpcbeifaaDoorImC
namespace Go.Proofs.YtboelbmpcbeifaaDoor
open Go.RowKit pxm imm

theorem Row.of_px {w : World} {g : Nat} {l : List Nat} (h : Px w g l) : Row eW w (some ⟨g, 0, none⟩) l := h.row
theorem bxN_v (a b c d : Nat) : Bx.v ⟨(a : Nat), (b : Nat), (c : Nat), (d : Nat)⟩ = .agg #[.int .i64 (a : Nat), .int .i64 (b : Nat), .int .i64 (c : Nat), .int .i64 (d : Nat)] := rfl
theorem line_in {W H n y a c d : Nat} (hn : n = W * H) (hac : a < c) (hcW : c ≤ W) (hy : y < d) (hd : d ≤ H) : y * W + a < y * W + c ∧ y * W + c ≤ n := by
  have e : (y + 1) * W ≤ H * W := Nat.mul_le_mul_right W (by omega)
  rw [Nat.add_mul, Nat.one_mul, Nat.mul_comm H W, ← hn] at e
  omega
set_option maxHeartbeats 2000000 in
set_option maxRecDepth 100000 in
theorem lay_any (W H a b c d : Nat) (g : Nat) (l : List Nat) (cap p : Nat) (hn : l.length = W * H) (hcap : l.length ≤ cap) (hcm : cap ≤ maxLen) (hW : 0 < W) (hW2 : W ≤ 4096) (hH : H ≤ 4096) (hac : a < c) (hcW : c ≤ W) (hbd : b ≤ d) (hdH : d ≤ H) (w : World) (hx : Px w g l) :
    Calls Tryd.prog 32 #[imV (W : Nat) (H : Nat) (some ⟨g, 0, none⟩) l.length cap, .int .u32 (p : Nat), .agg #[.int .i64 (a : Nat), .int .i64 (b : Nat), .int .i64 (c : Nat), .int .i64 (d : Nat)]] w
      fun e w' => e = .returned (.tuple #[]) ∧ Px w' g (paint (rin W a b c d) p l) ∧ Off [g] w w' := by
  have HL := Lib.hid (fun y (hy : y < d) => line_in (W := W) (H := H) (a := a) hn hac hcW hy hdH)
  have HR := Lib.hid (fun y (hy : b ≤ y) (j : Nat) => rin_row (W := W) (a := a) (j := j) hW hcW hy)
  have hl9 : l.length ≤ 16777216 := by rw [hn]; exact Nat.mul_le_mul hW2 hH
  have hcm : cap ≤ 9223372036854775807 := by unfold maxLen at hcm; omega
  have hgi := hx.inside
  have hgne : w.heap.size ≠ g := Nat.ne_of_gt hgi
  have hgne2 : w.heap.size + 1 ≠ g := by omega
  have HX0 := Lib.hid hx
  have HN := Lib.hid hn
  clear hx hn
  have hd4 : d ≤ 4096 := by omega
  have hc4 : c ≤ 4096 := by omega
  clear hH hdH
  unfold imV
  go_enter Tryd.func32, Tryd.ntmps32
  go_wp2_with (fail)
  have H0 : Hid (Px ((w.alloc (.cells #[.int .i64 (W : Nat), .int .i64 (H : Nat), .slice (some ⟨g, 0, none⟩) l.length cap] 24)).alloc (.cells #[.int .i64 (a : Nat), .int .i64 (b : Nat), .int .i64 (c : Nat), .int .i64 (d : Nat)] 30)) g l) := HX0.out.below (((Below.refl _ _).alloc (Nat.le_refl _) _).alloc (by simp) _)
  have H1 : Hid (Off [g] w ((w.alloc (.cells #[.int .i64 (W : Nat), .int .i64 (H : Nat), .slice (some ⟨g, 0, none⟩) l.length cap] 24)).alloc (.cells #[.int .i64 (a : Nat), .int .i64 (b : Nat), .int .i64 (c : Nat), .int .i64 (d : Nat)] 30))) := Off.of_below (((Below.refl _ _).alloc (Nat.le_refl _) _).alloc (by simp) _)
  have H2 : Hid (Blk ((w.alloc (.cells #[.int .i64 (W : Nat), .int .i64 (H : Nat), .slice (some ⟨g, 0, none⟩) l.length cap] 24)).alloc (.cells #[.int .i64 (a : Nat), .int .i64 (b : Nat), .int .i64 (c : Nat), .int .i64 (d : Nat)] 30)) w.heap.size [.int .i64 (W : Nat), .int .i64 (H : Nat), .slice (some ⟨g, 0, none⟩) l.length cap]) := (blk_new w [.int .i64 (W : Nat), .int .i64 (H : Nat), .slice (some ⟨g, 0, none⟩) l.length cap] _).alloc _
  have H3 : Hid (Blk ((w.alloc (.cells #[.int .i64 (W : Nat), .int .i64 (H : Nat), .slice (some ⟨g, 0, none⟩) l.length cap] 24)).alloc (.cells #[.int .i64 (a : Nat), .int .i64 (b : Nat), .int .i64 (c : Nat), .int .i64 (d : Nat)] 30)) (w.heap.size + 1) [.int .i64 (a : Nat), .int .i64 (b : Nat), .int .i64 (c : Nat), .int .i64 (d : Nat)]) := blk_at (w.alloc _) _ (by simp) [.int .i64 (a : Nat), .int .i64 (b : Nat), .int .i64 (c : Nat), .int .i64 (d : Nat)] _
  clear HX0
  generalize ((w.alloc (.cells #[.int .i64 (W : Nat), .int .i64 (H : Nat), .slice (some ⟨g, 0, none⟩) l.length cap] 24)).alloc (.cells #[.int .i64 (a : Nat), .int .i64 (b : Nat), .int .i64 (c : Nat), .int .i64 (d : Nat)] 30)) = wz at *
  go_loopw [6] (fun i wr => ∃ y : Nat, b ≤ y ∧ y ≤ d ∧ i = .int .i64 y ∧ Hid (Px wr g (paint (rin W a b c y) p l)) ∧ Hid (Off [g] w wr) ∧ Hid (Blk wr w.heap.size [.int .i64 (W : Nat), .int .i64 (H : Nat), .slice (some ⟨g, 0, none⟩) l.length cap]) ∧ Hid (Blk wr (w.heap.size + 1) [.int .i64 (a : Nat), .int .i64 (b : Nat), .int .i64 (c : Nat), .int .i64 (d : Nat)])) (fun i _ => d - (intOf i).toNat)
  case atStart =>
    refine ⟨b, Nat.le_refl _, hbd, rfl, ?_, H1.out, H2.out, H3.out⟩
    rw [paint_none p l (fun j _ => by unfold rin; rw [Bool.and_eq_false_iff]; right; rw [Bool.and_eq_false_iff, decide_eq_false_iff_not, decide_eq_false_iff_not]; omega)]
    exact H0.out
  case round =>
    obtain ⟨y, hby, hyd, rfl, HP, HO, HM, HD⟩ := hrel
    obtain ⟨⟨c0, c1, c2⟩, -, ci⟩ := HM.out.c3
    obtain ⟨⟨d0, d1, d2, d3⟩, -, di⟩ := Blk.c4 HD.out
    by_cases hlt : y < d
    · obtain ⟨l1, l2⟩ := HL.out y hlt
      have t : decide (y < d) = true := by simpa using hlt
      obtain ⟨z, hz⟩ : ∃ z, y * W = z := ⟨_, rfl⟩
      have e0 : (y : Int) * (W : Int) = (z : Nat) := by rw [← hz]; simp
      have HRY := Lib.hid (HR.out y hby)
      rw [hz] at l1 l2 HRY
      have HZ := Lib.hid hz
      have l3 : ¬ cap = z + a := by omega
      obtain ⟨m, hm⟩ : ∃ m, z + c - (z + a) = m := ⟨_, rfl⟩
      obtain ⟨q, hq⟩ : ∃ q, z + a = q := ⟨_, rfl⟩
      have HMQ : Hid (z + c = q + m) := by show _ = _; omega
      have HQ : Hid (z + a = q) := hq
      have hqm : q + m ≤ l.length := by omega
      clear hz HL HR hq
      go_wp2_with (fail)
      go_loopw [36] (fun i wr => ∃ k : Nat, k ≤ m ∧ i = .int .i64 k ∧ Hid (Px wr g (paint (fun j => rin W a b c y j || (decide (q ≤ j) && decide (j < q + k))) p l)) ∧ Hid (Off [g] w wr) ∧ Hid (Blk wr w.heap.size [.int .i64 (W : Nat), .int .i64 (H : Nat), .slice (some ⟨g, 0, none⟩) l.length cap]) ∧ Hid (Blk wr (w.heap.size + 1) [.int .i64 (a : Nat), .int .i64 (b : Nat), .int .i64 (c : Nat), .int .i64 (d : Nat)])) (fun i _ => m - (intOf i).toNat)
      case atStart =>
        refine ⟨0, Nat.zero_le _, rfl, ?_, HO.out, HM.out, HD.out⟩
        rw [paint_congr (G := rin W a b c y) p l (fun j _ => by rw [show (decide (q ≤ j) && decide (j < q + 0)) = false by rw [Bool.and_eq_false_iff, decide_eq_false_iff_not, decide_eq_false_iff_not]; omega]; exact Bool.or_false _)]
        exact HP.out
      case round =>
        clear c0 c1 c2 ci d0 d1 d2 d3 di HP HO HM HD
        obtain ⟨k, hk, rfl, HP, HO, HM, HD⟩ := hrel
        by_cases hkm : k < m
        · have t2 : decide (k < m) = true := by simpa using hkm
          have hlen : q + k < (paint (fun j => rin W a b c y j || (decide (q ≤ j) && decide (j < q + k))) p l).length := by rw [paint_len]; omega
          have hc : wr.cell? ⟨g, z + a + k, none⟩ = some (.int .u32 ((paint (fun j => rin W a b c y j || (decide (q ≤ j) && decide (j < q + k))) p l)[q + k] : Nat)) := by rw [HQ.out]; exact HP.out.cell hlen
          have hf : wr.frozen? ⟨g, z + a + k, none⟩ = false := HP.out.free _
          have hgi2 := HP.out.inside
          have HP2 : Hid (Px (wr.setCell ⟨g, z + a + k, none⟩ (.int .u32 (p : Nat))) g (paint (fun j => rin W a b c y j || (decide (q ≤ j) && decide (j < q + (k + 1)))) p l)) := by
            rw [HQ.out]
            have h := HP.out.set hlen p
            rw [paint_set, paint_congr (G := fun j => rin W a b c y j || (decide (q ≤ j) && decide (j < q + (k + 1)))) p l] at h
            · exact h
            · intro j _
              rw [Bool.or_assoc]
              congr 1
              rw [Bool.eq_iff_iff]
              simp only [Bool.or_eq_true, Bool.and_eq_true, decide_eq_true_eq]
              omega
          have HO2 : Hid (Off [g] w (wr.setCell ⟨g, z + a + k, none⟩ (.int .u32 (p : Nat)))) := HO.out.trans (Off.set (S := [g]) (g := g) (by simp) _ _)
          have HM2 := Lib.hid (HM.out.other hgne (z + a + k) (.int .u32 (p : Nat)))
          have HD2 := Lib.hid (HD.out.other hgne2 (z + a + k) (.int .u32 (p : Nat)))
          generalize (paint (fun j => rin W a b c y j || (decide (q ≤ j) && decide (j < q + k))) p l)[q + k] = u at hc
          clear HP HO HM HD hlen
          go_wp2_with (fail)
          go_roundw
          case rel => exact ⟨k + 1, by omega, by go_num, HP2, HO2, HM2, HD2⟩
          case measure => simp [intOf]; omega
        · obtain rfl : k = m := by omega
          have t2 : decide (k < k) = false := by simp
          have HP2 : Hid (Px wr g (paint (rin W a b c (y + 1)) p l)) := by
            rw [paint_congr (G := rin W a b c (y + 1)) p l (fun j _ => by rw [HRY.out j, HQ.out, HMQ.out])] at HP
            exact HP.out
          clear HP
          go_wp2_with (fail)
          go_roundw
          case rel => exact ⟨y + 1, by omega, by omega, by go_num, HP2, HO, HM, HD⟩
          case measure => simp [intOf]; omega
    · obtain rfl : y = d := by omega
      have t : decide (y < y) = false := by simp
      go_wp2_with (fail)
      go_end0
      exact ⟨rfl, HP.out, HO.out⟩
end Go.Proofs.YtboelbmpcbeifaaDoor
