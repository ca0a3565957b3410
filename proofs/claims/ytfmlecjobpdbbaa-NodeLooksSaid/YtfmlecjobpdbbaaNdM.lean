/-
  Layer 11: the document's size and colours of a look; the law's clip.
-/
import Derived.Test.YtfmlecjobpdbbaaNdF
import Derived.Deep.Grids
import Derived.Deep.DeepCutAuto
import Derived.Deep.CutBlock
namespace Go.Proofs.Ytfmlecjobpdbbaa
open Go.RowKit pxm imm

def dszW (k W iw : Int) : Int := if k = 2 then iw else W
def dAt (k W H : Int) (p : Nat) (iw ih : Int) (l : List Nat) (x y : Int) : Nat := if inB (dszW k W iw) (dszW k H ih) x y = true then (if k = 2 then l.getD (y * iw + x).toNat 0 else p) else 0
set_option maxHeartbeats 2000000 in
theorem dsize_any (m : Mp) (op : Int) (hi cl : Bool) (r : Bx) (k W H : Int) (p : Nat) (iw ih : Int) (A : Option Addr) (n c : Nat) (w : World) : Calls Try.prog 13 #[ndV m op hi cl r k W H p iw ih A n c] w fun e w' => e = .returned (.tuple #[.int .i64 (dszW k W iw), .int .i64 (dszW k H ih)]) ∧ Below w.heap.size w w' := by
  have H1 : Hid (dszW k W iw = if k = 2 then iw else W) := rfl
  have H2 : Hid (dszW k H ih = if k = 2 then ih else H) := rfl
  generalize dszW k W iw = X at *
  generalize dszW k H ih = Y at *
  unfold ndV
  obtain ⟨ma, mb, mc, md, me, mf⟩ := m
  obtain ⟨x0, y0, x1, y1⟩ := r
  simp only
  by_cases k1 : k = 2
  · subst k1
    obtain rfl := H1.out.trans (if_pos rfl)
    obtain rfl := H2.out.trans (if_pos rfl)
    clear H1 H2
    go_enter Try.func13, Try.ntmps13
    go_wp2_with (fail)
    go_quiet (fail)
    go_wp2_with (fail)
    go_ret2
    exact ⟨rfl, ((Below.refl _ _).alloc (Nat.le_refl _) _).trans (Drew.below ⟨_, rfl⟩ _)⟩
  · have q1 : (k == 2) = false := by simp; omega
    obtain rfl := H1.out.trans (if_neg k1)
    obtain rfl := H2.out.trans (if_neg k1)
    clear H1 H2 k1
    go_enter Try.func13, Try.ntmps13
    go_wp2_with (fail)
    go_quiet (fail)
    go_wp2_with (fail)
    go_ret2
    exact ⟨rfl, ((Below.refl _ _).alloc (Nat.le_refl _) _).trans (Drew.below ⟨_, rfl⟩ _)⟩
set_option maxHeartbeats 4000000 in
set_option maxRecDepth 100000 in
theorem dat_any (m : Mp) (op : Int) (hi cl : Bool) (r : Bx) (k W H : Int) (p : Nat) (iw ih : Int) (A : Option Addr) (l : List Nat) (c : Nat) (x y : Int) (hk : k = 2 → wholeB iw ih l.length = true) (hn : l.length ≤ maxLen) (w : World) (hr : Row eW w A l) :
    Calls Try.prog 15 #[ndV m op hi cl r k W H p iw ih A l.length c, .int .i64 x, .int .i64 y] w fun e w' => e = .returned (.int .u32 (dAt k W H p iw ih l x y : Nat)) ∧ Below w.heap.size w w' := by
  have HR := Lib.hid hr
  have HS := Lib.hid (fun w => dsize_any m op hi cl r k W H p iw ih A l.length c w)
  have HA : Hid (dAt k W H p iw ih l x y = if inB (dszW k W iw) (dszW k H ih) x y = true then (if k = 2 then l.getD (y * iw + x).toNat 0 else p) else 0) := rfl
  have HN : Hid (inB (dszW k W iw) (dszW k H ih) x y = true ↔ 0 ≤ x ∧ x < dszW k W iw ∧ 0 ≤ y ∧ y < dszW k H ih) := inB_iff
  have HD1 : Hid (k = 2 → dszW k W iw = iw) := fun h => if_pos h
  have HD2 : Hid (k = 2 → dszW k H ih = ih) := fun h => if_pos h
  have HP := Lib.hid (fun (h : k = 2) (hi : inB iw ih x y = true) => place_in (hk h) hi)
  have hn3 : l.length ≤ 9223372036854775807 := by unfold maxLen at hn; omega
  have HI2 : Hid (∀ X Y, X = iw → Y = ih → inB X Y x y = inB iw ih x y) := fun X Y h1 h2 => by rw [h1, h2]
  clear hr hk hn
  generalize dAt k W H p iw ih l x y = R at *
  obtain ⟨b, hb⟩ : ∃ b, inB (dszW k W iw) (dszW k H ih) x y = b := ⟨_, rfl⟩
  rw [hb] at HA HN
  have HIB := Lib.hid hb
  clear hb
  generalize dszW k W iw = X at *
  generalize dszW k H ih = Y at *
  unfold ndV at *
  obtain ⟨ma, mb, mc, md, me, mf⟩ := m
  obtain ⟨x0, y0, x1, y1⟩ := r
  simp only at HS ⊢
  have HB0 : Hid (Below w.heap.size w (w.alloc (.cells #[.int .i64 ma, .int .i64 mb, .int .i64 mc, .int .i64 md, .int .i64 me, .int .i64 mf, .int .i64 op, .bool hi, .bool cl, .int .i64 x0, .int .i64 y0, .int .i64 x1, .int .i64 y1, .int .i64 k, .int .i64 W, .int .i64 H, .int .u32 (p : Nat), .int .i64 iw, .int .i64 ih, .slice A l.length c] 46))) := (Below.refl _ _).alloc (Nat.le_refl _) _
  have HK0 : Hid (Blk (w.alloc (.cells #[.int .i64 ma, .int .i64 mb, .int .i64 mc, .int .i64 md, .int .i64 me, .int .i64 mf, .int .i64 op, .bool hi, .bool cl, .int .i64 x0, .int .i64 y0, .int .i64 x1, .int .i64 y1, .int .i64 k, .int .i64 W, .int .i64 H, .int .u32 (p : Nat), .int .i64 iw, .int .i64 ih, .slice A l.length c] 46)) w.heap.size [.int .i64 ma, .int .i64 mb, .int .i64 mc, .int .i64 md, .int .i64 me, .int .i64 mf, .int .i64 op, .bool hi, .bool cl, .int .i64 x0, .int .i64 y0, .int .i64 x1, .int .i64 y1, .int .i64 k, .int .i64 W, .int .i64 H, .int .u32 (p : Nat), .int .i64 iw, .int .i64 ih, .slice A l.length c]) := blk_new w [.int .i64 ma, .int .i64 mb, .int .i64 mc, .int .i64 md, .int .i64 me, .int .i64 mf, .int .i64 op, .bool hi, .bool cl, .int .i64 x0, .int .i64 y0, .int .i64 x1, .int .i64 y1, .int .i64 k, .int .i64 W, .int .i64 H, .int .u32 (p : Nat), .int .i64 iw, .int .i64 ih, .slice A l.length c] _
  go_enter Try.func15, Try.ntmps15
  go_wp2_with (first | (with_reducible show wpList _ _ _ (Oper.mk _ (Op.load _ _) _ _ _ _ :: _) _ _; first | (refine wpl_take 46 _ rfl rfl _ 0 rfl _ HK0.out [.int .i64 ma, .int .i64 mb, .int .i64 mc, .int .i64 md, .int .i64 me, .int .i64 mf, .int .i64 op, .bool hi, .bool cl, .int .i64 x0, .int .i64 y0, .int .i64 x1, .int .i64 y1, .int .i64 k, .int .i64 W, .int .i64 H, .int .u32 (p : Nat), .int .i64 iw, .int .i64 ih, .slice A l.length c] rfl _ Try.underlying46 rfl (by kernel_rfl) ?_)))
  refine (HS.out _).mono ?_
  rintro e w1 ⟨rfl, hb⟩
  have HB : Hid (Below w.heap.size w w1) := bel2 HB0.out hb
  have HK := Lib.hid (HK0.out.below' hb)
  clear hb HS HB0 HK0
  have c13 : w1.cell? ⟨w.heap.size, 13, none⟩ = some (.int .i64 k) := HK.out.cell 13
  have c16 : w1.cell? ⟨w.heap.size, 16, none⟩ = some (.int .u32 (p : Nat)) := HK.out.cell 16
  have c19 : w1.cell? ⟨w.heap.size, 19, none⟩ = some (.slice A l.length c) := HK.out.cell 19
  have hlt := HK.out.inside
  by_cases t0 : x < 0
  · have t : decide (x < 0) = true := by simpa using t0
    have HF : Hid (b = false) := by
      cases b with
      | false => exact rfl
      | true => exact absurd (HN.out.1 rfl) (by omega)
    clear t0
    rw [HF.out] at HA
    clear HN HD1 HD2 HP HI2 HIB
    go_wp2_with (fail)
    go_ret
    exact ⟨ret_num (by rw [HA.out]; rfl), HB.out⟩
  · have s1 : decide (x < 0) = false := by simpa using t0
    by_cases t1 : y < 0
    · have t : decide (y < 0) = true := by simpa using t1
      have HF : Hid (b = false) := by
        cases b with
        | false => exact rfl
        | true => exact absurd (HN.out.1 rfl) (by omega)
      clear t0 t1
      rw [HF.out] at HA
      clear HN HD1 HD2 HP HI2 HIB
      go_wp2_with (fail)
      go_ret
      exact ⟨ret_num (by rw [HA.out]; rfl), HB.out⟩
    · have s2 : decide (y < 0) = false := by simpa using t1
      by_cases t2 : X ≤ x
      · have t : decide (X ≤ x) = true := by simpa using t2
        have HF : Hid (b = false) := by
          cases b with
          | false => exact rfl
          | true => exact absurd (HN.out.1 rfl) (by omega)
        clear t0 t1 t2
        rw [HF.out] at HA
        clear HN HD1 HD2 HP HI2 HIB
        go_wp2_with (fail)
        go_ret
        exact ⟨ret_num (by rw [HA.out]; rfl), HB.out⟩
      · have s3 : decide (X ≤ x) = false := by simpa using t2
        by_cases t3 : Y ≤ y
        · have t : decide (Y ≤ y) = true := by simpa using t3
          have HF : Hid (b = false) := by
            cases b with
            | false => exact rfl
            | true => exact absurd (HN.out.1 rfl) (by omega)
          clear t0 t1 t2 t3
          rw [HF.out] at HA
          clear HN HD1 HD2 HP HI2 HIB
          go_wp2_with (fail)
          go_ret
          exact ⟨ret_num (by rw [HA.out]; rfl), HB.out⟩
        · have s4 : decide (Y ≤ y) = false := by simpa using t3
          have HT : Hid (b = true) := HN.out.2 (by omega)
          clear t0 t1 t2 t3
          rw [HT.out] at HA HIB
          have HA2 := Lib.hid (HA.out.trans (if_pos rfl))
          clear HN HA HT
          by_cases k2 : k = 2
          · obtain rfl := HD1.out k2
            obtain rfl := HD2.out k2
            obtain ⟨p1, p2, p3, p4⟩ := HP.out k2 HIB.out
            have HA3 := Lib.hid (HA2.out.trans (if_pos k2))
            obtain ⟨j, hj⟩ : ∃ j : Nat, y * X + x = (j : Nat) := ⟨(y * X + x).toNat, by omega⟩
            have hjl : j < l.length := by rw [hj] at p2; omega
            have q : wrap64 (wrap64 (y * X) + x) = (j : Nat) := by rw [IntWalk.wrap64_in (y * X) (by omega), IntWalk.wrap64_in _ (by omega)]; exact hj
            have HA4 : Hid (R = l[j]) := by
              have h2 := HA3.out
              rw [hj, Int.toNat_natCast] at h2
              exact h2.trans (by simp [hjl])
            obtain ⟨bb, off, eA, hc⟩ := (HR.out.below HB.out).at_ hjl
            subst eA
            have t : decide (j < l.length) = true := by simpa using hjl
            have q2 : (k == 2) = true := by simp; omega
            clear HD1 HD2 HP HI2 HIB HA2 HA3 hj p1 p2 p3 p4 HR k2
            generalize l[j] = z at *
            unfold eW at hc
            go_wp2_with (fail)
            go_ret
            exact ⟨ret_num (by rw [HA4.out]), HB.out⟩
          · have q2 : (k == 2) = false := by simp; omega
            have HA3 := Lib.hid (HA2.out.trans (if_neg k2))
            clear HD1 HD2 HP HI2 HIB HA2 k2
            go_wp2_with (fail)
            go_ret
            exact ⟨ret_num (by rw [HA3.out]), HB.out⟩
set_option maxHeartbeats 1000000 in
theorem clip_any (x0 y0 x1 y1 : Int) (w : World) : Calls Try.prog 20 #[.agg #[.int .i64 x0, .int .i64 y0, .int .i64 x1, .int .i64 y1]] w fun e w' => e = .returned (Bx.v ⟨x0, y0, x1, y1⟩) ∧ Below w.heap.size w w' := by
  unfold Bx.v
  simp only
  go_enter Try.func20, Try.ntmps20
  go_wp2_with (fail)
  exact blk_ret rfl rfl (blk_at (w.alloc _) _ (by simp) [.int .i64 x0, .int .i64 y0, .int .i64 x1, .int .i64 y1] _) Try.underlying25 rfl (by kernel_rfl) ⟨rfl, ((Below.refl _ _).alloc (Nat.le_refl _) _).alloc (by simp) _⟩
end Go.Proofs.Ytfmlecjobpdbbaa
