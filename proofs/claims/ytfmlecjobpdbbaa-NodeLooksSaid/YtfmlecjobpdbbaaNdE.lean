/-
  Layer 11: a look's Size, At; looks of sides and a colour, of an image; copies; looks compared.
-/
import Derived.Test.YtfmlecjobpdbbaaNdD
namespace Go.Proofs.Ytfmlecjobpdbbaa
open Go.RowKit pxm imm

def szW (k W iw : Int) : Int := if k = 1 then W else if k = 2 then iw else 0
set_option maxHeartbeats 1000000 in
theorem size_any (k W H : Int) (p : Nat) (iw ih : Int) (A : Option Addr) (n c : Nat) (w : World) : Calls Try.prog 12 #[lkV k W H p iw ih A n c] w fun e w' => e = .returned (.tuple #[.int .i64 (szW k W iw), .int .i64 (szW k H ih)]) ∧ Below w.heap.size w w' := by
  have H1 : Hid (szW k W iw = if k = 1 then W else if k = 2 then iw else 0) := rfl
  have H2 : Hid (szW k H ih = if k = 1 then H else if k = 2 then ih else 0) := rfl
  generalize szW k W iw = X at *
  generalize szW k H ih = Y at *
  unfold lkV
  by_cases k1 : k = 1
  · subst k1
    obtain rfl := H1.out.trans (if_pos rfl)
    obtain rfl := H2.out.trans (if_pos rfl)
    clear H1 H2
    go_enter Try.func12, Try.ntmps12
    go_wp2_with (fail)
    go_quiet (fail)
    go_wp2_with (fail)
    go_ret2
    exact ⟨rfl, ((Below.refl _ _).alloc (Nat.le_refl _) _).trans (Drew.below ⟨_, rfl⟩ _)⟩
  · have q1 : (k == 1) = false := by simp; omega
    by_cases k2 : k = 2
    · subst k2
      clear q1
      obtain rfl := H1.out.trans ((if_neg k1).trans (if_pos rfl))
      obtain rfl := H2.out.trans ((if_neg k1).trans (if_pos rfl))
      clear H1 H2 k1
      go_enter Try.func12, Try.ntmps12
      go_wp2_with (fail)
      go_quiet (fail)
      go_wp2_with (fail)
      go_ret2
      exact ⟨rfl, ((Below.refl _ _).alloc (Nat.le_refl _) _).trans (Drew.below ⟨_, rfl⟩ _)⟩
    · have q2 : (k == 2) = false := by simp; omega
      obtain rfl := H1.out.trans ((if_neg k1).trans (if_neg k2))
      obtain rfl := H2.out.trans ((if_neg k1).trans (if_neg k2))
      clear H1 H2 k1 k2
      go_enter Try.func12, Try.ntmps12
      go_wp2_with (fail)
      go_ret2
      exact ⟨rfl, (Below.refl _ _).alloc (Nat.le_refl _) _⟩
def atB (X Y x y : Int) : Bool := (Bx.nrm ⟨0, 0, X, Y⟩).has x y
theorem atB_eq (X Y x y : Int) : atB X Y x y = inB X Y x y := by
  unfold atB Bx.nrm inB
  by_cases h : Bx.emp ⟨0, 0, X, Y⟩ = true
  · rw [if_pos h]
    unfold Bx.emp at h
    simp only [Bool.or_eq_true, decide_eq_true_eq] at h
    unfold Bx.has Bx.o
    rw [Bool.eq_iff_iff]
    simp only [Bool.and_eq_true, decide_eq_true_eq]
    omega
  · rw [if_neg h]
def lkAt (k W H : Int) (p : Nat) (iw ih : Int) (l : List Nat) (x y : Int) : Nat := if k = 2 then pixAt iw ih l x y else if inB (szW k W iw) (szW k H ih) x y = true then p else 0
set_option maxHeartbeats 1000000 in
theorem lkat_any (k W H : Int) (p : Nat) (iw ih : Int) (A : Option Addr) (l : List Nat) (c : Nat) (x y : Int) (hk : k = 2 → wholeB iw ih l.length = true) (hn : l.length ≤ maxLen) (w : World) (hr : Row eW w A l) :
    Calls Try.prog 14 #[lkV k W H p iw ih A l.length c, .int .i64 x, .int .i64 y] w fun e w' => e = .returned (.int .u32 (lkAt k W H p iw ih l x y : Nat)) ∧ Below w.heap.size w w' := by
  have HR := Lib.hid hr
  have HA : Hid (lkAt k W H p iw ih l x y = if k = 2 then pixAt iw ih l x y else if inB (szW k W iw) (szW k H ih) x y = true then p else 0) := rfl
  generalize lkAt k W H p iw ih l x y = R at *
  by_cases k2 : k = 2
  · have HT := Lib.hid (fun w hr => at_any iw ih A l c x y (hk k2) hn w hr)
    subst k2
    have HA2 := Lib.hid (HA.out.trans (if_pos rfl))
    clear HA hk hr hn
    unfold lkV
    unfold imV at HT
    generalize pixAt iw ih l x y = z at *
    go_enter Try.func14, Try.ntmps14
    go_wp2_with (fail)
    refine (HT.out _ (HR.out.alloc _)).mono ?_
    rintro e w1 ⟨rfl, hb⟩
    have HB : Hid (Below w.heap.size w w1) := bel1 hb
    clear hb HT
    go_wp2_with (fail)
    go_ret
    exact ⟨ret_num (by rw [HA2.out]), HB.out⟩
  · have q2 : (k == 2) = false := by simp; omega
    have HS := Lib.hid (fun w => size_any k W H p iw ih A l.length c w)
    have HA2 := Lib.hid (HA.out.trans (if_neg k2))
    have HO := Lib.hid (fun w => bx_of ⟨0, 0, szW k W iw, szW k H ih⟩ w)
    have HH := Lib.hid (fun w => bx_has (Bx.nrm ⟨0, 0, szW k W iw, szW k H ih⟩) x y w)
    have HE : Hid ((Bx.nrm ⟨0, 0, szW k W iw, szW k H ih⟩).has x y = inB (szW k W iw) (szW k H ih) x y) := atB_eq _ _ _ _
    clear HA hk hr hn k2
    generalize inB (szW k W iw) (szW k H ih) x y = b at *
    generalize Bx.nrm ⟨0, 0, szW k W iw, szW k H ih⟩ = r at *
    generalize szW k W iw = X at *
    generalize szW k H ih = Y at *
    rw [HE.out] at HH
    clear HE
    obtain ⟨r0, r1, r2, r3⟩ := r
    unfold lkV at *
    unfold Bx.v at HO HH
    simp only at HO HH
    go_enter Try.func14, Try.ntmps14
    go_wp2_with (fail)
    refine (HS.out _).mono ?_
    rintro e w1 ⟨rfl, hb⟩
    have HB : Hid (Below w.heap.size w w1) := bel1 hb
    have hK : Hid (Blk w1 w.heap.size [.int .i64 k, .int .i64 W, .int .i64 H, .int .u32 (p : Nat), .int .i64 iw, .int .i64 ih, .slice A l.length c]) := (blk7 w k W H p iw ih A l.length c _).below hb (by simp)
    clear hb HS
    go_wp2_with (fail)
    refine (HO.out _).mono ?_
    rintro e w2 ⟨rfl, hb⟩
    have HB2 : Hid (Below w.heap.size w w2) := bel2 HB.out hb
    have hK2 := Lib.hid (hK.out.below' hb)
    clear hb HO HB hK
    go_wp2_with (fail)
    refine (HH.out _).mono ?_
    rintro e w3 ⟨rfl, hb⟩
    have HB3 : Hid (Below w.heap.size w w3) := bel2 HB2.out hb
    have hK3 := Lib.hid (hK2.out.below' hb)
    clear hb HH HB2 hK2
    obtain ⟨⟨c0, c1, c2, c3, c4, c5, c6⟩, -, ci⟩ := hK3.out.c7
    cases b with
    | true =>
      go_wp2_with (fail)
      go_ret
      exact ⟨ret_num (by rw [HA2.out]; rfl), HB3.out⟩
    | false =>
      go_wp2_with (fail)
      go_ret
      exact ⟨ret_num (by rw [HA2.out]; rfl), HB3.out⟩
theorem fillof_any (W H : Int) (p : Nat) (w : World) : Calls Try.prog 17 #[.int .i64 W, .int .i64 H, .int .u32 (p : Nat)] w fun e w' => e = .returned (lkV 1 W H p 0 0 none 0 0) ∧ Below w.heap.size w w' := by
  go_enter Try.func17, Try.ntmps17
  go_wp2_with (fail)
  exact blk_ret rfl rfl (blk_at _ _ (by simp) [.int .i64 1, .int .i64 W, .int .i64 H, .int .u32 (p : Nat), .int .i64 0, .int .i64 0, .slice none 0 0] _) Try.underlying32 rfl (by kernel_rfl) ⟨rfl, (Below.refl _ _).alloc (Nat.le_refl _) _⟩
theorem putBlk_at {g b : Nat} (hb : b ≠ g) : ∀ (l : List Value) (i : Nat) (w : World), (putBlk g w i l).heap[b]? = w.heap[b]?
  | [], _, _ => rfl
  | _ :: l, i, _ => (putBlk_at hb l (i + 1) _).trans (Below.heap_setCell _ _ _ _ hb)
theorem chain7_0 (w : World) (g : Nat) (v0 v1 v2 v3 v4 v5 v6 : Value) : ((((((w.setCell ⟨g, 0, none⟩ v0).setCell ⟨g, 1, none⟩ v1).setCell ⟨g, 2, none⟩ v2).setCell ⟨g, 3, none⟩ v3).setCell ⟨g, 4, none⟩ v4).setCell ⟨g, 5, none⟩ v5).setCell ⟨g, 6, none⟩ v6 = putBlk g w 0 [v0, v1, v2, v3, v4, v5, v6] := rfl
def ImageOfQ (iw ih : Int) (l : List Nat) (w : World) (e : Ending) (w' : World) : Prop := ∃ A9 cap, e = .returned (lkV 2 0 0 0 iw ih A9 l.length cap) ∧ Pxs w' w.heap.size A9 l cap ∧ Below w.heap.size w w'
set_option maxHeartbeats 1000000 in
theorem imageof_any (iw ih : Int) (A : Option Addr) (l : List Nat) (c : Nat) (w : World) (hr : Row eW w A l) (hn : l.length ≤ 20000000) : Calls Try.prog 18 #[imV iw ih A l.length c] w (ImageOfQ iw ih l w) := by
  have HR := Lib.hid hr
  have HC := Lib.hid (fun w hr => copy_any iw ih A l c w hr hn)
  unfold CopyQ at HC
  unfold ImageOfQ
  have hn3 : l.length ≤ 9223372036854775807 := by omega
  clear hr hn
  unfold imV at *
  go_enter Try.func18, Try.ntmps18
  go_wp2_with (fail)
  have HB0 : Hid (Below w.heap.size w ((w.alloc (.cells #[.int .i64 iw, .int .i64 ih, .slice A l.length c] 30)).alloc (.cells #[.int .i64 0, .int .i64 0, .int .i64 0, .int .u32 0, .int .i64 0, .int .i64 0, .slice none 0 0] 32))) := ((Below.refl _ _).alloc (Nat.le_refl _) _).alloc (by simp) _
  have HK0 : Hid (Blk ((w.alloc (.cells #[.int .i64 iw, .int .i64 ih, .slice A l.length c] 30)).alloc (.cells #[.int .i64 0, .int .i64 0, .int .i64 0, .int .u32 0, .int .i64 0, .int .i64 0, .slice none 0 0] 32)) (w.heap.size + 1) [.int .i64 0, .int .i64 0, .int .i64 0, .int .u32 0, .int .i64 0, .int .i64 0, .slice none 0 0]) := blk_at (w.alloc _) _ (by simp) [.int .i64 0, .int .i64 0, .int .i64 0, .int .u32 0, .int .i64 0, .int .i64 0, .slice none 0 0] _
  refine (HC.out _ (HR.out.below HB0.out)).mono ?_
  rintro e w1 ⟨A9, c9, rfl, hx, hb⟩
  have HX := Lib.hid hx
  have HB : Hid (Below w.heap.size w w1) := bel2 HB0.out hb
  have HK := Lib.hid (HK0.out.below' hb)
  have HSZ : Hid (w.heap.size + 2 ≤ ((w.alloc (.cells #[.int .i64 iw, .int .i64 ih, .slice A l.length c] 30)).alloc (.cells #[.int .i64 0, .int .i64 0, .int .i64 0, .int .u32 0, .int .i64 0, .int .i64 0, .slice none 0 0] 32)).heap.size) := by simp [Hid]
  generalize ((w.alloc (.cells #[.int .i64 iw, .int .i64 ih, .slice A l.length c] 30)).alloc (.cells #[.int .i64 0, .int .i64 0, .int .i64 0, .int .u32 0, .int .i64 0, .int .i64 0, .slice none 0 0] 32)) = wz at *
  clear hb hx HC HB0 HK0
  obtain ⟨⟨c0, c1, c2, c3, c4, c5, c6⟩, ⟨f0, f1, f2, f3, f4, f5, f6⟩, ci⟩ := HK.out.c7
  go_wp2_with (fail)
  rw [chain7_0]
  have hB7 := putBlk_all (g := w.heap.size + 1) (w := w1) (zs := [.int .i64 0, .int .i64 0, .int .i64 0, .int .u32 0, .int .i64 0, .int .i64 0, .slice none 0 0]) (l := [.int .i64 2, .int .i64 0, .int .i64 0, .int .u32 0, .int .i64 iw, .int .i64 ih, .slice A9 l.length c9]) rfl HK.out
  refine blk_ret rfl rfl hB7 Try.underlying32 rfl (by kernel_rfl) ⟨A9, c9, rfl, ⟨HX.out.1.by_block fun b o e => ?_, fun b o e => ?_, HX.out.2.2⟩, putBlk_below (by omega) _ 0 HB.out⟩
  · have hne : b ≠ w.heap.size + 1 := by have := HX.out.2.1 b o e; have := HSZ.out; omega
    exact putBlk_at hne _ 0 w1
  · have := HX.out.2.1 b o e; have := HSZ.out; omega
end Go.Proofs.Ytfmlecjobpdbbaa
