/-
  Layer 10: images: sides, whole, Frame, Check, Small.
-/
import Derived.Test.YtboelbmpcbeifaaDoorRxC
import Derived.Test.YtboelbmpcbeifaaDoorPxB
import Derived.Test.YtboelbmpcbeifaaDoorImMath
namespace Go.Proofs.YtboelbmpcbeifaaDoor
open Go.RowKit pxm imm

/-- an image's value -/
def imV (W H : Int) (A : Option Addr) (n c : Nat) : Value := .agg #[.int .i64 W, .int .i64 H, .slice A n c]
def imC (W H : Int) (A : Option Addr) (n c : Nat) : List Value := [.int .i64 W, .int .i64 H, .slice A n c]
def eW (n : Nat) : Value := .int .u32 (n : Nat)
theorem Blk.c1 {w : World} {g : Nat} {p : Value} (h : Blk w g [p]) : w.cell? ⟨g, 0, none⟩ = some p ∧ w.frozen? ⟨g, 0, none⟩ = false ∧ g < w.heap.size := ⟨h.cell 0, h.free 0, h.inside⟩
theorem Blk.c3 {w : World} {g : Nat} {p q r : Value} (h : Blk w g [p, q, r]) : (w.cell? ⟨g, 0, none⟩ = some p ∧ w.cell? ⟨g, 1, none⟩ = some q ∧ w.cell? ⟨g, 2, none⟩ = some r) ∧
    (w.frozen? ⟨g, 0, none⟩ = false ∧ w.frozen? ⟨g, 1, none⟩ = false ∧ w.frozen? ⟨g, 2, none⟩ = false) ∧ g < w.heap.size :=
  ⟨⟨h.cell 0, h.cell 1, h.cell 2⟩, ⟨h.free 0, h.free 1, h.free 2⟩, h.inside⟩
theorem mx2 (x y : Int) : ∃ M : Int, (∀ (P : Program) (w : World) (ts : Array TypeId) (t : TypeId), (Builtin.max_ ts t #[.int .i64 x, .int .i64 y]).run P w = .ok (.int .i64 M) w) ∧ (∀ a, M ≤ a ↔ x ≤ a ∧ y ≤ a) := by
  refine ⟨_, fun P w ts t => run_max_int2 w ts t _ _ x y, fun a => ?_⟩
  split <;> omega
theorem mn2 (x y : Int) : ∃ M : Int, (∀ (P : Program) (w : World) (ts : Array TypeId) (t : TypeId), (Builtin.min_ ts t #[.int .i64 x, .int .i64 y]).run P w = .ok (.int .i64 M) w) ∧ (∀ a, a ≤ M ↔ a ≤ x ∧ a ≤ y) := by
  refine ⟨_, fun P w ts t => run_min_int2 w ts t _ _ x y, fun a => ?_⟩
  split <;> omega
def sidesB (W H : Int) : Bool := decide (1 ≤ W ∧ 1 ≤ H ∧ W ≤ 4096 ∧ H ≤ 4096)
theorem sides_any (W H : Int) (w : World) : Calls Tryd.prog 25 #[.int .i64 W, .int .i64 H] w fun e w' => e = .returned (.bool (sidesB W H)) ∧ Below w.heap.size w w' := by
  obtain ⟨M, hmax, hM⟩ := mx2 W H
  obtain ⟨m, hmin, hm⟩ := mn2 W H
  specialize hM 4096
  specialize hm 1
  by_cases t1 : 1 ≤ m
  · have t : decide (1 ≤ m) = true := by simpa using t1
    have HS : Hid (sidesB W H = decide (M ≤ 4096)) := decide_eq_decide.2 (by omega)
    generalize sidesB W H = S at *
    generalize hd : decide (M ≤ 4096) = d at *
    clear hM hm t1
    go_enter Tryd.func25, Tryd.ntmps25
    go_wp2_with (fail)
    go_ret
    exact ⟨ret_bool HS.out.symm, Below.refl _ _⟩
  · have t : decide (1 ≤ m) = false := by simpa using t1
    have HS : Hid (sidesB W H = false) := decide_eq_false (by omega)
    generalize sidesB W H = S at *
    clear hM hm t1
    go_enter Tryd.func25, Tryd.ntmps25
    go_wp2_with (fail)
    go_ret
    exact ⟨ret_bool HS.out.symm, Below.refl _ _⟩
def wholeB (W H : Int) (n : Nat) : Bool := sidesB W H && decide ((n : Int) = W * H)
theorem sidesB_iff {W H : Int} : sidesB W H = true ↔ 1 ≤ W ∧ 1 ≤ H ∧ W ≤ 4096 ∧ H ≤ 4096 := by unfold sidesB; exact decide_eq_true_iff
theorem mul_small {W H : Int} (h : sidesB W H = true) : 1 ≤ W * H ∧ W * H ≤ 16777216 := by
  obtain ⟨h1, h2, h3, h4⟩ := sidesB_iff.1 h
  have e1 : 0 ≤ (W - 1) * H := Int.mul_nonneg (by omega) (by omega)
  have e2 : 0 ≤ (4096 - W) * H := Int.mul_nonneg (by omega) (by omega)
  rw [Int.sub_mul] at e1 e2
  omega
theorem bel1 {w w1 : World} {o : Obj} (hb : Below (w.alloc o).heap.size (w.alloc o) w1) : Below w.heap.size w w1 := ((Below.refl _ _).alloc (Nat.le_refl _) _).trans (hb.mono (by simp))
set_option maxHeartbeats 400000 in
theorem whole_any (W H : Int) (A : Option Addr) (n c : Nat) (hn : n ≤ maxLen) (w : World) : Calls Tryd.prog 26 #[imV W H A n c] w fun e w' => e = .returned (.bool (wholeB W H n)) ∧ Below w.heap.size w w' := by
  have HS := Lib.hid (fun w => sides_any W H w)
  have HW : Hid (wholeB W H n = (sidesB W H && decide ((n : Int) = W * H))) := rfl
  have HM := Lib.hid (fun h => mul_small (W := W) (H := H) h)
  replace hn : n ≤ 9223372036854775807 := by unfold maxLen at hn; omega
  generalize wholeB W H n = R at *
  generalize sidesB W H = S at *
  unfold imV
  go_enter Tryd.func26, Tryd.ntmps26
  go_wp2_with (fail)
  refine (HS.out _).mono ?_
  rintro e w1 ⟨rfl, hb⟩
  have hB : Hid (Below w.heap.size w w1) := bel1 hb
  have hR : Hid (Blk w1 w.heap.size [.int .i64 W, .int .i64 H, .slice A n c]) := (blk_at w _ rfl [.int .i64 W, .int .i64 H, .slice A n c] _).below hb (by simp)
  clear hb HS
  obtain ⟨⟨c0, c1, c2⟩, -, ci⟩ := hR.out.c3
  cases S with
  | false =>
    go_wp2_with (fail)
    go_ret
    exact ⟨ret_bool HW.out.symm, hB.out⟩
  | true =>
    obtain ⟨m1, m2⟩ := HM.out rfl
    have q : wrap64 (W * H) = W * H := IntWalk.wrap64_in _ (by omega)
    have HW2 := HW.out
    rw [Bool.true_and] at HW2
    clear HW HM m1 m2
    by_cases t1 : (n : Int) = W * H
    · have t : decide ((n : Int) = W * H) = true := by simpa using t1
      rw [t] at HW2
      subst HW2
      have q1 : ((n : Int) == W * H) = true := by rw [t1]; simp
      clear t1
      go_wp2_with (fail)
      go_ret
      exact ⟨rfl, hB.out⟩
    · have t : decide ((n : Int) = W * H) = false := by simpa using t1
      rw [t] at HW2
      subst HW2
      have q1 : ((n : Int) == W * H) = false := by simpa using t1
      clear t1
      go_wp2_with (fail)
      go_ret
      exact ⟨rfl, hB.out⟩
set_option maxHeartbeats 400000 in
theorem frame_any (W H : Int) (A : Option Addr) (n c : Nat) (w : World) : Calls Tryd.prog 11 #[imV W H A n c] w fun e w' => e = .returned (Bx.v ⟨0, 0, W, H⟩) ∧ Below w.heap.size w w' := by
  unfold imV Bx.v
  simp only
  go_enter Tryd.func11, Tryd.ntmps11
  go_wp2_with (fail)
  exact blk_ret rfl rfl (blk_at (w.alloc _) _ (by simp) [.int .i64 0, .int .i64 0, .int .i64 W, .int .i64 H] _) Tryd.underlying30 rfl (by kernel_rfl) ⟨rfl, ((Below.refl _ _).alloc (Nat.le_refl _) _).alloc (by simp) _⟩
/-! ### Check -/
def rb (z : Nat) : Bool := (frm z).rightB
theorem rgt_any (z : Nat) (hz : z < 4294967296) (w : World) : Calls Tryd.prog 27 #[.int .u32 (z : Nat)] w fun e w' => e = .returned (.bool (rb z)) ∧ Drew w w' := by
  have := right_any (frm z) (frm_bytes hz) w
  rw [num_frm] at this
  exact this
def chk (W H : Int) (l : List Nat) : Int := if sidesB W H = true then (if wholeB W H l.length = true then (if l.all rb = true then 0 else 10) else 10) else 11
theorem all_take {α : Type} {p : α → Bool} {l : List α} {k : Nat} (h : (l.take k).all p = true) (hk : k < l.length) (hp : p l[k] = true) : (l.take (k + 1)).all p = true := by
  rw [List.take_succ_eq_append_getElem hk, List.all_append, h]
  simp [hp]
theorem all_no {α : Type} {p : α → Bool} {l : List α} {k : Nat} (hk : k < l.length) (hp : p l[k] = false) : l.all p = false := by
  rw [List.all_eq_false]
  exact ⟨_, List.getElem_mem hk, by rw [hp]; simp⟩
set_option maxHeartbeats 1000000 in
theorem check_any (W H : Int) (A : Option Addr) (l : List Nat) (c : Nat) (hl : ∀ z ∈ l, z < 4294967296) (hn : l.length ≤ maxLen) (w : World) (hr : Row eW w A l) :
    Calls Tryd.prog 9 #[imV W H A l.length c] w fun e w' => e = .returned (.int .i64 (chk W H l)) ∧ Below w.heap.size w w' := by
  have HS := Lib.hid (fun w => sides_any W H w)
  have HW := Lib.hid (fun w => whole_any W H A l.length c hn w)
  have HC : Hid (chk W H l = if sidesB W H = true then (if wholeB W H l.length = true then (if l.all rb = true then 0 else 10) else 10) else 11) := rfl
  replace hn : l.length ≤ 9223372036854775807 := by unfold maxLen at hn; omega
  generalize chk W H l = R at *
  generalize wholeB W H l.length = T at *
  generalize sidesB W H = S at *
  unfold imV at *
  go_enter Tryd.func9, Tryd.ntmps9
  go_wp2_with (fail)
  refine (HS.out _).mono ?_
  rintro e w1 ⟨rfl, hb⟩
  have hB : Hid (Below w.heap.size w w1) := bel1 hb
  have hR : Hid (Blk w1 w.heap.size [.int .i64 W, .int .i64 H, .slice A l.length c]) := (blk_at w _ rfl [.int .i64 W, .int .i64 H, .slice A l.length c] _).below hb (by simp)
  clear hb HS
  obtain ⟨⟨c0, c1, c2⟩, -, ci⟩ := hR.out.c3
  cases S with
  | false =>
    go_wp2_with (fail)
    go_ret
    exact ⟨ret_num HC.out.symm, hB.out⟩
  | true =>
    go_wp2_with (fail)
    refine (HW.out _).mono ?_
    rintro e w2 ⟨rfl, hb⟩
    have hB2 : Hid (Below w.heap.size w w2) := hB.out.trans (hb.mono hB.out.size)
    have hR2 : Hid (Blk w2 w.heap.size [.int .i64 W, .int .i64 H, .slice A l.length c]) := hR.out.below' hb
    clear hb HW hB hR c0 c1 c2 ci
    obtain ⟨⟨c0, c1, c2⟩, -, ci⟩ := hR2.out.c3
    cases T with
    | false =>
      go_wp2_with (fail)
      go_ret
      exact ⟨ret_num HC.out.symm, hB2.out⟩
    | true =>
      have HC2 : Hid (R = if l.all rb = true then 0 else 10) := HC.out
      have HR := Lib.hid (hr.below hB2.out)
      have HL := Lib.hid hl
      clear hr HC hl
      go_wp2_with (fail)
      clear c0 c1 c2 ci
      go_loopw [17] (fun i wr => ∃ k : Nat, k ≤ l.length ∧ i = .int .i64 k ∧ Hid ((l.take k).all rb = true) ∧ Hid (Drew w2 wr)) (fun i _ => l.length - (intOf i).toNat)
      case atStart => exact ⟨0, Nat.zero_le _, rfl, rfl, Drew.refl _⟩
      case round =>
        obtain ⟨k, hk, rfl, HK, HD⟩ := hrel
        by_cases hlt : k < l.length
        · obtain ⟨b, off, eA, hc⟩ := (HR.out.below (HD.out.below _)).at_ hlt
          have hA := Lib.hid eA
          subst eA
          have hz : l[k] < 4294967296 := HL.out _ (List.getElem_mem hlt)
          have HP := Lib.hid (fun w => rgt_any l[k] hz w)
          have H1 := Lib.hid (all_take HK.out hlt)
          have H0 := Lib.hid (all_no (p := rb) hlt)
          clear hA
          generalize l[k] = z at *
          unfold eW at hc
          go_wp2_with (fail)
          refine (HP.out _).mono ?_
          rintro e w3 ⟨rfl, hd⟩
          have HD3 := Lib.hid (HD.out.trans hd)
          clear hd HP hc
          generalize rb z = y at *
          cases y with
          | false =>
            have HF := Lib.hid (HC2.out.trans (if_neg (by rw [H0.out rfl]; decide)))
            go_wp2_with (fail)
            go_ret
            exact ⟨ret_num HF.out.symm, hB2.out.trans (HD3.out.below _)⟩
          | true =>
            go_wp2_with (fail)
            go_roundw
            case rel => exact ⟨k + 1, by omega, by go_num, H1.out (by trivial), HD3⟩
            case measure => simp [intOf]; omega
        · obtain rfl : k = l.length := by omega
          have HF := Lib.hid (HC2.out.trans (if_pos (by have := HK.out; rwa [List.take_length] at this)))
          have t : decide (l.length < l.length) = false := by simp
          go_wp2_with (fail)
          go_ret
          exact ⟨ret_num HF.out.symm, hB2.out.trans (HD.out.below _)⟩
def smallB (W H : Int) (l : List Nat) : Bool := decide (W ≤ 256 ∧ H ≤ 256) && decide (chk W H l = 0)
set_option maxHeartbeats 1000000 in
theorem small_any (W H : Int) (A : Option Addr) (l : List Nat) (c : Nat) (hl : ∀ z ∈ l, z < 4294967296) (hn : l.length ≤ maxLen) (w : World) (hr : Row eW w A l) :
    Calls Tryd.prog 10 #[imV W H A l.length c] w fun e w' => e = .returned (.bool (smallB W H l)) ∧ Below w.heap.size w w' := by
  have HC := Lib.hid (fun w hr => check_any W H A l c hl hn w hr)
  have HB : Hid (smallB W H l = (decide (W ≤ 256 ∧ H ≤ 256) && decide (chk W H l = 0))) := rfl
  obtain ⟨M, hmax, hM⟩ := mx2 W H
  specialize hM 256
  replace hn : l.length ≤ 9223372036854775807 := by unfold maxLen at hn; omega
  generalize smallB W H l = R at *
  generalize chk W H l = K at *
  have HR := Lib.hid hr
  unfold imV at *
  by_cases t1 : M ≤ 256
  · have t : decide (M ≤ 256) = true := by simpa using t1
    have HB2 : Hid (R = decide (K = 0)) := by rw [HB.out, decide_eq_true (hM.1 t1), Bool.true_and]; exact rfl
    clear hM HB t1 hr
    go_enter Tryd.func10, Tryd.ntmps10
    go_wp2_with (fail)
    refine (HC.out _ (HR.out.alloc _)).mono ?_
    rintro e w1 ⟨rfl, hb⟩
    have hB : Hid (Below w.heap.size w w1) := bel1 hb
    clear hb HC
    by_cases k0 : K = 0
    · have q : (K == 0) = true := by simpa using k0
      have HB3 := Lib.hid (HB2.out.trans (decide_eq_true k0))
      clear k0
      go_wp2_with (fail)
      go_ret
      exact ⟨ret_bool HB3.out.symm, hB.out⟩
    · have q : (K == 0) = false := by simpa using k0
      have HB3 := Lib.hid (HB2.out.trans (decide_eq_false k0))
      clear k0
      go_wp2_with (fail)
      go_ret
      exact ⟨ret_bool HB3.out.symm, hB.out⟩
  · have t : decide (M ≤ 256) = false := by simpa using t1
    have HB2 : Hid (R = false) := by rw [HB.out, decide_eq_false (fun h => t1 (hM.2 h)), Bool.false_and]; exact rfl
    clear hM HB t1 hr HC
    go_enter Tryd.func10, Tryd.ntmps10
    go_wp2_with (fail)
    go_ret
    exact ⟨ret_bool HB2.out.symm, (Below.refl _ _).alloc (Nat.le_refl _) _⟩
end Go.Proofs.YtboelbmpcbeifaaDoor
