/-
  Layer 9: a pixel laid of four parts; by, over of one pixel; Of, Parts, Right.
-/
import Derived.Test.YtolekbgbcahfgaaPxA
import Derived.Test.YtolekbgbcahfgaaNewb
import Derived.Laws.Cover1
namespace Go.Proofs.Ytolekbgbcahfgaa
open Go.RowKit pxm

theorem Drew.trans {a b c : World} (h : Drew a b) (k : Drew b c) : Drew a c := by
  obtain ⟨n, rfl⟩ := h
  exact k.elim fun m hm => ⟨n + m, by rw [hm, World.drewN_drewN]⟩
theorem or_part (f : Nat → Nat) (hf : ∀ k, k < 4 → f k < 256) (k : Nat) (hk : k < 4) : bits .or .u32 (part4 f k : Nat) ((f k : Int) * (256 ^ k : Nat)) = (part4 f (k + 1) : Nat) := by
  have h1 := part4_lt hf k (by omega)
  have h2 := part4_lt hf (k + 1) (by omega)
  have e : (f k : Int) * (256 ^ k : Nat) = ((f k * 256 ^ k : Nat) : Int) := by rw [Int.natCast_mul]
  have h3 : 256 ^ (k + 1) ≤ 256 ^ 4 := Nat.pow_le_pow_right (by omega) (by omega)
  have h4 : (256 : Nat) ^ 4 = 4294967296 := by decide
  have h5 : part4 f (k + 1) = part4 f k + f k * 256 ^ k := rfl
  rw [e, u32_or_nat _ _ (by omega) (by omega), or_add h1]
  rfl
set_option maxHeartbeats 1000000 in
theorem each_any (f : Nat → Nat) (hf : ∀ k, k < 4 → f k < 256) (gl : Nat) (cl : Array Value) (he : Enters Try.prog gl) (w : World)
    (hcall : ∀ k, k < 4 → ∀ w1, Drew w w1 → Calls Try.prog gl (#[.int .i64 (k : Nat)] ++ cl) w1 fun e w2 => e = .returned (.int .i64 (f k : Nat)) ∧ Drew w1 w2) :
    Calls Try.prog 23 #[.func (.func gl) #[] cl] w fun e w' => e = .returned (.int .u32 (part4 f 4 : Nat)) ∧ Drew w w' := by
  have he' : ∀ (args : Array Value) (w : World), (callFunc gl args).run Try.prog w = .ok (.enter gl args) w := he
  have HC := Lib.hid hcall
  have HO := Lib.hid (or_part f hf)
  have HF := Lib.hid hf
  have HL := Lib.hid (fun k hk => part4_lt hf k hk)
  clear hcall hf he
  go_enter Try.func23, Try.ntmps23
  go_wp2_with (fail)
  go_loopw [3, 5] (fun x i wr => ∃ k : Nat, k ≤ 4 ∧ i = .int .i64 k ∧ x = .int .u32 (part4 f k : Nat) ∧ Hid (Drew w wr)) (fun _ i _ => 4 - (intOf i).toNat)
  case atStart => exact ⟨0, by omega, rfl, rfl, Drew.refl _⟩
  case round =>
    obtain ⟨k, hk, rfl, rfl, HD⟩ := hrel
    by_cases hlt : k < 4
    · have o := Lib.hid (HO.out k hlt)
      have hz := HF.out k hlt
      have C := Lib.hid (HC.out k hlt)
      clear HO HF HC HL
      have o2 : ∃ y2, Hid (part4 f (k + 1) = y2) ∧ Hid (bits .or .u32 (part4 f k : Nat) ((f k : Int) * (256 ^ k : Nat)) = (y2 : Nat)) := ⟨_, rfl, o⟩
      clear o
      obtain ⟨y2, o1, o2⟩ := o2
      generalize part4 f k = y1 at *
      generalize f k = z at *
      go_wp2_with (fail)
      refine (C.out _ HD.out).mono ?_
      rintro e w2 ⟨rfl, hd⟩
      have HD2 := Lib.hid (HD.out.trans hd)
      clear C HD hd
      obtain rfl | rfl | rfl | rfl : k = 0 ∨ k = 1 ∨ k = 2 ∨ k = 3 := by omega
      all_goals
        go_wp2_with (fail)
        go_roundw
        case rel => exact ⟨_, by decide, rfl, by rw [o1.out, ← o2.out]; simp, HD2⟩
        case measure => simp [intOf]
    · obtain rfl : k = 4 := by omega
      clear HO HC HF HL
      go_wp2_with (fail)
      go_ret
      exact ⟨rfl, HD.out⟩
theorem part4_congr {f g : Nat → Nat} (h : ∀ k, k < 4 → f k = g k) : part4 f 4 = part4 g 4 := by
  simp only [part4]
  rw [h 0 (by omega), h 1 (by omega), h 2 (by omega), h 3 (by omega)]
theorem part4_times (p : P4) (q : Nat) : part4 (fun k => by_ (p.at_ k) q) 4 = (p.times q).num := by
  rw [← part4_num]
  exact part4_congr fun k hk => by
    obtain rfl | rfl | rfl | rfl : k = 0 ∨ k = 1 ∨ k = 2 ∨ k = 3 := by omega
    all_goals rfl
theorem part4_over (s d : P4) : part4 (fun k => s.at_ k + by_ (d.at_ k) (255 - s.a)) 4 = (s.over d).num := by
  rw [← part4_num]
  exact part4_congr fun k hk => by
    obtain rfl | rfl | rfl | rfl : k = 0 ∨ k = 1 ∨ k = 2 ∨ k = 3 := by omega
    all_goals rfl
theorem over_at (s d : P4) (k : Nat) (hk : k < 4) : s.at_ k + by_ (d.at_ k) (255 - s.a) = (s.over d).at_ k := by
  obtain rfl | rfl | rfl | rfl : k = 0 ∨ k = 1 ∨ k = 2 ∨ k = 3 := by omega
  all_goals rfl
theorem Drew.blk {w w' : World} {g : Nat} {cs : List Value} (h : Drew w w') (hb : Blk w g cs) : Blk w' g cs := hb.below' (h.below _)

set_option maxHeartbeats 1000000 in
theorem mby_any (p : P4) (hp : p.Bytes) (q : Nat) (hq : q < 256) (w : World) :
    Calls Try.prog 27 #[.int .u32 (p.num : Nat), .int .i64 (q : Nat)] w fun e w' => e = .returned (.int .u32 ((p.times q).num : Nat)) ∧ Below w.heap.size w w' := by
  have HC := Lib.hid (fun w1 (h1 : Blk w1 w.heap.size [.int .u32 (p.num : Nat)]) (h2 : Blk w1 (w.heap.size + 1) [.int .i64 (q : Nat)]) =>
    each_any (fun k => by_ (p.at_ k) q) (fun k _ => by_lt (hp.at_ k) hq) 29 #[.pointer (some ⟨w.heap.size, 0, none⟩), .pointer (some ⟨w.heap.size + 1, 0, none⟩)] enters_by1 w1
      (fun k hk w2 hd => by1_any p hp q hq w.heap.size (w.heap.size + 1) k hk w2 (hd.blk h1) (hd.blk h2)))
  have HT := Lib.hid (part4_times p q)
  have hn := hp.lt
  go_enter Try.func27, Try.ntmps27
  go_wp2_with (fail)
  refine (HC.out _ ((blk_new w [.int .u32 (p.num : Nat)] _).alloc _) (blk_at (w.alloc _) _ (by simp) [.int .i64 (q : Nat)] _)).mono ?_
  rintro e w2 ⟨rfl, hd⟩
  have HB : Hid (Below w.heap.size w w2) := (((Below.refl _ _).alloc (Nat.le_refl _) _).alloc (by simp) _).trans (hd.below _)
  clear hd
  go_wp2_with (fail)
  go_ret
  exact ⟨ret_num (by rw [HT.out]), HB.out⟩
set_option maxHeartbeats 1000000 in
theorem mover_any (s d : P4) (hs : s.Right) (hd : d.Right) (w : World) :
    Calls Try.prog 26 #[.int .u32 (s.num : Nat), .int .u32 (d.num : Nat)] w fun e w' => e = .returned (.int .u32 ((s.over d).num : Nat)) ∧ Below w.heap.size w w' := by
  have HC := Lib.hid (fun w1 (h1 : Blk w1 w.heap.size [.int .u32 (s.num : Nat)]) (h2 : Blk w1 (w.heap.size + 1) [.int .u32 (d.num : Nat)]) (b3 : Nat) (h3 : Blk w1 b3 [.int .i64 (255 - s.a : Nat)]) =>
    each_any (fun k => s.at_ k + by_ (d.at_ k) (255 - s.a)) (fun k hk => by rw [over_at s d k hk]; exact (hs.over hd).bytes.at_ k) 28 #[.pointer (some ⟨w.heap.size, 0, none⟩), .pointer (some ⟨w.heap.size + 1, 0, none⟩), .pointer (some ⟨b3, 0, none⟩)] enters_over1 w1
      (fun k hk w2 hd2 => over1_any s d hs.bytes hd.bytes (255 - s.a) (by omega) w.heap.size (w.heap.size + 1) b3 k hk w2 (hd2.blk h1) (hd2.blk h2) (hd2.blk h3)))
  have HT := Lib.hid (part4_over s d)
  have HP := Lib.hid (fun w => part_any s hs.bytes 0 (by omega) w)
  have ha : s.at_ 0 ≤ 255 := by have := hs.bytes.at_ 0; omega
  have HA : Hid (s.at_ 0 = s.a) := rfl
  have hn := hs.bytes.lt
  have hm := hd.bytes.lt
  clear hs hd
  generalize s.at_ 0 = x at *
  go_enter Try.func26, Try.ntmps26
  go_wp2_with (fail)
  refine (HP.out _).mono ?_
  rintro e w1 ⟨rfl, hd⟩
  have h1 : Hid (Blk w1 w.heap.size [.int .u32 (s.num : Nat)]) := hd.blk ((blk_new w [.int .u32 (s.num : Nat)] _).alloc _)
  have h2 : Hid (Blk w1 (w.heap.size + 1) [.int .u32 (d.num : Nat)]) := hd.blk (blk_at (w.alloc _) _ (by simp) [.int .u32 (d.num : Nat)] _)
  have HB : Hid (Below w.heap.size w w1) := (((Below.refl _ _).alloc (Nat.le_refl _) _).alloc (by simp) _).trans (hd.below _)
  clear hd
  have e0 : (255 : Int) - (x : Int) = ((255 - x : Nat) : Int) := by omega
  go_wp2_with (fail)
  refine (HC.out _ (h1.out.alloc _) (h2.out.alloc _) _ (by rw [← HA.out, ← e0]; exact blk_new w1 [.int .i64 ((255 : Int) - (x : Int))] _)).mono ?_
  rintro e w2 ⟨rfl, hd⟩
  have HB2 : Hid (Below w.heap.size w w2) := (HB.out.alloc HB.out.size _).trans (hd.below _)
  clear hd
  go_wp2_with (fail)
  go_ret
  exact ⟨ret_num (by rw [HT.out]), HB2.out⟩
theorem at4 (p : P4) : p.at_ 3 = p.r ∧ p.at_ 2 = p.g ∧ p.at_ 1 = p.b ∧ p.at_ 0 = p.a := ⟨rfl, rfl, rfl, rfl⟩
theorem results_tmp4 {fn : Func} {t u v x : Tmp} (h : fn.results = #[.tmp t, .tmp u, .tmp v, .tmp x]) (tmps : Array Value) (P : Program) (w : World) :
    (results fn tmps).run P w = .ok (.tuple #[tmps.getD t undef, tmps.getD u undef, tmps.getD v undef, tmps.getD x undef]) w := by
  simp [results, h]
set_option maxHeartbeats 1000000 in
theorem parts_any (p : P4) (hp : p.Bytes) (w : World) :
    Calls Try.prog 12 #[.int .u32 (p.num : Nat)] w fun e w' => e = .returned (.tuple #[.int .i64 (p.r : Nat), .int .i64 (p.g : Nat), .int .i64 (p.b : Nat), .int .i64 (p.a : Nat)]) ∧ Drew w w' := by
  have H3 := Lib.hid (fun w => part_any p hp 3 (by omega) w)
  have H2 := Lib.hid (fun w => part_any p hp 2 (by omega) w)
  have H1 := Lib.hid (fun w => part_any p hp 1 (by omega) w)
  have H0 := Lib.hid (fun w => part_any p hp 0 (by omega) w)
  have hn := hp.lt
  clear hp
  go_enter Try.func12, Try.ntmps12
  go_wp2_with (fail)
  refine (H3.out _).mono ?_
  rintro e w1 ⟨rfl, hd1⟩
  have D1 := Lib.hid hd1
  clear hd1
  go_wp2_with (fail)
  refine (H2.out _).mono ?_
  rintro e w2 ⟨rfl, hd2⟩
  have D2 := Lib.hid (D1.out.trans hd2)
  clear hd2 D1
  go_wp2_with (fail)
  refine (H1.out _).mono ?_
  rintro e w3 ⟨rfl, hd3⟩
  have D3 := Lib.hid (D2.out.trans hd3)
  clear hd3 D2
  go_wp2_with (fail)
  refine (H0.out _).mono ?_
  rintro e w4 ⟨rfl, hd4⟩
  have D4 := Lib.hid (D3.out.trans hd4)
  clear hd4 D3
  go_wp2_with (fail)
  exact bodyPost_ret (results_tmp4 rfl _ _ _) rfl ⟨rfl, D4.out⟩
theorem max3 (x y z : Int) : ∃ M : Int, (∀ (P : Program) (w : World) (ts : Array TypeId) (t : TypeId), (Builtin.max_ ts t #[.int .i64 x, .int .i64 y, .int .i64 z]).run P w = .ok (.int .i64 M) w) ∧ (∀ a, M ≤ a ↔ x ≤ a ∧ y ≤ a ∧ z ≤ a) := by
  refine ⟨_, fun P w ts t => run_max_int3 w ts t _ _ _ x y z, fun a => ?_⟩
  split <;> split <;> omega
theorem min3 (x y z : Int) : ∃ M : Int, (∀ (P : Program) (w : World) (ts : Array TypeId) (t : TypeId), (Builtin.min_ ts t #[.int .i64 x, .int .i64 y, .int .i64 z]).run P w = .ok (.int .i64 M) w) ∧ (∀ a, a ≤ M ↔ a ≤ x ∧ a ≤ y ∧ a ≤ z) := by
  refine ⟨_, fun P w ts t => run_min_int3 w ts t _ _ _ x y z, fun a => ?_⟩
  split <;> split <;> omega
set_option maxHeartbeats 1000000 in
theorem right_any (p : P4) (hp : p.Bytes) (w : World) :
    Calls Try.prog 13 #[.int .u32 (p.num : Nat)] w fun e w' => e = .returned (.bool p.rightB) ∧ Drew w w' := by
  have H := Lib.hid (fun w => parts_any p hp w)
  have HR2 : Hid (p.rightB = (decide (p.r ≤ p.a) && (decide (p.g ≤ p.a) && (decide (p.b ≤ p.a) && decide (p.a ≤ 255))))) := rfl
  generalize p.rightB = R at *
  obtain ⟨h1, h2, h3, h4⟩ := hp
  generalize p.num = n at *
  obtain ⟨r, g, b, a⟩ := p
  simp only at H HR2 h1 h2 h3 h4
  obtain ⟨M, hrun, hM⟩ := max3 r g b
  have HM : Hid (decide (M ≤ (a : Int)) = R) := by
    rw [HR2.out]
    have := hM a
    have h5 : a ≤ 255 := by omega
    show _ = _
    rw [decide_eq_true h5, Bool.and_true, ← Bool.decide_and, ← Bool.decide_and, decide_eq_decide]
    omega
  clear hM HR2
  go_enter Try.func13, Try.ntmps13
  go_wp2_with (fail)
  refine (H.out _).mono ?_
  rintro e w1 ⟨rfl, hd1⟩
  have D1 := Lib.hid hd1
  clear hd1
  go_wp2_with (fail)
  go_ret
  exact ⟨ret_bool HM.out, D1.out⟩
set_option maxHeartbeats 1000000 in
theorem of_no (r g b a : Int) (h : ¬ (0 ≤ r ∧ 0 ≤ g ∧ 0 ≤ b ∧ r ≤ a ∧ g ≤ a ∧ b ≤ a ∧ a ≤ 255)) (w : World) :
    Calls Try.prog 8 #[.int .i64 r, .int .i64 g, .int .i64 b, .int .i64 a] w fun e w' => e = .returned (.tuple #[.int .u32 0, .bool false]) ∧ Below w.heap.size w w' := by
  obtain ⟨M, hmax, hM⟩ := max3 r g b
  obtain ⟨m, hmin, hm⟩ := min3 r g b
  have hM := hM a
  have hm := hm 0
  by_cases t1 : m < 0
  · have t : decide (m < 0) = true := by simpa using t1
    clear h hM hm t1
    go_enter Try.func8, Try.ntmps8
    go_wp2_with (fail)
    go_ret2
    exact ⟨rfl, Below.refl _ _⟩
  · have t : decide (m < 0) = false := by simpa using t1
    by_cases t2 : a < M
    · have t3 : decide (a < M) = true := by simpa using t2
      clear h hM hm t1 t2
      go_enter Try.func8, Try.ntmps8
      go_wp2_with (fail)
      go_ret2
      exact ⟨rfl, Below.refl _ _⟩
    · have t3 : decide (a < M) = false := by simpa using t2
      have t4 : decide (255 < a) = true := by simp; omega
      clear h hM hm t1 t2
      go_enter Try.func8, Try.ntmps8
      go_wp2_with (fail)
      go_ret2
      exact ⟨rfl, Below.refl _ _⟩
set_option maxHeartbeats 1000000 in
theorem of_yes (p : P4) (hp : p.Right) (w : World) :
    Calls Try.prog 8 #[.int .i64 (p.r : Nat), .int .i64 (p.g : Nat), .int .i64 (p.b : Nat), .int .i64 (p.a : Nat)] w fun e w' => e = .returned (.tuple #[.int .u32 (p.num : Nat), .bool true]) ∧ Below w.heap.size w w' := by
  have HC := Lib.hid (fun w1 (h1 : Blk w1 w.heap.size [.int .i64 (p.a : Nat), .int .i64 (p.b : Nat), .int .i64 (p.g : Nat), .int .i64 (p.r : Nat)]) =>
    each_any p.at_ (fun k _ => hp.bytes.at_ k) 24 #[.pointer (some ⟨w.heap.size, 0, none⟩)] enters_of1 w1
      (fun k hk w2 hd => of1_any p w.heap.size k hk w2 (hd.blk h1)))
  have HN : Hid (part4 p.at_ 4 = p.num) := part4_num p
  obtain ⟨M, hmax, hM⟩ := max3 p.r p.g p.b
  obtain ⟨m, hmin, hm⟩ := min3 p.r p.g p.b
  have hM := hM p.a
  have hm := hm 0
  obtain ⟨h1, h2, h3, h4⟩ := hp
  have t : decide (m < 0) = false := by simp; omega
  have t3 : decide ((p.a : Int) < M) = false := by simp; omega
  have t4 : decide (255 < (p.a : Int)) = false := by simp; omega
  clear hM hm h1 h2 h3 h4
  generalize part4 p.at_ 4 = n at *
  generalize p.num = n' at *
  obtain ⟨r, g, b, a⟩ := p
  simp only at HC hmax hmin t3 t4 ⊢
  go_enter Try.func8, Try.ntmps8
  go_wp2_with (fail)
  refine (HC.out _ (blk_new w [.int .i64 (a : Nat), .int .i64 (b : Nat), .int .i64 (g : Nat), .int .i64 (r : Nat)] _)).mono ?_
  rintro e w2 ⟨rfl, hd⟩
  have HB : Hid (Below w.heap.size w w2) := ((Below.refl _ _).alloc (Nat.le_refl _) _).trans (hd.below _)
  clear hd
  go_wp2_with (fail)
  go_ret2
  exact ⟨by rw [HN.out]; rfl, HB.out⟩
end Go.Proofs.Ytolekbgbcahfgaa
