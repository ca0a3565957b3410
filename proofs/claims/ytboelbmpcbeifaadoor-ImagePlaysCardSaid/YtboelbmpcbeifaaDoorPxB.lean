/-
  Layer 9: a pixel laid of four parts; by, over of one pixel; Of, Parts, Right.
-/
import Derived.Test.YtboelbmpcbeifaaDoorPxA
import Derived.Test.YtboelbmpcbeifaaDoorNewb
import Derived.Laws.Cover1
namespace Go.Proofs.YtboelbmpcbeifaaDoor
open Go.RowKit pxm

theorem Drew.trans {a b c : World} (h : Drew a b) (k : Drew b c) : Drew a c := by
  obtain ⟨n, rfl⟩ := h
  exact k.elim fun m hm => ⟨n + m, by rw [hm, World.drewN_drewN]⟩
theorem or_part (f : Nat → Nat) (hf : ∀ k, k < 4 → f k < 256) (k : Nat) (hk : k < 4) : bits .or .u32 (part4 f k : Nat) ((f k : Int) * (256 ^ k : Nat)) = (part4 f (k + 1) : Nat) := by
  have h1 := part4_lt hf k (by omega)
  have h2 := part4_lt hf (k + 1) (by omega)
  have e : (f k : Int) * (256 ^ k : Nat) = ((f k * 256 ^ k : Nat) : Int) := by rw [Int.natCast_mul]
  have h3 : 256 ^ (k + 1) ≤ 256 ^ 4 := Nat.pow_le_pow_right (by omega) (by omega)
  have h4 : (256 : Nat) ^ 4 = 4294967296 := by decide
  have h5 : part4 f (k + 1) = part4 f k + f k * 256 ^ k := rfl
  rw [e, u32_or_nat _ _ (by omega) (by omega), or_add h1]
  rfl
theorem part4_congr {f g : Nat → Nat} (h : ∀ k, k < 4 → f k = g k) : part4 f 4 = part4 g 4 := by
  simp only [part4]
  rw [h 0 (by omega), h 1 (by omega), h 2 (by omega), h 3 (by omega)]
theorem part4_times (p : P4) (q : Nat) : part4 (fun k => by_ (p.at_ k) q) 4 = (p.times q).num := by
  rw [← part4_num]
  exact part4_congr fun k hk => by
    obtain rfl | rfl | rfl | rfl : k = 0 ∨ k = 1 ∨ k = 2 ∨ k = 3 := by omega
    all_goals rfl
theorem part4_over (s d : P4) : part4 (fun k => s.at_ k + by_ (d.at_ k) (255 - s.a)) 4 = (s.over d).num := by
  rw [← part4_num]
  exact part4_congr fun k hk => by
    obtain rfl | rfl | rfl | rfl : k = 0 ∨ k = 1 ∨ k = 2 ∨ k = 3 := by omega
    all_goals rfl
theorem over_at (s d : P4) (k : Nat) (hk : k < 4) : s.at_ k + by_ (d.at_ k) (255 - s.a) = (s.over d).at_ k := by
  obtain rfl | rfl | rfl | rfl : k = 0 ∨ k = 1 ∨ k = 2 ∨ k = 3 := by omega
  all_goals rfl
theorem Drew.blk {w w' : World} {g : Nat} {cs : List Value} (h : Drew w w') (hb : Blk w g cs) : Blk w' g cs := hb.below' (h.below _)

theorem at4 (p : P4) : p.at_ 3 = p.r ∧ p.at_ 2 = p.g ∧ p.at_ 1 = p.b ∧ p.at_ 0 = p.a := ⟨rfl, rfl, rfl, rfl⟩
theorem results_tmp4 {fn : Func} {t u v x : Tmp} (h : fn.results = #[.tmp t, .tmp u, .tmp v, .tmp x]) (tmps : Array Value) (P : Program) (w : World) :
    (results fn tmps).run P w = .ok (.tuple #[tmps.getD t undef, tmps.getD u undef, tmps.getD v undef, tmps.getD x undef]) w := by
  simp [results, h]
set_option maxHeartbeats 1000000 in
theorem parts_any (p : P4) (hp : p.Bytes) (w : World) :
    Calls Tryd.prog 40 #[.int .u32 (p.num : Nat)] w fun e w' => e = .returned (.tuple #[.int .i64 (p.r : Nat), .int .i64 (p.g : Nat), .int .i64 (p.b : Nat), .int .i64 (p.a : Nat)]) ∧ Drew w w' := by
  have H3 := Lib.hid (fun w => part_any p hp 3 (by omega) w)
  have H2 := Lib.hid (fun w => part_any p hp 2 (by omega) w)
  have H1 := Lib.hid (fun w => part_any p hp 1 (by omega) w)
  have H0 := Lib.hid (fun w => part_any p hp 0 (by omega) w)
  have hn := hp.lt
  clear hp
  go_enter Tryd.func40, Tryd.ntmps40
  go_wp2_with (fail)
  refine (H3.out _).mono ?_
  rintro e w1 ⟨rfl, hd1⟩
  have D1 := Lib.hid hd1
  clear hd1
  go_wp2_with (fail)
  refine (H2.out _).mono ?_
  rintro e w2 ⟨rfl, hd2⟩
  have D2 := Lib.hid (D1.out.trans hd2)
  clear hd2 D1
  go_wp2_with (fail)
  refine (H1.out _).mono ?_
  rintro e w3 ⟨rfl, hd3⟩
  have D3 := Lib.hid (D2.out.trans hd3)
  clear hd3 D2
  go_wp2_with (fail)
  refine (H0.out _).mono ?_
  rintro e w4 ⟨rfl, hd4⟩
  have D4 := Lib.hid (D3.out.trans hd4)
  clear hd4 D3
  go_wp2_with (fail)
  exact bodyPost_ret (results_tmp4 rfl _ _ _) rfl ⟨rfl, D4.out⟩
theorem max3 (x y z : Int) : ∃ M : Int, (∀ (P : Program) (w : World) (ts : Array TypeId) (t : TypeId), (Builtin.max_ ts t #[.int .i64 x, .int .i64 y, .int .i64 z]).run P w = .ok (.int .i64 M) w) ∧ (∀ a, M ≤ a ↔ x ≤ a ∧ y ≤ a ∧ z ≤ a) := by
  refine ⟨_, fun P w ts t => run_max_int3 w ts t _ _ _ x y z, fun a => ?_⟩
  split <;> split <;> omega
theorem min3 (x y z : Int) : ∃ M : Int, (∀ (P : Program) (w : World) (ts : Array TypeId) (t : TypeId), (Builtin.min_ ts t #[.int .i64 x, .int .i64 y, .int .i64 z]).run P w = .ok (.int .i64 M) w) ∧ (∀ a, a ≤ M ↔ a ≤ x ∧ a ≤ y ∧ a ≤ z) := by
  refine ⟨_, fun P w ts t => run_min_int3 w ts t _ _ _ x y z, fun a => ?_⟩
  split <;> split <;> omega
set_option maxHeartbeats 1000000 in
theorem right_any (p : P4) (hp : p.Bytes) (w : World) :
    Calls Tryd.prog 27 #[.int .u32 (p.num : Nat)] w fun e w' => e = .returned (.bool p.rightB) ∧ Drew w w' := by
  have H := Lib.hid (fun w => parts_any p hp w)
  have HR2 : Hid (p.rightB = (decide (p.r ≤ p.a) && (decide (p.g ≤ p.a) && (decide (p.b ≤ p.a) && decide (p.a ≤ 255))))) := rfl
  generalize p.rightB = R at *
  obtain ⟨h1, h2, h3, h4⟩ := hp
  generalize p.num = n at *
  obtain ⟨r, g, b, a⟩ := p
  simp only at H HR2 h1 h2 h3 h4
  obtain ⟨M, hrun, hM⟩ := max3 r g b
  have HM : Hid (decide (M ≤ (a : Int)) = R) := by
    rw [HR2.out]
    have := hM a
    have h5 : a ≤ 255 := by omega
    show _ = _
    rw [decide_eq_true h5, Bool.and_true, ← Bool.decide_and, ← Bool.decide_and, decide_eq_decide]
    omega
  clear hM HR2
  go_enter Tryd.func27, Tryd.ntmps27
  go_wp2_with (fail)
  refine (H.out _).mono ?_
  rintro e w1 ⟨rfl, hd1⟩
  have D1 := Lib.hid hd1
  clear hd1
  go_wp2_with (fail)
  go_ret
  exact ⟨ret_bool HM.out, D1.out⟩
end Go.Proofs.YtboelbmpcbeifaaDoor
