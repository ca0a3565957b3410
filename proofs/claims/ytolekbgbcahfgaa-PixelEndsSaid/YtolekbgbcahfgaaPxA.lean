/-
  Layer 9: the contracts of pixel's leaves and of the document's own: a part, a part by a part; closures; each.
-/
import Derived.Test.YtolekbgbcahfgaaPxMath
import Derived.Deep.QuietTactic
import Derived.BigQuiet
import Derived.Laws.BitsAllLaws
import Derived.Shelf.Abstract
namespace Go.Proofs.Ytolekbgbcahfgaa
open Go.RowKit pxm

/-- a callee that only reads, as go_quiet wants it: `with_reducible exact .. _` -/
theorem quietly {P : Program} {f : FuncId} {args : Array Value} {v : Value} (h : ∀ w, Calls P f args w fun e w' => e = .returned v ∧ Drew w w') (w : World) : ∀ n, Calls P f args (w.drewN n) fun e w'' => e = .returned v ∧ ∃ m, w'' = w.drewN m :=
  fun _ => Calls.quiet_of (h _)
theorem bel_of_drew {P : Program} {f : FuncId} {args : Array Value} {v : Value} {w : World} (h : Calls P f args w fun e w' => e = .returned v ∧ Drew w w') : Calls P f args w fun e w' => e = .returned v ∧ Below w.heap.size w w' :=
  h.mono fun _ _ ⟨he, hd⟩ => ⟨he, hd.below _⟩
set_option maxHeartbeats 400000 in
theorem part_any (p : P4) (hp : p.Bytes) (k : Nat) (hk : k < 4) (w : World) :
    Calls Try.prog 25 #[.int .u32 (p.num : Nat), .int .i64 (k : Nat)] w fun e w' => e = .returned (.int .i64 (p.at_ k : Nat)) ∧ Drew w w' := by
  obtain ⟨h1, h2, h3, h4⟩ := hp
  obtain rfl | rfl | rfl | rfl : k = 0 ∨ k = 1 ∨ k = 2 ∨ k = 3 := by omega
  all_goals
    go_enter Try.func25, Try.ntmps25
    go_wp2_with (fail)
    go_ret
    refine ⟨ret_num ?_, Drew.refl _⟩
    simp only [P4.at_, P4.num]
    omega
set_option maxHeartbeats 400000 in
theorem by_any (x q : Nat) (hx : x < 256) (hq : q < 256) (w : World) :
    Calls Try.prog 15 #[.int .i64 (x : Nat), .int .i64 (q : Nat)] w fun e w' => e = .returned (.int .i64 (by_ x q : Nat)) ∧ Drew w w' := by
  have hm := mul_lt hx hq
  obtain ⟨P, hP⟩ : ∃ P : Nat, x * q = P := ⟨_, rfl⟩
  have e : (x : Int) * (q : Int) = (P : Nat) := by rw [← hP]; simp
  have HB : Hid (by_ x q = (P + 127) / 255) := by rw [← hP]; rfl
  rw [hP] at hm
  clear hP
  go_enter Try.func15, Try.ntmps15
  go_wp2_with (fail)
  all_goals
    go_ret
    exact ⟨ret_num (by rw [HB.out]; simp), Drew.refl _⟩
set_option maxHeartbeats 400000 in
theorem dby_any (x q : Nat) (hx : x < 256) (hq : q < 256) (w : World) :
    Calls Try.prog 16 #[.int .i64 (x : Nat), .int .i64 (q : Nat)] w fun e w' => e = .returned (.int .i64 (by_ x q : Nat)) ∧ Drew w w' := by
  have hm := mul_lt hx hq
  obtain ⟨P, hP⟩ : ∃ P : Nat, x * q = P := ⟨_, rfl⟩
  have e : (x : Int) * (q : Int) = (P : Nat) := by rw [← hP]; simp
  have HB : Hid (by_ x q = if 255 < 2 * (P - 255 * (P / 255)) then P / 255 + 1 else P / 255) := by rw [← hP]; exact by_doc _
  rw [hP] at hm
  have hq1 : P / 255 ≤ 255 := by omega
  have hq2 : 255 * (P / 255) ≤ P := by omega
  have e2 : (P : Int) / 255 = ((P / 255 : Nat) : Int) := by simp
  generalize P / 255 = D at *
  clear hP
  by_cases t : 255 < 2 * (P - 255 * D)
  · rw [if_pos t] at HB
    have t1 : decide ((255 : Int) < 2 * ((P : Int) - 255 * (D : Int))) = true := by simp; omega
    clear t
    go_enter Try.func16, Try.ntmps16
    go_wp2_with (fail)
    go_ret
    exact ⟨ret_num (by rw [HB.out]; simp), Drew.refl _⟩
  · rw [if_neg t] at HB
    have t1 : decide ((255 : Int) < 2 * ((P : Int) - 255 * (D : Int))) = false := by simp; omega
    clear t
    go_enter Try.func16, Try.ntmps16
    go_wp2_with (fail)
    go_ret
    exact ⟨ret_num (by rw [HB.out]), Drew.refl _⟩
/-! ### The three closures: they read what they hold -/
theorem enters_by1 : Enters Try.prog 29 := enters_of Try.func29 (by kernel_rfl) rfl
theorem enters_over1 : Enters Try.prog 28 := enters_of Try.func28 (by kernel_rfl) rfl
theorem enters_of1 : Enters Try.prog 24 := enters_of Try.func24 (by kernel_rfl) rfl
set_option maxHeartbeats 400000 in
theorem by1_any (p : P4) (hp : p.Bytes) (q : Nat) (hq : q < 256) (bp bq : Nat) (k : Nat) (hk : k < 4) (w : World) (h1 : Blk w bp [.int .u32 (p.num : Nat)]) (h2 : Blk w bq [.int .i64 (q : Nat)]) :
    Calls Try.prog 29 #[.int .i64 (k : Nat), .pointer (some ⟨bp, 0, none⟩), .pointer (some ⟨bq, 0, none⟩)] w fun e w' => e = .returned (.int .i64 (by_ (p.at_ k) q : Nat)) ∧ Drew w w' := by
  have c1 : w.cell? ⟨bp, 0, none⟩ = some (.int .u32 (p.num : Nat)) := h1.cell 0
  have c2 : w.cell? ⟨bq, 0, none⟩ = some (.int .i64 (q : Nat)) := h2.cell 0
  have i1 := h1.inside
  have i2 := h2.inside
  have HP := Lib.hid (fun w => part_any p hp k hk w)
  have HB := Lib.hid (fun w => by_any (p.at_ k) q (hp.at_ k) hq w)
  clear h1 h2 hp hk hq
  generalize p.at_ k = x at *
  go_enter Try.func29, Try.ntmps29
  go_wp2_with (fail)
  go_quiet ((first | (go_at_call 25; exact Calls.quiet_of (HP.out _)) | (go_at_call 15; exact Calls.quiet_of (HB.out _))))
  go_wp2_with (fail)
  go_ret
  exact ⟨rfl, (Drew.refl _).more _⟩
set_option maxHeartbeats 400000 in
theorem over1_any (s d : P4) (hs : s.Bytes) (hd : d.Bytes) (q : Nat) (hq : q < 256) (b1 b2 b3 : Nat) (k : Nat) (hk : k < 4) (w : World) (h1 : Blk w b1 [.int .u32 (s.num : Nat)]) (h2 : Blk w b2 [.int .u32 (d.num : Nat)]) (h3 : Blk w b3 [.int .i64 (q : Nat)]) :
    Calls Try.prog 28 #[.int .i64 (k : Nat), .pointer (some ⟨b1, 0, none⟩), .pointer (some ⟨b2, 0, none⟩), .pointer (some ⟨b3, 0, none⟩)] w fun e w' => e = .returned (.int .i64 (s.at_ k + by_ (d.at_ k) q : Nat)) ∧ Drew w w' := by
  have c1 : w.cell? ⟨b1, 0, none⟩ = some (.int .u32 (s.num : Nat)) := h1.cell 0
  have c2 : w.cell? ⟨b2, 0, none⟩ = some (.int .u32 (d.num : Nat)) := h2.cell 0
  have c3 : w.cell? ⟨b3, 0, none⟩ = some (.int .i64 (q : Nat)) := h3.cell 0
  have i1 := h1.inside
  have i2 := h2.inside
  have i3 := h3.inside
  have HP := Lib.hid (quietly (fun w => part_any s hs k hk w) w)
  have HD := Lib.hid (quietly (fun w => part_any d hd k hk w) w)
  have HB := Lib.hid (quietly (fun w => by_any (d.at_ k) q (hd.at_ k) hq w) w)
  have hx := hs.at_ k
  have hy := by_lt (hd.at_ k) hq
  clear h1 h2 h3 hs hd hk hq
  generalize s.at_ k = x at *
  generalize by_ (d.at_ k) q = y at *
  generalize d.at_ k = z at *
  generalize s.num = N at *
  generalize d.num = M at *
  go_enter Try.func28, Try.ntmps28
  go_wp2_with (fail)
  go_quiet ((first | (go_at_call 25; first | with_reducible exact HP.out _ | with_reducible exact HD.out _) | (go_at_call 15; with_reducible exact HB.out _)))
  go_wp2_with (fail)
  go_ret
  exact ⟨rfl, (Drew.refl _).more _⟩
set_option maxHeartbeats 400000 in
theorem of1_any (p : P4) (b : Nat) (k : Nat) (hk : k < 4) (w : World) (h : Blk w b [.int .i64 (p.a : Nat), .int .i64 (p.b : Nat), .int .i64 (p.g : Nat), .int .i64 (p.r : Nat)]) :
    Calls Try.prog 24 #[.int .i64 (k : Nat), .pointer (some ⟨b, 0, none⟩)] w fun e w' => e = .returned (.int .i64 (p.at_ k : Nat)) ∧ Drew w w' := by
  obtain ⟨⟨c0, c1, c2, c3⟩, -, ci⟩ := Blk.c4 h
  obtain rfl | rfl | rfl | rfl : k = 0 ∨ k = 1 ∨ k = 2 ∨ k = 3 := by omega
  all_goals
    go_enter Try.func24, Try.ntmps24
    go_wp2_with (fail)
    go_ret
    exact ⟨rfl, Drew.refl _⟩
end Go.Proofs.Ytolekbgbcahfgaa
