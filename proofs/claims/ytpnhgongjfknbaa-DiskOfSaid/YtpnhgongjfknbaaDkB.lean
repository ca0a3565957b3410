/-
  The contracts of a disk's power.
-/
import Derived.Test.YtpnhgongjfknbaaDkA
import Derived.Shelf.Abstract
namespace Go.Proofs.Ytpnhgongjfknbaa
open Go.RowKit omap

theorem goes_any (b m : Nat) (p : Pw) (cap used : Nat) (es : Es) (w : World) (h : Raw w b m p cap used es) (hl : p.left ≤ 9223372036854775807) :
    Calls Try.prog 60 #[.pointer (some ⟨b, 0, none⟩)] w fun e w' => e = .returned (.bool (decide (p.left = 1))) ∧ Raw w' b m { p with left := p.left - 1 } cap used es ∧ Turn (foot b m es) (foot b m es) w w' := by
  obtain ⟨_, c1, _⟩ := h.cells
  have f1 := h.blk.free 1
  obtain ⟨steps, left, down⟩ := p
  simp only at c1 hl ⊢
  cases left with
  | zero =>
    have H := Lib.hid h
    clear h hl
    have t : (((0 : Nat) : Int) == 0) = true := rfl
    go_enter Try.func60, Try.ntmps60
    go_wp2_with (fail)
    go_ret
    exact ⟨rfl, H.out, Turn.refl _ _⟩
  | succ n =>
    have hs := h.set (p' := ⟨steps, n, down⟩) (cap' := cap) (used' := used) 1 (.int .i64 (n : Nat)) rfl
    have hb : (⟨b, 1, none⟩ : Addr).block ∈ foot b m es := List.mem_cons_self
    have HT := Lib.hid (Turn.set (w := w) hb (.int .i64 (n : Nat)))
    have H := Lib.hid hs
    have c2 := hs.cells.2.1
    clear h hb hs
    have t : (((n : Nat) : Int) + 1 == 0) = false := by simp; omega
    have hn : (n : Int) + 1 ≤ 9223372036854775807 := by omega
    have t2 : ((n : Int) == 0) = decide (n = 0) := by
      rw [Bool.eq_iff_iff]
      simp
    clear hl
    go_enter Try.func60, Try.ntmps60
    go_wp2_with (fail)
    go_ret
    exact ⟨rfl, H.out, HT.out⟩

set_option maxHeartbeats 1000000 in
theorem command_down (b m : Nat) (p : Pw) (cap used : Nat) (es : Es) (w : World) (h : Raw w b m p cap used es) (hd : p.down = true) (u v : Value) :
    Calls Try.prog 45 #[.pointer (some ⟨b, 0, none⟩), u, v] w fun e w' => e = .returned (.int .i64 24) ∧ w = w' := by
  obtain ⟨_, _, c2, _⟩ := h.cells
  rw [hd] at c2
  clear h hd
  go_enter Try.func45, Try.ntmps45
  go_wp2_with (fail)
  go_ret
  exact ⟨rfl, rfl⟩

set_option maxHeartbeats 1000000 in
theorem command_goes (b m : Nat) (p : Pw) (cap used : Nat) (es : Es) (w : World) (h : Raw w b m p cap used es) (hd : p.down = false) (hl : p.left = 1) (hs : p.steps ≤ 4611686018427387904) (u : Value) (gl : Nat) (cl : Array Value) (Q : World → Prop) (he : Enters Try.prog gl)
    (hleave : ∀ w1, Raw w1 b m ⟨p.steps + 1, 0, true⟩ cap used es → Turn (foot b m es) (foot b m es) w w1 → Calls Try.prog gl cl w1 fun e w2 => (∃ v, e = .returned v) ∧ Q w2) :
    Calls Try.prog 45 #[.pointer (some ⟨b, 0, none⟩), u, .func (.func gl) #[] cl] w fun e w' => e = .returned (.int .i64 24) ∧ Q w' := by
  obtain ⟨c0, _, c2, _⟩ := h.cells
  obtain ⟨steps, left, down⟩ := p
  simp only at hd hl hs c0 c2 hleave
  subst hd hl
  have f0 := h.blk.free 0
  have f2 := h.blk.free 2
  have hs1 := h.set (p' := ⟨steps + 1, 1, false⟩) (cap' := cap) (used' := used) 0 (.int .i64 ((steps : Int) + 1)) rfl
  have hb : (⟨b, 0, none⟩ : Addr).block ∈ foot b m es := List.mem_cons_self
  have HT := Lib.hid (Turn.set (w := w) hb (.int .i64 ((steps : Int) + 1)))
  have H1 := Lib.hid hs1
  have hn : (steps : Int) ≤ 4611686018427387904 := by omega
  have HL := Lib.hid hleave
  have he' : ∀ (args : Array Value) (w : World), (callFunc gl args).run Try.prog w = .ok (.enter gl args) w := he
  clear h hb hs1 hs hleave
  go_enter Try.func45, Try.ntmps45
  go_wp2_with (fail)
  refine (goes_any b m _ cap used es _ H1.out (by simp)).mono ?_
  rintro e w1 ⟨rfl, h2, t2⟩
  have hs2 := h2.set (p' := ⟨steps + 1, 0, true⟩) (cap' := cap) (used' := used) 2 (.bool true) rfl
  have hb2 : (⟨b, 2, none⟩ : Addr).block ∈ foot b m es := List.mem_cons_self
  have HT2 := Lib.hid ((HT.out.trans t2).trans (Turn.set (w := w1) hb2 (.bool true)))
  obtain ⟨_, _, d2, _⟩ := h2.cells
  have g2 := h2.blk.free 2
  have H2 := Lib.hid hs2
  clear h2 t2 hb2 hs2 HT H1
  go_wp2_with (fail)
  refine (HL.out _ H2.out HT2.out).mono ?_
  rintro e w2 ⟨⟨v, rfl⟩, hq⟩
  go_wp2_with (fail)
  go_ret
  exact ⟨rfl, hq⟩

set_option maxHeartbeats 1000000 in
theorem command_does (b m : Nat) (p : Pw) (cap used : Nat) (es : Es) (w : World) (h : Raw w b m p cap used es) (hd : p.down = false) (hl : p.left ≠ 1) (hl2 : p.left ≤ 9223372036854775807) (hs : p.steps ≤ 4611686018427387904) (gd : Nat) (cd : Array Value) (v : Value) (Q : Int → World → Prop) (he : Enters Try.prog gd)
    (hdo : ∀ w1, Raw w1 b m ⟨p.steps + 1, p.left - 1, false⟩ cap used es → Turn (foot b m es) (foot b m es) w w1 → Calls Try.prog gd cd w1 fun e w2 => ∃ n, e = .returned (.int .i64 n) ∧ Q n w2) :
    Calls Try.prog 45 #[.pointer (some ⟨b, 0, none⟩), .func (.func gd) #[] cd, v] w fun e w' => ∃ n, e = .returned (.int .i64 n) ∧ Q n w' := by
  obtain ⟨c0, _, c2, _⟩ := h.cells
  obtain ⟨steps, left, down⟩ := p
  simp only at hd hl hl2 hs c0 c2 hdo
  subst hd
  have f0 := h.blk.free 0
  have hs1 := h.set (p' := ⟨steps + 1, left, false⟩) (cap' := cap) (used' := used) 0 (.int .i64 ((steps : Int) + 1)) rfl
  have hb : (⟨b, 0, none⟩ : Addr).block ∈ foot b m es := List.mem_cons_self
  have HT := Lib.hid (Turn.set (w := w) hb (.int .i64 ((steps : Int) + 1)))
  have H1 := Lib.hid hs1
  have hn : (steps : Int) ≤ 4611686018427387904 := by omega
  have HL := Lib.hid hdo
  have hq := Lib.hid hl2
  have he' : ∀ (args : Array Value) (w : World), (callFunc gd args).run Try.prog w = .ok (.enter gd args) w := he
  have t1 : decide (left = 1) = false := by simp [hl]
  clear h hb hs1 hs hdo hl hl2 he
  go_enter Try.func45, Try.ntmps45
  go_wp2_with (fail)
  refine (goes_any b m _ cap used es _ H1.out hq.out).mono ?_
  rintro e w1 ⟨rfl, h2, t2⟩
  have HT2 := Lib.hid (HT.out.trans t2)
  have H2 := Lib.hid h2
  clear h2 t2 HT H1
  simp only [t1]
  go_wp2_with (fail)
  refine (HL.out _ H2.out HT2.out).mono ?_
  rintro e w2 ⟨n, rfl, hq⟩
  have HQ := Lib.hid hq
  clear hq
  go_wp2_with (fail)
  go_ret
  exact ⟨n, rfl, HQ.out⟩
theorem enters_nothing : Enters Try.prog 47 := enters_of Try.func47 (by kernel_rfl) rfl
theorem nothing_any (w : World) : Calls Try.prog 47 #[] w fun e w' => e = .returned (.int .i64 0) ∧ w = w' := by
  go_enter Try.func47, Try.ntmps47
  go_wp2_with (fail)
  go_ret
  exact ⟨rfl, rfl⟩
end Go.Proofs.Ytpnhgongjfknbaa
