/-
  The contracts of an In's calls.
-/
import Derived.Test.YtoipokjoklhfjaaDoorCoD
import Derived.Test.YtoipokjoklhfjaaDoorCoE
namespace Go.Proofs.YtoipokjoklhfjaaDoor
open Go.RowKit numb

/-! ### What each call makes of what an In stands for, by the document -/
def St.uint (s : St) : St × Nat := if s.e ≠ 0 then (s, 0) else (⟨(read s.l).r, (read s.l).e⟩, (read s.l).v)
def St.raw (s : St) (n : Int) : St × List Nat := if s.e ≠ 0 then (s, []) else if n < 0 then (⟨[], 10⟩, []) else if (s.l.length : Int) < n then (⟨[], 16⟩, []) else (⟨s.l.drop n.toNat, 0⟩, s.l.take n.toNat)
def St.below (s : St) (most : Int) : St × Nat := if s.uint.1.e = 0 ∧ most < (s.uint.2 : Int) then (⟨[], 17⟩, 0) else s.uint
def St.int (s : St) : St × Int := (s.uint.1, zag s.uint.2)
def St.bool (s : St) : St × Bool := if (s.raw 1).1.e ≠ 0 then ((s.raw 1).1, false) else if 1 < (s.raw 1).2.getD 0 0 then (⟨[], 10⟩, false) else ((s.raw 1).1, (s.raw 1).2.getD 0 0 == 1)
def St.text (s : St) (most : Int) : St × List Nat := (s.below most).1.raw ((s.below most).2 : Int)
def St.fin (s : St) : Nat := if s.e = 0 ∧ 0 < s.l.length then 17 else s.e

theorem read_nil : read [] = .bad 16 := by simp [numb.read, lead]
theorem read_bad {l : List Nat} {e : Nat} (h : read l = .bad e) : e = 10 ∨ e = 16 := by
  unfold numb.read at h
  simp only at h
  split at h
  · exact .inl (Got.bad.inj h).symm
  · split at h
    · exact .inr (Got.bad.inj h).symm
    · split at h
      · exact .inl (Got.bad.inj h).symm
      · cases h
theorem read_rest {l : List Nat} {v : Nat} {r : List Nat} (h : read l = .ok v r) : ∃ n, 0 < n ∧ n ≤ l.length ∧ r = l.drop n := by
  unfold numb.read at h
  simp only at h
  split at h
  · cases h
  · split at h
    · cases h
    · split at h
      · cases h
      · simp only [Got.ok.injEq] at h
        have := lead_le l
        exact ⟨min (lead l) 10 + 1, by omega, by omega, h.2.symm⟩
theorem st_eta {s : St} (hl : s.l = []) : s = ⟨[], s.e⟩ := by cases s; simp_all
theorem uint_bad {s : St} (hs : s.e ≠ 0 → s.l = []) {e : Nat} (h : read s.l = .bad e) : s.uint = (s.fail e, 0) := by
  unfold St.uint St.fail
  by_cases h0 : s.e = 0
  · rw [if_neg (by omega), if_pos h0, h]
    rfl
  · rw [if_pos h0, if_neg h0, ← st_eta (hs h0)]
theorem uint_ok {s : St} (hs : s.e ≠ 0 → s.l = []) {v : Nat} {r : List Nat} (h : read s.l = .ok v r) : s.uint = (⟨r, s.e⟩, v) ∧ s.e = 0 := by
  have h0 : s.e = 0 := by
    by_cases h0 : s.e = 0
    · exact h0
    · rw [hs h0, read_nil] at h
      cases h
  unfold St.uint
  rw [if_neg (by omega), h, h0]
  exact ⟨rfl, rfl⟩

set_option maxHeartbeats 1000000 in
theorem in_uint_any (lo b : Nat) (s : St) (w : World) (h : InAt w lo b s) :
    Calls Tryd.prog 37 #[In b] w fun r w' => r = .returned (.int .u64 (s.uint.2 : Nat)) ∧ InAt w' lo b s.uint.1 ∧ InStep b w w' := by
  obtain ⟨a, c, h0, h1, h2, h3, h4, h5, h6, h7, h8, h9, h10⟩ := id h
  cases hr : read s.l with
  | bad e =>
    have G := Lib.hid (gotV_bad hr)
    have U := Lib.hid (uint_bad h9 hr)
    have he := read_bad hr
    have t : ((e : Int) == 0) = false := by simp; omega
    have t' : ((e : Int) != 0) = true := by simp; omega
    have HI := Lib.hid h
    clear h hr h1 h2 h3 h9 h10 h8
    unfold In
    go_enter Tryd.func37, Tryd.ntmps37
    go_wp2_with (fail)
    refine (number_any a s.l c w h4 h5 h6 h7).mono ?_
    rintro r w' ⟨rfl, rfl⟩
    rw [G.out]
    go_wp2_with (fail)
    refine (in_fail_any lo b s e w HI.out (by omega)).mono ?_
    rintro r w1 ⟨rfl, p1, p2⟩
    go_wp2_with (fail)
    go_ret
    rw [U.out]
    exact ⟨rfl, p1, p2⟩
  | ok v r =>
    obtain ⟨U, hs0⟩ := uint_ok h9 hr
    obtain ⟨n, hn0, hn1, rfl⟩ := read_rest hr
    obtain ⟨k, rfl⟩ : ∃ k, n = k + 1 := ⟨n - 1, by omega⟩
    have G := Lib.hid (gotV_done (by omega) hr)
    have HU := Lib.hid U
    have hlen : s.l.length - (k + 1) = (s.l.drop (k + 1)).length := by rw [List.length_drop]
    have hA : ∃ g off, a = some ⟨g, off, none⟩ ∧ lo ≤ g ∧ g < b := by
      rcases h8 with ⟨_, hc0⟩ | h8
      · omega
      · exact h8
    obtain ⟨g, off, rfl, hg1, hg2⟩ := hA
    have hk1 : (k : Int) + 1 ≤ (s.l.length : Int) := by omega
    have hcm : c ≤ 9223372036854775807 := by unfold maxLen at h5; omega
    by_cases hck : c = k + 1
    · subst hck
      have P := in_put h (A := some ⟨g, off, none⟩) (n := 0) (c := 0) (l := s.l.drop (k + 1)) (by omega) (by omega) (by omega) (Row.none_ (by omega)) (h7.drop _) (.inr ⟨g, off, rfl, hg1, hg2⟩) (fun hx => absurd hs0 hx)
      have HP := Lib.hid P
      clear P h1 h3 h9 h10 h8 hr U hs0 hlen h
      unfold In
      go_enter Tryd.func37, Tryd.ntmps37
      go_wp2_with (fail)
      refine (number_any _ s.l (k + 1) w h4 h5 h6 h7).mono ?_
      rintro r w' ⟨rfl, rfl⟩
      rw [G.out]
      go_wp2_with (fail)
      go_ret
      rw [HU.out]
      exact ⟨rfl, HP.out.1, HP.out.2⟩
    · have P := in_put h (A := some ⟨g, off + (k + 1), none⟩) (n := s.l.length - (k + 1)) (c := c - (k + 1)) (l := s.l.drop (k + 1)) (by omega) (by omega) (by unfold maxLen at h5 ⊢; omega) (Row.drop h6 _) (h7.drop _) (.inr ⟨g, _, rfl, hg1, hg2⟩) (fun hx => absurd hs0 hx)
      have HP := Lib.hid P
      clear P h1 h3 h9 h10 h8 hr U hs0 hlen h
      unfold In
      go_enter Tryd.func37, Tryd.ntmps37
      go_wp2_with (fail)
      refine (number_any _ s.l c w h4 h5 h6 h7).mono ?_
      rintro r w' ⟨rfl, rfl⟩
      rw [G.out]
      go_wp2_with (fail)
      go_ret
      rw [HU.out]
      exact ⟨rfl, HP.out.1, HP.out.2⟩

theorem Row.instep {α : Type} {enc : α → Value} {w w' : World} {A : Option Addr} {l : List α} {b : Nat} (h : Row enc w A l) (hs : InStep b w w') (hA : ∀ x, A = some x → x.block ≠ b) : Row enc w' A l := fun hn => by
  obtain ⟨g, off, e, hc⟩ := h hn
  refine ⟨g, off, e, fun j hj => ?_⟩
  exact (World.cell?_of_block (a := ⟨g, off + j, none⟩) (hs.far g (World.block_lt_of_cell? w _ (hc j hj)) (hA _ e))).trans (hc j hj)

theorem uint_U64 {s : St} (hl : AreBytes s.l) : U64 s.uint.2 := by
  unfold St.uint
  split
  · show (0 : Nat) < _
    omega
  · cases hr : read s.l with
    | bad e => show (0 : Nat) < _; omega
    | ok v r => exact (read_ok hl hr).2

theorem uint_err {s : St} (hs : s.e ≠ 0 → s.l = []) (h : s.uint.1.e ≠ 0) : s.uint.1.l = [] ∧ s.uint.2 = 0 := by
  cases hr : read s.l with
  | bad e =>
    rw [uint_bad hs hr]
    exact ⟨rfl, rfl⟩
  | ok v r =>
    obtain ⟨h1, h2⟩ := uint_ok hs hr
    rw [h1] at h
    exact absurd h2 h
theorem InAt.inv {w : World} {lo b : Nat} {s : St} (h : InAt w lo b s) : s.e ≠ 0 → s.l = [] := by
  obtain ⟨_, _, _, _, _, _, _, _, _, _, _, h, _⟩ := h
  exact h
theorem InAt.err {w : World} {lo b : Nat} {s : St} (h : InAt w lo b s) : s.e < 256 := by
  obtain ⟨_, _, _, _, _, _, _, _, _, _, _, _, h⟩ := h
  exact h

set_option maxHeartbeats 1000000 in
theorem in_below_any (lo b : Nat) (s : St) (most : Int) (w : World) (h : InAt w lo b s) (hm : I64 most) :
    Calls Tryd.prog 27 #[In b, .int .i64 most] w fun r w' => r = .returned (.int .i64 ((s.below most).2 : Nat)) ∧ InAt w' lo b (s.below most).1 ∧ InStep b w w' := by
  have hU := uint_U64 h.are
  have hm1 := hm.1
  have hm2 := hm.2
  clear hm
  have hE := uint_err (fun hx => (h.inv hx))
  have HI := Lib.hid h
  by_cases hbig : most < (s.uint.2 : Int)
  · have B : Hid (s.below most = (s.uint.1.fail 17, 0)) := by
      unfold St.below
      by_cases e0 : s.uint.1.e = 0
      · rw [if_pos ⟨e0, hbig⟩]
        unfold St.fail
        rw [if_pos e0]
        rfl
      · obtain ⟨e1, e2⟩ := hE e0
        rw [if_neg (fun hx => e0 hx.1)]
        unfold St.fail
        rw [if_neg e0, ← st_eta e1, ← e2]
        rfl
    clear h hE
    by_cases hneg : most < 0
    · clear hbig
      unfold In
      go_enter Tryd.func27, Tryd.ntmps27
      go_wp2_with (fail)
      refine (in_uint_any lo b s w HI.out).mono ?_
      rintro r w1 ⟨rfl, p1, p2⟩
      have HP := Lib.hid (And.intro p1 p2)
      clear p1 p2
      go_wp2_with (fail)
      refine (in_fail_any lo b _ 17 w1 HP.out.1 (by omega)).mono ?_
      rintro r w2 ⟨rfl, p1, p2⟩
      have HQ := Lib.hid (And.intro p1 p2)
      clear p1 p2
      go_wp2_with (fail)
      go_ret
      rw [B.out]
      exact ⟨rfl, HQ.out.1, HP.out.2.trans HQ.out.2⟩
    · have hpos : 0 ≤ most := by omega
      have t1 : decide (most < 0) = false := by simpa using hpos
      have t2 : decide (most < (s.uint.2 : Int)) = true := by simpa using hbig
      clear hneg
      have hv := hU.lt
      clear hU
      unfold In
      go_enter Tryd.func27, Tryd.ntmps27
      go_wp2_with (fail)
      refine (in_uint_any lo b s w HI.out).mono ?_
      rintro r w1 ⟨rfl, p1, p2⟩
      have HP := Lib.hid (And.intro p1 p2)
      clear p1 p2
      generalize s.uint.2 = v at *
      go_wp2_with (fail)
      refine (in_fail_any lo b _ 17 w1 HP.out.1 (by omega)).mono ?_
      rintro r w2 ⟨rfl, p1, p2⟩
      have HQ := Lib.hid (And.intro p1 p2)
      clear p1 p2
      go_wp2_with (fail)
      go_ret
      rw [B.out]
      exact ⟨rfl, HQ.out.1, HP.out.2.trans HQ.out.2⟩
  · have B : Hid (s.below most = s.uint) := by
      unfold St.below
      rw [if_neg (fun hx => hbig hx.2)]
      rfl
    have hpos : 0 ≤ most := by omega
    have t1 : decide (most < 0) = false := by simpa using hpos
    have t2 : decide (most < (s.uint.2 : Int)) = false := by simpa using hbig
    have hle : (s.uint.2 : Int) ≤ most := by omega
    clear h hE hU hbig
    rw [B.out]
    obtain ⟨v, hv⟩ : ∃ v, v = s.uint.2 := ⟨_, rfl⟩
    rw [← hv] at t2 hle ⊢
    have HV := Lib.hid hv
    clear hv
    unfold In
    go_enter Tryd.func27, Tryd.ntmps27
    go_wp2_with (fail)
    refine (in_uint_any lo b s w HI.out).mono ?_
    rintro r w1 ⟨rfl, p1, p2⟩
    rw [← HV.out]
    have HP := Lib.hid (And.intro p1 p2)
    clear p1 p2
    go_wp2_with (fail)
    go_ret
    exact ⟨rfl, HP.out.1, HP.out.2⟩

set_option maxHeartbeats 1000000 in
theorem in_err_any (lo b : Nat) (s : St) (w : World) (h : InAt w lo b s) :
    Calls Tryd.prog 28 #[In b] w fun r w' => r = .returned (.int .i64 (s.e : Nat)) ∧ w = w' := by
  obtain ⟨a, c, _, h1, _⟩ := h
  unfold In
  go_enter Tryd.func28, Tryd.ntmps28
  go_wp2_with (fail)
  go_ret
  exact ⟨rfl, rfl⟩

end Go.Proofs.YtoipokjoklhfjaaDoor
