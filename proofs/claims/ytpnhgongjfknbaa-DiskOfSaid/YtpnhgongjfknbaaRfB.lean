/-
  The document's own disk: the place of a file, how much is used.
-/
import Derived.Test.YtpnhgongjfknbaaRfA
namespace Go.Proofs.Ytpnhgongjfknbaa
open Go.RowKit omap

/-- the place of a file; -1: there is none -/
def placeI (k : Nm) (fs : Fs) : Int := if fs.findIdx (fun x => x.1 == k) < fs.length then (fs.findIdx (fun x => x.1 == k) : Int) else -1
theorem placeI_none {k : Nm} {fs : Fs} (h : ∀ j (hj : j < fs.length), fs[j].1 ≠ k) : placeI k fs = -1 := by
  unfold placeI
  rw [if_neg]
  rw [List.findIdx_lt_length]
  rintro ⟨x, hx, he⟩
  obtain ⟨j, hj, rfl⟩ := List.getElem_of_mem hx
  exact h j hj (by simpa using he)
theorem placeI_some {k : Nm} {fs : Fs} {i : Nat} (hi : i < fs.length) (h : ∀ j (hj : j < fs.length), j < i → fs[j].1 ≠ k) (he : fs[i].1 = k) : placeI k fs = (i : Int) := by
  have h1 : fs.findIdx (fun x => x.1 == k) = i := by
    rw [List.findIdx_eq hi]
    exact ⟨by simpa using he, fun j hj => by simpa using h j (by omega) hj⟩
  unfold placeI
  rw [h1, if_pos hi]
/-- how many bytes all have -/
def usedN (fs : Fs) : Nat := (fs.map fun x => x.2.l.length).sum
theorem usedN_step {fs : Fs} {k : Nat} (h : k < fs.length) : usedN (fs.take (k + 1)) = usedN (fs.take k) + fs[k].2.l.length := by
  unfold usedN
  rw [List.take_succ_eq_append_getElem h, List.map_append, List.sum_append]
  simp
theorem usedN_take (fs : Fs) (k : Nat) : usedN (fs.take k) ≤ usedN fs := by
  have h : usedN fs = usedN (fs.take k) + usedN (fs.drop k) := by
    unfold usedN
    rw [← List.sum_append, ← List.map_append, List.take_append_drop]
  omega

set_option maxRecDepth 100000 in
set_option maxHeartbeats 4000000 in
theorem rAt_ex (x : Rf) (s : ByteArray) (w : World) (hx : x.ok w) : Calls Try.prog 14 #[x.v, .string s] w fun e w' => e = .returned (.int .i64 (placeI s.data.toList x.d.fs)) ∧ w' = w.alloc (.cells #[.slice x.A x.d.fs.length x.c, .int .i64 (x.d.cap : Nat), .int .i64 (x.d.p.left : Nat), .int .i64 (x.d.p.steps : Nat), .bool x.d.p.down] 32) := by
  obtain ⟨A, c, d⟩ := x
  obtain ⟨hr, -, hfew⟩ := hx
  obtain ⟨⟨steps, left, down⟩, cap, fs⟩ := d
  simp only at hr hfew
  have HROW := Lib.hid hr
  unfold Rf.v
  simp only
  clear hr
  go_enter Try.func14, Try.ntmps14
  go_wp2_with (fail)
  go_loopw [5] (fun i wr => ∃ k : Nat, k ≤ fs.length ∧ i = .int .i64 k ∧ wr = w.alloc (.cells #[.slice A fs.length c, .int .i64 (cap : Nat), .int .i64 (left : Nat), .int .i64 (steps : Nat), .bool down] 32) ∧ Hid (∀ j (hj : j < fs.length), j < k → fs[j].1 ≠ s.data.toList)) (fun i _ => fs.length - (intOf i).toNat)
  case atStart => exact ⟨0, Nat.zero_le _, rfl, rfl, fun j _ h => absurd h (Nat.not_lt_zero j)⟩
  case round =>
    obtain ⟨k, hk, rfl, rfl, hall⟩ := hrel
    have HB : Hid (Below w.heap.size w (w.alloc (.cells #[.slice A fs.length c, .int .i64 (cap : Nat), .int .i64 (left : Nat), .int .i64 (steps : Nat), .bool down] 32))) := (Below.refl _ _).alloc (Nat.le_refl _) _
    by_cases hlt : k < fs.length
    · obtain ⟨rb, off, ra, hcell⟩ := (HROW.out.below HB.out) (by omega)
      subst ra
      obtain ⟨q0, q1, q2⟩ := hcell k hlt
      by_cases he : fs[k].1 = s.data.toList
      · have HE : Hid (placeI s.data.toList fs = (k : Int)) := placeI_some hlt hall.out he
        have ht : (fs[k].1 == s.toList) = true := by rw [ByteArray.toList_eq]; simpa using he
        clear hcell he
        go_wp2_with (fail)
        go_ret
        rw [HE.out]
        exact ⟨rfl, rfl⟩
      · have HA : Hid (∀ j (hj : j < fs.length), j < k + 1 → fs[j].1 ≠ s.data.toList) := fun j hj hjk => by
          rcases Nat.lt_or_eq_of_le (Nat.le_of_lt_succ hjk) with h | rfl
          · exact hall.out j hj h
          · exact he
        have ht : (fs[k].1 == s.toList) = false := by rw [ByteArray.toList_eq]; simpa using he
        clear hcell he
        go_wp2_with (fail)
        go_roundw
        case rel => exact ⟨k + 1, by omega, by go_num, trivial, HA.out⟩
        case measure => simp [intOf]; omega
    · have hk' : k = fs.length := by omega
      subst hk'
      have HE : Hid (placeI s.data.toList fs = -1) := placeI_none fun j hj => hall.out j hj hj
      clear hlt hk
      go_wp2_with (fail)
      go_ret
      rw [HE.out]
      exact ⟨rfl, rfl⟩

theorem rAt_any (x : Rf) (s : ByteArray) (w : World) (hx : x.ok w) : Calls Try.prog 14 #[x.v, .string s] w fun e w' => e = .returned (.int .i64 (placeI s.data.toList x.d.fs)) ∧ Below w.heap.size w w' :=
  (rAt_ex x s w hx).mono fun _ _ ⟨h1, h2⟩ => ⟨h1, h2 ▸ (Below.refl _ _).alloc (Nat.le_refl _) _⟩

set_option maxRecDepth 100000 in
set_option maxHeartbeats 4000000 in
theorem rUsed_ex (x : Rf) (w : World) (hx : x.ok w) (hu : usedN x.d.fs ≤ 1000000000000) : Calls Try.prog 35 #[x.v] w fun e w' => e = .returned (.int .i64 (usedN x.d.fs : Nat)) ∧ w' = w.alloc (.cells #[.slice x.A x.d.fs.length x.c, .int .i64 (x.d.cap : Nat), .int .i64 (x.d.p.left : Nat), .int .i64 (x.d.p.steps : Nat), .bool x.d.p.down] 32) := by
  obtain ⟨A, c, d⟩ := x
  obtain ⟨hr, -, hfew⟩ := hx
  obtain ⟨⟨steps, left, down⟩, cap, fs⟩ := d
  simp only at hr hfew hu
  have HROW := Lib.hid hr
  unfold Rf.v
  simp only
  clear hr
  have HU := Lib.hid hu
  clear hu
  go_enter Try.func35, Try.ntmps35
  go_wp2_with (fail)
  go_loopw [3, 4] (fun n i wr => ∃ k : Nat, k ≤ fs.length ∧ i = .int .i64 k ∧ n = .int .i64 (usedN (fs.take k) : Nat) ∧ wr = w.alloc (.cells #[.slice A fs.length c, .int .i64 (cap : Nat), .int .i64 (left : Nat), .int .i64 (steps : Nat), .bool down] 32)) (fun _ i _ => fs.length - (intOf i).toNat)
  case atStart => exact ⟨0, Nat.zero_le _, rfl, rfl, rfl⟩
  case round =>
    obtain ⟨k, hk, rfl, rfl, rfl⟩ := hrel
    have HB : Hid (Below w.heap.size w (w.alloc (.cells #[.slice A fs.length c, .int .i64 (cap : Nat), .int .i64 (left : Nat), .int .i64 (steps : Nat), .bool down] 32))) := (Below.refl _ _).alloc (Nat.le_refl _) _
    by_cases hlt : k < fs.length
    · obtain ⟨rb, off, ra, hcell⟩ := (HROW.out.below HB.out) (by omega)
      subst ra
      obtain ⟨q0, q1, q2⟩ := hcell k hlt
      have hst := usedN_step hlt
      have hup : usedN (fs.take (k + 1)) ≤ 1000000000000 := Nat.le_trans (usedN_take _ _) HU.out
      obtain ⟨m, hm⟩ : ∃ m, m = usedN (fs.take k) := ⟨_, rfl⟩
      obtain ⟨m1, hm1⟩ : ∃ m1, m1 = usedN (fs.take (k + 1)) := ⟨_, rfl⟩
      obtain ⟨t, ht⟩ : ∃ t, t = strOf fs[k].2.l := ⟨_, rfl⟩
      have hts : t.size = fs[k].2.l.length := by rw [ht]; exact strOf_size _
      rw [← ht] at q1
      rw [← hm, ← hm1, ← hts] at hst
      rw [← hm1] at hup
      rw [← hm]
      have HM1 := Lib.hid hm1
      clear hcell hm hm1 ht hts
      go_wp2_with (fail)
      go_roundw
      case rel => exact ⟨k + 1, by omega, by go_num, by rw [← HM1.out]; go_num, trivial⟩
      case measure => simp [intOf]; omega
    · have hk' : k = fs.length := by omega
      subst hk'
      rw [List.take_length]
      clear hlt hk
      go_wp2_with (fail)
      go_ret
      exact ⟨rfl, rfl⟩
theorem rUsed_any (x : Rf) (w : World) (hx : x.ok w) (hu : usedN x.d.fs ≤ 1000000000000) : Calls Try.prog 35 #[x.v] w fun e w' => e = .returned (.int .i64 (usedN x.d.fs : Nat)) ∧ Below w.heap.size w w' :=
  (rUsed_ex x w hx hu).mono fun _ _ ⟨h1, h2⟩ => ⟨h1, h2 ▸ (Below.refl _ _).alloc (Nat.le_refl _) _⟩
end Go.Proofs.Ytpnhgongjfknbaa
