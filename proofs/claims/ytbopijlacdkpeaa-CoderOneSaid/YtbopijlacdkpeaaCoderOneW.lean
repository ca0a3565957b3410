/-
  The walk of the law CoderOne.
-/
import Derived.Test.YtbopijlacdkpeaaCoL
namespace Go.Proofs.Ytbopijlacdkpeaa
open Go.RowKit numb

set_option maxHeartbeats 1000000 in
theorem one_long (q : Part) (w : World) (h : 60 < q.l.length) :
    Calls Try.prog 5 #[.slice q.a q.l.length q.c] w fun e w' => e = .returned (.bool true) ∧ Below w.heap.size w w' := by
  obtain ⟨a, l, c⟩ := q
  simp only at h ⊢
  have t : decide ((60 : Int) < (l.length : Int)) = true := by simp; omega
  clear h
  go_enter Try.func5, Try.ntmps5
  go_wp2_with (fail)
  refine (awake_any w).mono ?_
  rintro e w' ⟨rfl, hb⟩
  go_wp2_with (fail)
  go_ret
  exact ⟨rfl, hb⟩

set_option maxHeartbeats 2000000 in
theorem one_walk (q : Part) (w : World) (hq : q.ok w) (h : q.l.length ≤ 60) :
    Calls Try.prog 5 #[.slice q.a q.l.length q.c] w fun e w' => e = .returned (.bool true) ∧ Below w.heap.size w w' := by
  obtain ⟨a, l, c⟩ := q
  simp only at h ⊢
  have t : decide ((60 : Int) < (l.length : Int)) = false := by simp; omega
  have hare : AreBytes l := hq.bytes
  have hat : Bs w a l := hq.at_
  have hroom : l.length ≤ c := hq.room
  have hmax : c ≤ maxLen := hq.max
  have hcm : c ≤ 9223372036854775807 := by unfold maxLen at hmax; omega
  have HQ := Lib.hid hq
  clear hq
  go_enter Try.func5, Try.ntmps5
  go_wp2_with (fail)
  refine (newin_any a l c w hat hare (by omega)).mono ?_
  rintro e w1 ⟨bi, rfl, hbi, i1, hb1⟩
  have I1 := Lib.hid i1
  have B1 := Lib.hid hb1
  have H1 := Lib.hid (hat.below hb1)
  have hbi0 := Lib.hid hbi
  clear i1 hb1 hat hbi
  simp only [In]
  go_wp2_with (fail)
  refine (newin_any a l c w1 H1.out hare (by omega)).mono ?_
  rintro e w2 ⟨bj, rfl, hbj, j2, hb2⟩
  have hij : bi < w1.heap.size := I1.out.lt
  have I2 := Lib.hid (I1.out.below hbi0.out hb2)
  have J2 := Lib.hid j2
  have B2 := Lib.hid (B1.out.trans (hb2.mono B1.out.size))
  have hbj0 := Lib.hid hbj
  have S1 := Lib.hid B1.out.size
  have hij' := Lib.hid hij
  clear j2 hb2 hbj hij I1 B1 H1
  simp only [In]
  go_wp2_with (fail)
  refine (in_uint_any _ bi _ w2 I2.out).mono ?_
  rintro e w3 ⟨rfl, p1, p2⟩
  have I3 := Lib.hid p1
  have J3 := Lib.hid (J2.out.other hbj0.out p2 (.inl hij'.out))
  have B3 := Lib.hid (B2.out.trans (p2.to_below B2.out.size hbi0.out))
  clear p1 p2 I2 J2 B2
  go_wp2_with (fail)
  have hU := uint_U64 (s := ⟨l, 0⟩) hare
  refine (in_int_any _ bj _ w3 J3.out hU).mono ?_
  rintro e w4 ⟨rfl, p1, p2⟩
  have I4 := Lib.hid (I3.out.other hbi0.out p2 (.inr (Nat.lt_of_lt_of_le hij'.out hbj0.out)))
  have J4 := Lib.hid p1
  have B4 := Lib.hid (B3.out.trans (p2.to_below B3.out.size (Nat.le_trans S1.out hbj0.out)))
  clear p1 p2 I3 J3 B3
  simp only [St.int] at J4 ⊢
  have hE := uint_err (s := ⟨l, 0⟩) (fun h => absurd rfl h)
  have hR : (St.uint ⟨l, 0⟩).1.e = 0 → l = uint (St.uint ⟨l, 0⟩).2 ++ (St.uint ⟨l, 0⟩).1.l := fun h0 => by
    cases hr : read l with
    | bad e =>
      rw [uint_bad (s := ⟨l, 0⟩) (fun h => absurd rfl h) hr] at h0
      have := read_bad hr
      simp [St.fail] at h0
      omega
    | ok v r =>
      obtain ⟨h1, _⟩ := uint_ok (s := ⟨l, 0⟩) (fun h => absurd rfl h) hr
      rw [h1]
      exact (read_ok hare hr).1
  have hEe := I4.out.err
  generalize St.uint ⟨l, 0⟩ = p at *
  obtain ⟨s, v⟩ := p
  simp only at hU hE hR I4 J4 hEe ⊢
  go_wp2_with (fail)
  refine (in_err_any _ bi _ w4 I4.out).mono ?_
  rintro e w5 ⟨rfl, rfl⟩
  go_wp2_with (fail)
  refine (in_err_any _ bj _ w4 J4.out).mono ?_
  rintro e w5 ⟨rfl, rfl⟩
  go_wp2_with (fail)
  refine (in_left_any _ bi _ w4 I4.out).mono ?_
  rintro e w5 ⟨rfl, rfl⟩
  go_wp2_with (fail)
  refine (in_left_any _ bj _ w4 J4.out).mono ?_
  rintro e w5 ⟨rfl, rfl⟩
  go_wp2_with (fail)
  refine (in_err_any _ bi _ w4 I4.out).mono ?_
  rintro e w5 ⟨rfl, rfl⟩
  by_cases h0 : s.e = 0
  · have hsplit := hR h0
    rw [h0]
    have t0 : ((0 : Int) != 0) = false := by decide
    have hlu := uint_length_le (v := v) (k := 10) (by omega) (Nat.lt_of_lt_of_le hU.lt (by decide))
    have hsl : (s.l.length : Int) ≤ (l.length : Int) := by
      have := congrArg List.length hsplit
      rw [List.length_append] at this
      omega
    obtain ⟨k, hk⟩ : ∃ k, k = (uint v).length := ⟨_, rfl⟩
    have ek : (l.length : Int) - (s.l.length : Int) = (k : Int) := by
      have := congrArg List.length hsplit
      rw [List.length_append] at this
      omega
    have hkc : k ≤ c := by
      have := congrArg List.length hsplit
      rw [List.length_append] at this
      omega
    have htake : l.take k = uint v := by
      rw [hsplit, hk]
      exact List.take_left
    have hlen : (l.take k).length = k := by rw [htake, hk]
    have HT := Lib.hid htake
    have HL := Lib.hid hlen
    have HK := Lib.hid hk
    have HV : Hid (l.length ≤ 60 ∧ U64 v) := ⟨h, hU⟩
    have ho0 : OutAt ((w4.alloc (.cells #[.slice none 0 0] 26)).alloc (.cells #[.slice none 0 0] 26)) w4.heap.size (.slice none 0 0) [] := (out_new w4).alloc _
    have hp0 : OutAt ((w4.alloc (.cells #[.slice none 0 0] 26)).alloc (.cells #[.slice none 0 0] 26)) (w4.heap.size + 1) (.slice none 0 0) [] := out_new' _ _ (by simp)
    have hb0 : Below w4.heap.size w4 ((w4.alloc (.cells #[.slice none 0 0] 26)).alloc (.cells #[.slice none 0 0] 26)) := ((Below.refl _ _).alloc (Nat.le_refl _) _).alloc (by simp) _
    have HO := Lib.hid ho0
    have HP := Lib.hid hp0
    have HB0 := Lib.hid hb0
    clear hE hR h0 hsplit htake hlen hk ho0 hp0 hb0 hU hlu
    go_wp2_with (fail)
    refine (out_uint_laid' w4.heap.size _ [] [v] _ rfl (0, 0) 1 1 rfl _ _ (by simp) HO.out (fun n hn => by simp at hn; subst hn; exact HV.out.2) (by simp) (by simp)).mono ?_
    rintro e w5 ⟨rfl, v5, o5, s5⟩
    obtain ⟨pp, f1, _⟩ := HP.out.step s5 (by omega) (nil_own _) (nil_own _) (fun g hg => absurd hg (nil_own g))
    have O5 : Hid (OutAt w5 w4.heap.size v5 (uint v)) := by
      have := o5
      simpa [Hid] using this
    have P5 := Lib.hid pp
    have F5 := Lib.hid f1
    have C5 := Lib.hid (HB0.out.trans (s5.to_below HB0.out.size (Nat.le_refl _) (fun g hg => absurd hg (nil_own g))))
    clear o5 s5 pp f1 HO HP HB0
    go_wp2_with (fail)
    refine (out_int_laid (w4.heap.size + 1) _ [] [zag v] _ rfl (0, 0) 1 1 rfl _ _ rfl P5.out (fun n hn => by simp at hn; subst hn; exact zag_range HV.out.2) (by simp) (by simp)).mono ?_
    rintro e w6 ⟨rfl, v6, p6, s6⟩
    obtain ⟨oo, _, _⟩ := O5.out.step s6 (by omega) (nil_own _) F5.out (fun g hg => nil_own g)
    have P6 : Hid (OutAt w6 (w4.heap.size + 1) v6 (uint v)) := by
      have := p6
      simpa [Hid, zig_zag] using this
    have O6 := Lib.hid oo
    have C6 := Lib.hid (C5.out.trans (s6.to_below C5.out.size (by omega) (fun g hg => absurd hg (nil_own g))))
    clear p6 s6 oo O5 P5 F5 C5
    have I6 := Lib.hid (I4.out.below hbi0.out C6.out)
    have B6 := Lib.hid (B4.out.trans (C6.out.mono B4.out.size))
    have hcv : (convert 24 9 (.slice a k c)).run Try.prog w6 = .ok (.string (strOf (uint v))) w6 := by
      have := conv_str w6 a (l.take k) c ((HQ.out.below B6.out).at_.take k)
      rw [HL.out, HT.out] at this
      exact this
    clear I4 J4 B4 C6 HQ
    go_wp2_with (fail)
    refine (in_left_any _ bi _ w6 I6.out).mono ?_
    rintro e w7 ⟨rfl, rfl⟩
    go_wp2_with (fail)
    refine (out_bytes_any _ _ _ w6 O6.out (uint_bytes v) (by rw [← HK.out]; have := HV.out.1; have := HL.out; omega)).mono ?_
    rintro e w7 ⟨v7, rfl, own7, hb7⟩
    obtain ⟨a7, c7, rfl, hp7, _, _⟩ := own7.part (uint_bytes v)
    have hc7 := conv_str w7 a7 (uint v) c7 hp7.at_
    have P7 := Lib.hid (P6.out.below hb7)
    have B7 := Lib.hid (B6.out.trans (hb7.mono B6.out.size))
    clear own7 hb7 hp7 O6 P6 B6 I6 hcv
    go_wp2_with (fail)
    refine (out_bytes_any _ _ _ w7 P7.out (uint_bytes v) (by rw [← HK.out]; have := HV.out.1; have := HL.out; omega)).mono ?_
    rintro e w8 ⟨v8, rfl, own8, hb8⟩
    obtain ⟨a8, c8, rfl, hp8, _, _⟩ := own8.part (uint_bytes v)
    have hc8 := conv_str w8 a8 (uint v) c8 hp8.at_
    have B8 := Lib.hid (B7.out.trans (hb8.mono B7.out.size))
    clear own8 hb8 hp8 P7 B7 hc7
    go_wp2_with (fail)
    refine (awake_any w8).mono ?_
    rintro e w9 ⟨rfl, hb⟩
    have B9 := Lib.hid (B8.out.trans (hb.mono B8.out.size))
    clear hb
    go_wp2_with (fail)
    go_ret
    exact ⟨rfl, B9.out⟩
  · obtain ⟨hl, hv⟩ := hE h0
    have t0 : ((s.e : Int) == 0) = false := by simp; omega
    have hll : s.l.length = 0 := by rw [hl]; rfl
    subst hv
    have hzag : zag 0 = 0 := rfl
    rw [hzag]
    clear hE hR hl h0
    go_wp2_with (fail)
    refine (in_left_any _ bi _ w4 I4.out).mono ?_
    rintro e w5 ⟨rfl, rfl⟩
    rw [hll]
    go_wp2_with (fail)
    refine (awake_any w4).mono ?_
    rintro e w5 ⟨rfl, hb⟩
    have B5 := Lib.hid (B4.out.trans (hb.mono B4.out.size))
    clear hb
    go_wp2_with (fail)
    go_ret
    exact ⟨rfl, B5.out⟩

theorem coderOne.walk (q : Part) (w : World) (hq : q.ok w) :
    Calls Try.prog 5 #[.slice q.a q.l.length q.c] w fun e w' => e = .returned (.bool true) ∧ Below w.heap.size w w' := by
  by_cases h : q.l.length ≤ 60
  · exact one_walk q w hq h
  · exact one_long q w (by omega)
end Go.Proofs.Ytbopijlacdkpeaa
