/-
  The document's own In: Bool, Text, End; what each leaves.
-/
import Derived.Test.YtbopijlacdkpeaaCoJ
namespace Go.Proofs.Ytbopijlacdkpeaa
open Go.RowKit numb

/-! ### What is left is an end of what was -/
def Ends (s s' : St) : Prop := ∃ n, s'.l = s.l.drop n
theorem Ends.refl (s : St) : Ends s s := ⟨0, by simp⟩
theorem Ends.nil (s : St) (e : Nat) : Ends s ⟨[], e⟩ := ⟨s.l.length, by simp⟩
theorem Ends.trans {a b c : St} (h : Ends a b) (k : Ends b c) : Ends a c := by
  obtain ⟨n, hn⟩ := h
  obtain ⟨m, hm⟩ := k
  exact ⟨n + m, by rw [hm, hn, List.drop_drop]⟩
theorem Ends.are {s s' : St} (h : Ends s s') (hl : AreBytes s.l) : AreBytes s'.l := by
  obtain ⟨n, hn⟩ := h
  rw [hn]
  exact hl.drop n
theorem Ends.le {s s' : St} (h : Ends s s') : s'.l.length ≤ s.l.length := by
  obtain ⟨n, hn⟩ := h
  rw [hn, List.length_drop]
  omega
theorem uint_ends (s : St) : Ends s s.uint.1 := by
  unfold St.uint
  split
  · exact Ends.refl s
  · cases hr : read s.l with
    | bad e => exact Ends.nil s e
    | ok v r =>
      obtain ⟨n, _, _, hn⟩ := read_rest hr
      exact ⟨n, hn⟩
theorem raw_ends (s : St) (n : Int) : Ends s (s.raw n).1 := by
  unfold St.raw
  split
  · exact Ends.refl s
  · split
    · exact Ends.nil s _
    · split
      · exact Ends.nil s _
      · exact ⟨n.toNat, rfl⟩
theorem raw_take (s : St) (n : Int) : (s.raw n).2 = [] ∨ (s.raw n).2 = s.l.take n.toNat := by
  unfold St.raw
  split
  · exact .inl rfl
  · split
    · exact .inl rfl
    · split
      · exact .inl rfl
      · exact .inr rfl
theorem raw_are {s : St} (hl : AreBytes s.l) (n : Int) : AreBytes (s.raw n).2 := by
  rcases raw_take s n with h | h
  · rw [h]; exact AreBytes.nil
  · rw [h]; exact hl.take _
theorem raw_le (s : St) (n : Int) : (s.raw n).2.length ≤ s.l.length := by
  rcases raw_take s n with h | h
  · rw [h]; exact Nat.zero_le _
  · rw [h, List.length_take]; omega
theorem below_ends (s : St) (most : Int) : Ends s (s.below most).1 := by
  unfold St.below
  split
  · exact Ends.nil s _
  · exact uint_ends s
theorem below_le {s : St} {most : Int} (hm : I64 most) (hs : s.uint.1.e ≠ 0 → s.uint.2 = 0) : I64 ((s.below most).2 : Nat) := by
  have h1 := hm.1
  have h2 := hm.2
  unfold St.below I64
  split
  · simp
  · rename_i h
    by_cases h0 : s.uint.1.e = 0
    · have : ¬ most < (s.uint.2 : Int) := fun hx => h ⟨h0, hx⟩
      omega
    · rw [hs h0]
      simp
theorem bool_ends (s : St) : Ends s s.bool.1 := by
  unfold St.bool
  split
  · exact raw_ends s 1
  · split
    · exact Ends.nil s _
    · exact raw_ends s 1
theorem text_ends (s : St) (most : Int) : Ends s (s.text most).1 := (below_ends s most).trans (raw_ends _ _)
theorem text_are {s : St} (hl : AreBytes s.l) (most : Int) : AreBytes (s.text most).2 := raw_are ((below_ends s most).are hl) _

set_option maxHeartbeats 2000000 in
theorem rin_bool_any (t : ByteArray) (e : Nat) (w : World) (hsz : t.size ≤ 1099511627776) :
    Calls Try.prog 26 #[.agg #[.string t, .int .i64 (e : Nat)]] w fun r w' => r = .returned (rbool t e) ∧ Below w.heap.size w w' := by
  go_enter Try.func26, Try.ntmps26
  go_wp2_with (fail)
  refine (rin_raw_any t e 1 _ hsz (by unfold I64; omega)).mono ?_
  rintro r w1 ⟨rfl, hb⟩
  unfold rraw
  have R : rbool t e = .tuple #[rin (St.bool ⟨natsOf t, e⟩).1, .bool (St.bool ⟨natsOf t, e⟩).2] := rfl
  have hare := raw_are (s := ⟨natsOf t, e⟩) (natsOf_are t) 1
  obtain ⟨hc, hf⟩ := bcell hb
  have hz : w.heap.size + 1 < w1.heap.size := by have := hb.size; simp at this; omega
  have HB := Lib.hid (below3 hb)
  cases hx : (St.raw ⟨natsOf t, e⟩ 1).2 with
  | nil =>
    obtain ⟨B, he⟩ := raw1_none hx
    have R2 : Hid (rbool t e = .tuple #[rin (St.raw ⟨natsOf t, e⟩ 1).1, .bool false]) := by rw [R, B]; rfl
    clear R B hx hsz hare
    generalize (St.raw ⟨natsOf t, e⟩ 1).1 = s1 at *
    simp only [rin] at R2 ⊢
    have t1 : ((s1.e : Int) == 0) = false := by simp; omega
    have t2 : ((s1.e : Int) != 0) = true := by simp; omega
    clear he
    generalize strOf s1.l = t1 at *
    generalize s1.e = e1 at *
    generalize strOf [] = u at *
    go_wp2_with (fail)
    exact bodyPost_ret (v := rbool t e) (by rw [R2.out]; simp [results, go_sem, hc, hz]) rfl ⟨rfl, HB.out _ _ _⟩
  | cons z r =>
    obtain ⟨rfl, he, B⟩ := raw1_some hx
    rw [hx] at hare
    have hz256 : z < 256 := hare z (by simp)
    obtain ⟨u, hu⟩ : ∃ u, u = strOf [z] := ⟨_, rfl⟩
    have hus : u.size = 1 := by rw [hu, strOf_size]; rfl
    have hu0 : (0 : Nat) < u.size := by omega
    have huz : u[0].toNat = z := by
      have := natsOf_at u hu0
      rw [← this]
      simp only [hu, natsOf_strOf hare, List.getElem_cons_zero]
    rw [← hu]
    have hui : decide (0 < u.size) = true := by simp; omega
    by_cases hbig : 1 < z
    · have R2 : Hid (rbool t e = .tuple #[.agg #[.string ⟨#[]⟩, .int .i64 10], .bool false]) := by rw [R, B, if_pos hbig]; rfl
      have tb : decide ((1 : Int) < (u[0].toNat : Int)) = true := by rw [huz]; simp; omega
      clear R B hx hsz hare hu hus hz256 hbig huz
      generalize (St.raw ⟨natsOf t, e⟩ 1).1 = s1 at *
      simp only [rin]
      rw [he]
      clear he
      generalize strOf s1.l = t1 at *
      go_wp2_with (fail)
      exact bodyPost_ret (v := rbool t e) (by rw [R2.out]; simp [results, go_sem, hc, hz]) rfl ⟨rfl, HB.out _ _ _⟩
    · have R2 : Hid (rbool t e = .tuple #[rin (St.raw ⟨natsOf t, e⟩ 1).1, .bool (z == 1)]) := by rw [R, B, if_neg hbig]; rfl
      have tb : decide ((1 : Int) < (u[0].toNat : Int)) = false := by rw [huz]; simp; omega
      have tz : ((u[0].toNat : Int) == 1) = (z == 1) := by
        rw [huz]
        by_cases h1 : z = 1
        · subst h1; rfl
        · have h2 : (z == 1) = false := by simpa using h1
          rw [h2]
          simp
          omega
      clear R B hx hsz hare hu hus hz256 hbig huz
      generalize (St.raw ⟨natsOf t, e⟩ 1).1 = s1 at *
      simp only [rin] at R2 ⊢
      rw [he] at R2 ⊢
      clear he
      generalize strOf s1.l = t1 at *
      generalize (z == 1) = y at *
      go_wp2_with (fail)
      go_region
      go_wp2_with (fail)
      exact bodyPost_ret (v := rbool t e) (by rw [R2.out]; simp [results, go_sem, hc, hz]) rfl ⟨rfl, (HB.out _ _ _).drew⟩

set_option maxHeartbeats 2000000 in
theorem rin_text_any (t : ByteArray) (e : Nat) (most : Int) (w : World) (hsz : t.size ≤ 1099511627776) (hm : I64 most) :
    Calls Try.prog 28 #[.agg #[.string t, .int .i64 (e : Nat)], .int .i64 most] w fun r w' => r = .returned (rtext t e most) ∧ Below w.heap.size w w' := by
  go_enter Try.func28, Try.ntmps28
  go_wp2_with (fail)
  refine (rin_below_any t e most _ hsz hm).mono ?_
  rintro r w1 ⟨rfl, hb⟩
  unfold rbelow
  have hz0 := ruint_zero t e
  have hI := below_le (s := ⟨natsOf t, e⟩) hm hz0
  have hE := below_ends ⟨natsOf t, e⟩ most
  have hA := hE.are (natsOf_are t)
  have hL := hE.le
  have R : rtext t e most = .tuple #[rin ((St.below ⟨natsOf t, e⟩ most).1.raw ((St.below ⟨natsOf t, e⟩ most).2 : Nat)).1, .string (strOf ((St.below ⟨natsOf t, e⟩ most).1.raw ((St.below ⟨natsOf t, e⟩ most).2 : Nat)).2)] := rfl
  generalize St.below ⟨natsOf t, e⟩ most = p at *
  obtain ⟨s1, n⟩ := p
  obtain ⟨l1, e1⟩ := s1
  simp only at hI hE hA hL R
  obtain ⟨hc, hf⟩ := bcell hb
  have hz : w.heap.size + 1 < w1.heap.size := by have := hb.size; simp at this; omega
  have hbb : Below w.heap.size w w1 := by
    have h0 : Below w.heap.size w ((w.alloc (.cells #[.string t, .int .i64 (e : Nat)] 48)).alloc (.cells #[.string ⟨#[]⟩, .int .i64 0] 48)) := ((Below.refl _ _).alloc (Nat.le_refl _) _).alloc (by simp) _
    exact h0.trans (hb.mono h0.size)
  have HB := Lib.hid hbb
  have hn : (strOf l1).size ≤ 1099511627776 := by
    rw [strOf_size]
    rw [natsOf_length] at hL
    omega
  have hnat : natsOf (strOf l1) = l1 := natsOf_strOf hA
  simp only [rin]
  have R2 : Hid (rtext t e most = rraw (strOf l1) e1 (n : Nat)) := by
    rw [R]
    unfold rraw
    rw [hnat]
    rfl
  clear R hE hA hL hsz hm hz0 hnat hb hbb
  generalize strOf l1 = t1 at *
  go_wp2_with (fail)
  refine (rin_raw_any t1 e1 (n : Nat) _ hn hI).mono ?_
  rintro r w2 ⟨rfl, hb2⟩
  rw [← R2.out]
  have HB2 := Lib.hid hb2
  have hbk : w2.heap[w.heap.size + 1]? = w1.heap[w.heap.size + 1]? := (hb2.block _ (by simp; omega)).trans (heap_alloc_old w1 _ (by omega))
  have c20 : w2.cell? ⟨w.heap.size + 1, 0, none⟩ = some (.string ⟨#[]⟩) := (World.cell?_of_block (a := ⟨w.heap.size + 1, 0, none⟩) hbk).trans ((hc _ _ (by simp)).trans (by simp [go_sem]))
  have c21 : w2.cell? ⟨w.heap.size + 1, 1, none⟩ = some (.int .i64 0) := (World.cell?_of_block (a := ⟨w.heap.size + 1, 1, none⟩) hbk).trans ((hc _ _ (by simp)).trans (by simp [go_sem]))
  have f20 : w2.frozen? ⟨w.heap.size + 1, 0, none⟩ = false := (World.frozen?_of_block (a := ⟨w.heap.size + 1, 0, none⟩) hbk).trans ((hf _ _ (by simp)).trans (by simp [go_sem]))
  have f21 : w2.frozen? ⟨w.heap.size + 1, 1, none⟩ = false := (World.frozen?_of_block (a := ⟨w.heap.size + 1, 1, none⟩) hbk).trans ((hf _ _ (by simp)).trans (by simp [go_sem]))
  have hz2 : w.heap.size + 1 < w2.heap.size := by have := hb2.size; simp at this; omega
  have HB3 : Hid (∀ x y, Below w.heap.size w ((w2.setCell ⟨w.heap.size + 1, 0, none⟩ x).setCell ⟨w.heap.size + 1, 1, none⟩ y)) := fun x y => by
    have h1 := (HB.out.alloc HB.out.size _).trans (hb2.mono (by have := HB.out.size; simp; omega))
    exact (h1.setCell (p := ⟨w.heap.size + 1, 0, none⟩) (by simp) x).setCell (p := ⟨w.heap.size + 1, 1, none⟩) (by simp) y
  have R3 : Hid (∃ t' e' u', rtext t e most = .tuple #[.agg #[.string t', .int .i64 e'], .string u']) := ⟨_, _, _, rfl⟩
  obtain ⟨t', e', u', h3⟩ := R3.out
  have H3 := Lib.hid h3
  rw [h3]
  clear h3 R3 R2 hb2 hc hf hbk
  go_wp2_with (fail)
  exact bodyPost_ret (v := rtext t e most) (by rw [H3.out]; simp [results, go_sem, c20, c21]) rfl ⟨rfl, HB3.out _ _⟩

set_option maxHeartbeats 2000000 in
theorem rin_end_any (t : ByteArray) (e : Nat) (w : World) :
    Calls Try.prog 31 #[.agg #[.string t, .int .i64 (e : Nat)]] w fun r w' => r = .returned (.int .i64 (St.fin ⟨natsOf t, e⟩ : Nat)) ∧ Below w.heap.size w w' := by
  have hl := natsOf_length t
  by_cases he : e = 0
  · subst he
    by_cases h0 : 0 < t.size
    · have F : Hid (St.fin ⟨natsOf t, 0⟩ = 17) := by show _ = _; unfold St.fin; rw [if_pos ⟨rfl, by simp only; omega⟩]
      have td : decide (0 < t.size) = true := by simpa using h0
      clear h0 hl
      go_enter Try.func31, Try.ntmps31
      go_wp2_with (fail)
      go_ret
      rw [F.out]
      exact ⟨rfl, (Below.refl _ _).alloc (Nat.le_refl _) _⟩
    · have F : Hid (St.fin ⟨natsOf t, 0⟩ = 0) := by show _ = _; unfold St.fin; rw [if_neg (fun h => h0 (by have := h.2; simp only at this; omega))]
      have td : decide (0 < t.size) = false := by simpa using h0
      clear h0 hl
      go_enter Try.func31, Try.ntmps31
      go_wp2_with (fail)
      go_ret
      rw [F.out]
      exact ⟨rfl, (Below.refl _ _).alloc (Nat.le_refl _) _⟩
  · have F : Hid (St.fin ⟨natsOf t, e⟩ = e) := by show _ = _; unfold St.fin; rw [if_neg (fun h => he h.1)]
    have t1 : ((e : Int) == 0) = false := by simp; omega
    clear he hl
    go_enter Try.func31, Try.ntmps31
    go_wp2_with (fail)
    go_ret
    rw [F.out]
    exact ⟨rfl, (Below.refl _ _).alloc (Nat.le_refl _) _⟩
end Go.Proofs.Ytbopijlacdkpeaa
