/-
  The document's own In: Bool, Text, End; what each leaves.
-/
import Derived.Test.YtoipokjoklhfjaaDoorCoJ
namespace Go.Proofs.YtoipokjoklhfjaaDoor
open Go.RowKit numb

/-! ### What is left is an end of what was -/
def Ends (s s' : St) : Prop := ∃ n, s'.l = s.l.drop n
theorem Ends.refl (s : St) : Ends s s := ⟨0, by simp⟩
theorem Ends.nil (s : St) (e : Nat) : Ends s ⟨[], e⟩ := ⟨s.l.length, by simp⟩
theorem Ends.trans {a b c : St} (h : Ends a b) (k : Ends b c) : Ends a c := by
  obtain ⟨n, hn⟩ := h
  obtain ⟨m, hm⟩ := k
  exact ⟨n + m, by rw [hm, hn, List.drop_drop]⟩
theorem Ends.are {s s' : St} (h : Ends s s') (hl : AreBytes s.l) : AreBytes s'.l := by
  obtain ⟨n, hn⟩ := h
  rw [hn]
  exact hl.drop n
theorem Ends.le {s s' : St} (h : Ends s s') : s'.l.length ≤ s.l.length := by
  obtain ⟨n, hn⟩ := h
  rw [hn, List.length_drop]
  omega
theorem uint_ends (s : St) : Ends s s.uint.1 := by
  unfold St.uint
  split
  · exact Ends.refl s
  · cases hr : read s.l with
    | bad e => exact Ends.nil s e
    | ok v r =>
      obtain ⟨n, _, _, hn⟩ := read_rest hr
      exact ⟨n, hn⟩
theorem raw_ends (s : St) (n : Int) : Ends s (s.raw n).1 := by
  unfold St.raw
  split
  · exact Ends.refl s
  · split
    · exact Ends.nil s _
    · split
      · exact Ends.nil s _
      · exact ⟨n.toNat, rfl⟩
theorem raw_take (s : St) (n : Int) : (s.raw n).2 = [] ∨ (s.raw n).2 = s.l.take n.toNat := by
  unfold St.raw
  split
  · exact .inl rfl
  · split
    · exact .inl rfl
    · split
      · exact .inl rfl
      · exact .inr rfl
theorem raw_are {s : St} (hl : AreBytes s.l) (n : Int) : AreBytes (s.raw n).2 := by
  rcases raw_take s n with h | h
  · rw [h]; exact AreBytes.nil
  · rw [h]; exact hl.take _
theorem raw_le (s : St) (n : Int) : (s.raw n).2.length ≤ s.l.length := by
  rcases raw_take s n with h | h
  · rw [h]; exact Nat.zero_le _
  · rw [h, List.length_take]; omega
theorem below_ends (s : St) (most : Int) : Ends s (s.below most).1 := by
  unfold St.below
  split
  · exact Ends.nil s _
  · exact uint_ends s
theorem below_le {s : St} {most : Int} (hm : I64 most) (hs : s.uint.1.e ≠ 0 → s.uint.2 = 0) : I64 ((s.below most).2 : Nat) := by
  have h1 := hm.1
  have h2 := hm.2
  unfold St.below I64
  split
  · simp
  · rename_i h
    by_cases h0 : s.uint.1.e = 0
    · have : ¬ most < (s.uint.2 : Int) := fun hx => h ⟨h0, hx⟩
      omega
    · rw [hs h0]
      simp
theorem bool_ends (s : St) : Ends s s.bool.1 := by
  unfold St.bool
  split
  · exact raw_ends s 1
  · split
    · exact Ends.nil s _
    · exact raw_ends s 1
theorem text_ends (s : St) (most : Int) : Ends s (s.text most).1 := (below_ends s most).trans (raw_ends _ _)
theorem text_are {s : St} (hl : AreBytes s.l) (most : Int) : AreBytes (s.text most).2 := raw_are ((below_ends s most).are hl) _

end Go.Proofs.YtoipokjoklhfjaaDoor
