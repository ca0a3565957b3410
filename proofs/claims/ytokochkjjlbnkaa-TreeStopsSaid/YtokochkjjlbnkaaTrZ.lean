/-
  Layer 12: Move.
-/
import Derived.Test.YtokochkjjlbnkaaTrY
namespace Go.Proofs.Ytokochkjjlbnkaa
open Go.RowKit trm

theorem erase_idx_filter {l : List Int} (hn : l.Nodup) (i : Int) (_ : i ∈ l) : l.eraseIdx (l.idxOf i) = l.filter fun k => decide (k ≠ i) := by
  rw [← List.erase_eq_eraseIdx_of_idxOf (l := l) (a := i) rfl, hn.erase_eq_filter]
  exact List.filter_congr fun x _ => by by_cases h : x = i <;> simp [h]
section
variable {w w' : World} {b : Nat} {s : Sh} {t : T}
/-- a node out of its place: leave, in a tree's words -/
theorem tleave (h : TreeAt w b s t) (hn : t.length ≤ 10000) {i : Int} (hi : i ∈ ids t) :
    Calls Try.prog 46 #[.pointer (some ⟨s.g i, 0, none⟩)] w fun e w' => ∃ v', e = .returned (.tuple #[]) ∧ Raw w' b ⟨s.m, s.g, setf s.v (par t i) v'⟩ (hasP t) (setf (upT t) i none) (fun q => (kids t q).filter fun k => decide (k ≠ i)) ∧
      TurnP (FootT b s t) (FootT b ⟨s.m, s.g, setf s.v (par t i) v'⟩ t) w w' := by
  have h0 := h.ok.ne0 hi
  have hq : hasP t (par t i) := has_iff.2 (h.ok.par_ok hi)
  have hne : i ≠ par t i := fun e => by
    have := depth_step h.ok hi
    rw [← e] at this
    omega
  have hm := kid_of hi
  have hl : (kids t (par t i)).length ≤ 100000 := by have := kids_le t (par t i); omega
  refine (nleave h.raw (i := i) (q := par t i) (has_iff.2 (.inr hi)) hq (upT_some h0) hne (fun x hx => has_iff.2 (.inr (h.ok.kid hx).1)) hm hl).mono ?_
  rintro e w' ⟨v', rfl, hraw, hT⟩
  refine ⟨v', rfl, hraw.like (fun _ => Iff.rfl) (fun _ _ => rfl) (fun j _ => ?_), hT⟩
  by_cases e : j = par t i
  · subst e
    rw [setf_same]
    exact (erase_idx_filter (kids_nodup h.ok.nd _) i hm).symm
  · rw [setf_other _ e]
    refine List.filter_eq_self.2 fun x hx => ?_
    rw [decide_eq_true_eq]
    rintro rfl
    exact e (h.ok.kid hx).2.symm
set_option maxRecDepth 100000 in
set_option maxHeartbeats 2000000 in
theorem tmove (h : TreeAt w b s t) (hn : t.length ≤ 1000) (i p n : Int) (hi : I64 i) (hp : I64 p) :
    Calls Try.prog 26 #[.pointer (some ⟨b, 0, none⟩), .int .i64 i, .int .i64 p, .int .i64 n] w (DoQ b s t (movS t i p n) w) := by
  obtain ⟨R, hR⟩ : ∃ R, movS t i p n = R := ⟨_, rfl⟩
  have HQ := Lib.hid hR
  rw [hR]
  clear hR
  unfold movS at HQ
  obtain ⟨c0, bi⟩ := h.raw.top
  have HT := Lib.hid h
  have HKD := Lib.hid (tkid h i hi)
  unfold kidV kidC at HKD
  by_cases h1 : i = 0
  · have HQ2 := Lib.hid (HQ.out.symm.trans (if_pos h1))
    simp only [if_pos h1] at HKD
    rw [if_neg (by decide)] at HKD
    clear h1 HQ h hn hi hp
    go_enter Try.func26, Try.ntmps26
    go_wp2_with (fail)
    refine HKD.out.mono ?_
    rintro e w1 ⟨rfl, rfl⟩
    go_wp2_with (fail)
    go_ret
    rw [HQ2.out]
    exact DoQ.same HT.out (Below.refl _ _)
  have HQ1 := Lib.hid (HQ.out.symm.trans (if_neg h1))
  simp only [if_neg h1] at HKD
  clear HQ
  by_cases hx : has t i = true
  case neg =>
    have hx' : has t i = false := by simpa using hx
    have HQ2 := Lib.hid (HQ1.out.trans (if_pos hx'))
    simp only [if_pos hx'] at HKD
    rw [if_neg (by decide)] at HKD
    clear h1 HQ1 h hn hi hp hx hx'
    go_enter Try.func26, Try.ntmps26
    go_wp2_with (fail)
    refine HKD.out.mono ?_
    rintro e w1 ⟨rfl, rfl⟩
    go_wp2_with (fail)
    go_ret
    rw [HQ2.out]
    exact DoQ.same HT.out (Below.refl _ _)
  have hx' : ¬ has t i = false := by simp [hx]
  have HQ2 := Lib.hid (HQ1.out.trans (if_neg hx'))
  simp only [if_neg hx', if_true] at HKD
  clear HQ1 hx'
  have hii := (has_iff.1 hx).resolve_left h1
  by_cases hy : has t p = true
  case neg =>
    have hlk2 := h.raw.look_none hp hy
    have HQ3 := Lib.hid (HQ2.out.trans (if_pos (by simpa using hy)))
    clear HQ2 h hn hi hp hx hy h1 hii
    go_enter Try.func26, Try.ntmps26
    go_wp2_with (fail)
    refine HKD.out.mono ?_
    rintro e w1 ⟨rfl, rfl⟩
    go_wp2_with (fail)
    go_ret
    rw [HQ3.out]
    exact DoQ.same HT.out (Below.refl _ _)
  have hlk2 := h.raw.look_some hp hy
  have HQ3 := Lib.hid (HQ2.out.trans (if_neg (by simp [hy])))
  clear HQ2
  by_cases h3 : p = i
  · have hpe := ptr_same w (s.g i)
    have HQ4 := Lib.hid (HQ3.out.trans (if_pos (.inl h3)))
    rw [show s.g p = s.g i by rw [h3]] at hlk2
    clear h3 HQ3 h hn hi hp hx hy h1 hii
    go_enter Try.func26, Try.ntmps26
    go_wp2_with (fail)
    refine HKD.out.mono ?_
    rintro e w1 ⟨rfl, rfl⟩
    go_wp2_with (fail)
    go_ret
    rw [HQ4.out]
    exact DoQ.same HT.out (Below.refl _ _)
  have hpe := ptr_other (h.raw.node _ hy).blk (h.raw.node _ hx).blk (fun e => h3 (h.raw.inj _ _ hy hx e))
  have HWI := Lib.hid (nwithin h hy hx)
  cases hwb : within t p i with
  | true =>
    rw [hwb] at HWI
    have HQ4 := Lib.hid (HQ3.out.trans (if_pos (.inr hwb)))
    clear h3 HQ3 h hn hi hp hx hy h1 hii hwb
    go_enter Try.func26, Try.ntmps26
    go_wp2_with (fail)
    refine HKD.out.mono ?_
    rintro e w1 ⟨rfl, rfl⟩
    go_wp2_with (fail)
    refine HWI.out.mono ?_
    rintro e w1 ⟨rfl, rfl⟩
    go_wp2_with (fail)
    go_ret
    rw [HQ4.out]
    exact DoQ.same HT.out (Below.refl _ _)
  | false =>
  rw [hwb] at HWI
  have HQ4 := Lib.hid (HQ3.out.trans (if_neg (by rintro (e | e); exact h3 e; rw [hwb] at e; cases e)))
  clear HQ3
  by_cases h5 : n < 0
  · have t5 : decide (n < 0) = true := decide_eq_true h5
    have HQ5 := Lib.hid (HQ4.out.trans (if_pos (.inl h5)))
    clear h3 HQ4 h hn hi hp hx hy h1 hii hwb h5
    go_enter Try.func26, Try.ntmps26
    go_wp2_with (fail)
    refine HKD.out.mono ?_
    rintro e w1 ⟨rfl, rfl⟩
    go_wp2_with (fail)
    refine HWI.out.mono ?_
    rintro e w1 ⟨rfl, rfl⟩
    go_wp2_with (fail)
    go_ret
    rw [HQ5.out]
    exact DoQ.same HT.out (Below.refl _ _)
  have t5 : decide (n < 0) = false := decide_eq_false h5
  obtain ⟨m, rfl⟩ : ∃ m : Nat, n = m := ⟨n.toNat, by omega⟩
  clear h5
  have HO := Lib.hid (nothers h (by omega) hii hy)
  have hkl : (kids t p).length ≤ 1000 := Nat.le_trans (kids_le t p) hn
  have hfl : ((kids t p).filter fun k => decide (k ≠ i)).length ≤ (kids t p).length := List.length_filter_le _ _
  by_cases h6 : ((kids t p).filter fun k => decide (k ≠ i)).length < m
  · have t6 : decide (((kids t p).filter fun k => decide (k ≠ i)).length < m) = true := decide_eq_true h6
    have HQ5 := Lib.hid (HQ4.out.trans (if_pos (.inr (by omega))))
    clear h3 HQ4 h hn hi hp hx hy h1 hii hwb h6 hkl hfl
    generalize ((kids t p).filter fun k => decide (k ≠ i)).length = L at *
    go_enter Try.func26, Try.ntmps26
    go_wp2_with (fail)
    refine HKD.out.mono ?_
    rintro e w1 ⟨rfl, rfl⟩
    go_wp2_with (fail)
    refine HWI.out.mono ?_
    rintro e w1 ⟨rfl, rfl⟩
    go_wp2_with (fail)
    refine HO.out.mono ?_
    rintro e w1 ⟨rfl, rfl⟩
    go_wp2_with (fail)
    go_ret
    rw [HQ5.out]
    exact DoQ.same HT.out (Below.refl _ _)
  have t6 : decide (((kids t p).filter fun k => decide (k ≠ i)).length < m) = false := decide_eq_false h6
  have HQ5 := Lib.hid (HQ4.out.trans (if_neg (by omega)))
  have HLV := Lib.hid (tleave h (by omega) hii)
  have HTK : Hid (∀ w' v', Raw w' b ⟨s.m, s.g, setf s.v (par t i) v'⟩ (hasP t) (setf (upT t) i none) (fun q => (kids t q).filter fun k => decide (k ≠ i)) → _) := fun w' v' hr => ntake hr (i := i) (p := p) hx hy (Ne.symm h3) (n := m) (by show m ≤ ((kids t p).filter _).length; omega) (by show ((kids t p).filter _).length ≤ _; omega)
  have HF := Lib.hid (And.intro hii (And.intro hy (And.intro h3 hwb)))
  have HKM := Lib.hid (fun q => kids_move h.ok.nd i p (n := m) (show m ≤ ((kids t p).filter fun k => decide (k ≠ i)).length by omega) q)
  clear h3 HQ4 h hn hi hp hx hy h1 hii hwb h6 hkl hfl
  generalize ((kids t p).filter fun k => decide (k ≠ i)).length = L at *
  go_enter Try.func26, Try.ntmps26
  go_wp2_with (fail)
  refine HKD.out.mono ?_
  rintro e w1 ⟨rfl, rfl⟩
  go_wp2_with (fail)
  refine HWI.out.mono ?_
  rintro e w1 ⟨rfl, rfl⟩
  go_wp2_with (fail)
  refine HO.out.mono ?_
  rintro e w1 ⟨rfl, rfl⟩
  go_wp2_with (fail)
  refine HLV.out.mono ?_
  rintro e w2 ⟨v', rfl, hraw, hT⟩
  have HC := Lib.hid (HTK.out w2 v' hraw)
  have HT2 := Lib.hid hT
  clear hraw hT HTK HLV
  go_wp2_with (fail)
  refine HC.out.mono ?_
  rintro e w3 ⟨v2, rfl, hraw, hT3⟩
  obtain ⟨hii, hy, h3, hwb⟩ := HF.out
  have hp0 := has_iff.1 hy
  have hH : ∀ j, hasP (trm.move i p m t) j ↔ hasP t j := fun j => by
    unfold hasP
    rw [has_iff, has_iff, ids_move hii]
  have HE : Hid (DoQ b s t (trm.move i p m t, 0) w1 (.returned (.int .i64 0)) w3) := by
    refine ⟨⟨s.m, s.g, setf (setf s.v (par t i) v') p v2⟩, rfl, ⟨hraw.like hH (fun j hj => ?_) fun j hj => ?_, HT.out.ok.move hii hp0 h3 hwb m⟩, (HT2.out.trans hT3).turn (Foot.like hH)⟩
    · by_cases e : j = i
      · subst e
        rw [setf_same, upT_some (HT.out.ok.ne0 hii), par_move HT.out.ok.nd, if_pos rfl]
      · rw [setf_other _ e, setf_other _ e]
        by_cases h0 : j = 0
        · subst h0
          rfl
        · rw [upT_some h0, upT_some h0, par_move HT.out.ok.nd, if_neg e]
    · rw [HKM.out]
      by_cases e : j = p
      · subst e
        rw [if_pos rfl, setf_same]
      · rw [if_neg e, setf_other _ e]
  clear hraw hT3 hii hy h3 hwb hp0 hH
  go_wp2_with (fail)
  go_ret
  rw [HQ5.out]
  exact HE.out
end
end Go.Proofs.Ytokochkjjlbnkaa
