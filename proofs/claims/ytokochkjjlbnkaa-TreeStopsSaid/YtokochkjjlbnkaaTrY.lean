/-
  Layer 12: a node more in memory; Add.
-/
import Derived.Test.YtokochkjjlbnkaaTrX
namespace Go.Proofs.Ytokochkjjlbnkaa
open Go.RowKit trm

section
variable {w w' : World} {b : Nat} {s : Sh} {H H' : Int → Prop} {P P' : Int → Option Int} {K K' : Int → List Int}
theorem Raw.like (h : Raw w b s H P K) (hH : ∀ i, H' i ↔ H i) (hP : ∀ i, H i → P' i = P i) (hK : ∀ i, H i → K' i = K i) : Raw w b s H' P' K' := by
  refine ⟨h.blk, ?_, fun i hi => ?_, fun i j hi hj => h.inj i j ((hH i).1 hi) ((hH j).1 hj), fun i j k hi hj => h.apart i j k ((hH i).1 hi) ((hH j).1 hj)⟩
  · obtain ⟨es, hm, hl⟩ := h.map
    exact ⟨es, hm, fun i g => by rw [hl, hH]⟩
  · have hi' := (hH i).1 hi
    rw [hP i hi', hK i hi']
    exact h.node i hi'
theorem Foot.like (hH : ∀ i, H' i ↔ H i) (k : Nat) : Foot b s H' k ↔ Foot b s H k := by
  unfold Foot
  exact or_congr Iff.rfl (or_congr Iff.rfl (exists_congr fun i => and_congr (hH i) Iff.rfl))
theorem ks_congr {s s' : Sh} {l : List Int} (h : ∀ k ∈ l, s'.g k = s.g k) : ks s' l = ks s l := List.map_congr_left fun k hk => by rw [h k hk]
abbrev node0 (i : Int) : Obj := .cells #[.int .i64 i, .pointer none, .slice none 0 0] tNode
theorem Raw.grow (h : Raw w b s H P K) {i : Int} (hi : ¬ H i) (h64 : I64 i) (hP : ∀ j, H j → P j ≠ some i) (hK : ∀ j, H j → i ∉ K j) (hn : ∀ es, MapAt w s.m es → (∀ i g, omap.look es i = some g ↔ H i ∧ s.g i = g) → es.length ≤ 100000) :
    ∃ w2, (Instr.mapUpdate 85 (.map (some s.m)) (.int .i64 i) (.pointer (some ⟨w.heap.size, 0, none⟩))).run Try.prog (w.alloc (node0 i)) = .ok () w2 ∧
      Raw w2 b ⟨s.m, setf s.g i w.heap.size, setf s.v i (.slice none 0 0)⟩ (fun j => j = i ∨ H j) (setf P i none) (setf K i []) ∧ (w.alloc (node0 i)).grownBy w2 (some s.m) ∧
      TurnP (Foot b s H) (Foot b ⟨s.m, setf s.g i w.heap.size, setf s.v i (.slice none 0 0)⟩ (fun j => j = i ∨ H j)) w w2 := by
  obtain ⟨es, hm, hl⟩ := h.map
  have hb : Below w.heap.size w (w.alloc (node0 i)) := (Below.refl _ _).alloc (Nat.le_refl _) _
  have hm1 := hm.stays (hb.block _ hm.inside)
  have hlen := hn es hm hl
  have hnone : omap.look es i = none := by
    cases ho : omap.look es i with
    | none => rfl
    | some g => exact absurd ((hl i g).1 ho).1 hi
  obtain ⟨w2, hrun, hm2, hg⟩ := hm1.store h64 w.heap.size (by
    show (omap.ins lt i w.heap.size (omap.del i es)).length ≤ _
    rw [omap.length_ins]
    have : (omap.del i es).length ≤ es.length := List.length_filter_le _ _
    omega)
  have hmw : s.m < w.heap.size := hm.inside
  have hsame : ∀ k, k < w.heap.size → k ≠ s.m → w2.heap[k]? = w.heap[k]? := fun k hk hne => (hg.block k (by simp; omega) (fun e => hne (Option.some.inj e))).trans (hb.block k hk)
  have hnew : w2.heap[w.heap.size]? = some (node0 i) := (hg.block w.heap.size (by simp) (fun e => by have := Option.some.inj e; omega)).trans (heap_alloc_new w _)
  have hnd : ∀ j, H j → NodeAt w2 (s.g j) j ((P j).map s.g) (s.v j) (ks s (K j)) := fun j hj => by
    refine (h.node j hj).stays (hsame _ (h.node j hj).blk.inside (h.node_m hj)) fun k hk => hsame k (SOwn.block (h.node j hj).own hk).2 fun e => ?_
    exact hm.not_own (h.node j hj).own (e ▸ hk)
  have hji : ∀ j, H j → j ≠ i := fun j hj e => hi (e ▸ hj)
  refine ⟨w2, hrun, ⟨h.blk.stays (hsame b h.blk.inside fun e => hm.not_blk (e ▸ h.blk)), ⟨_, hm2, fun j g => ?_⟩, fun j hj => ?_, fun j k hj hk e => ?_, fun j k x hj hk h1 h2 => ?_⟩, hg, ?_⟩
  · by_cases e : j = i
    · subst e
      rw [omap.look_put, if_pos rfl]
      simp only [setf_same, true_or, true_and, Option.some.injEq]
    · rw [omap.look_put, if_neg e, hl]
      simp only [setf_other _ e, e, false_or]
  · by_cases e : j = i
    · subst e
      simp only [setf_same, Option.map_none]
      exact ⟨hnew, SOwn.nil _ _⟩
    · have hj' := hj.resolve_left e
      simp only [setf_other _ e]
      have e1 : (P j).map (setf s.g i w.heap.size) = (P j).map s.g := by
        cases hp : P j with
        | none => rfl
        | some q => exact congrArg some (setf_other _ (fun e => hP j hj' (by rw [hp, e])) _)
      have e2 : ks ⟨s.m, setf s.g i w.heap.size, setf s.v i (.slice none 0 0)⟩ (K j) = ks s (K j) := ks_congr fun k hk => setf_other _ (fun (e : k = i) => hK j hj' (by rw [← e]; exact hk)) _
      rw [e1, e2]
      exact hnd j hj'
  · by_cases ej : j = i <;> by_cases ek : k = i
    · rw [ej, ek]
    · have hk' := hk.resolve_left ek
      simp only [ej, setf_same, setf_other _ ek] at e
      have := (h.node k hk').blk.inside
      omega
    · have hj' := hj.resolve_left ej
      simp only [ek, setf_same, setf_other _ ej] at e
      have := (h.node j hj').blk.inside
      omega
    · simp only [setf_other _ ej, setf_other _ ek] at e
      exact h.inj j k (hj.resolve_left ej) (hk.resolve_left ek) e
  · by_cases ej : j = i
    · simp only [ej, setf_same] at h1
      cases h1
    · by_cases ek : k = i
      · simp only [ek, setf_same] at h2
        cases h2
      · simp only [setf_other _ ej, setf_other _ ek] at h1 h2
        exact h.apart j k x (hj.resolve_left ej) (hk.resolve_left ek) h1 h2
  · have hsz := hg.size
    simp only [World.size_alloc] at hsz
    refine ⟨hg.os, hg.tape, hg.output, by omega, fun k hk hn' => ⟨fun hf => ?_, hsame k hk fun e => hn' (.inr (.inl e))⟩⟩
    rcases hf with e | e | ⟨j, hj, hjk⟩
    · exact hn' (.inl e)
    · exact hn' (.inr (.inl e))
    · by_cases e : j = i
      · simp only [e, setf_same] at hjk
        rcases hjk with e1 | e1
        · omega
        · cases e1
      · simp only [setf_other _ e] at hjk
        exact hn' (.inr (.inr ⟨j, hj.resolve_left e, hjk⟩))
end
section
variable {w w' : World} {b : Nat} {s : Sh} {t : T}
def DoQ (b : Nat) (s : Sh) (t : T) (r : T × Int) (w : World) (e : Ending) (w' : World) : Prop :=
  ∃ s', e = .returned (.int .i64 r.2) ∧ TreeAt w' b s' r.1 ∧ TurnP (FootT b s t) (FootT b s' r.1) w w'
theorem DoQ.same (h : TreeAt w b s t) {c : Int} {w' : World} (hb : Below w.heap.size w w') : DoQ b s t (t, c) w (.returned (.int .i64 c)) w' := ⟨s, rfl, h.below hb, TurnP.below hb⟩
theorem TurnP.turn {S S' S2 : Bset} {w w' : World} (h : TurnP S S' w w') (hs : ∀ k, S2 k ↔ S' k) : TurnP S S2 w w' := h.sub fun k hk => .inl ((hs k).1 hk)
set_option maxRecDepth 100000 in
set_option maxHeartbeats 2000000 in
theorem tadd (h : TreeAt w b s t) (hn : t.length ≤ 1000) (i p n : Int) (hi : I64 i) (hp : I64 p) :
    Calls Try.prog 31 #[.pointer (some ⟨b, 0, none⟩), .int .i64 i, .int .i64 p, .int .i64 n] w (DoQ b s t (addS t i p n) w) := by
  obtain ⟨R, hR⟩ : ∃ R, addS t i p n = R := ⟨_, rfl⟩
  have HQ := Lib.hid hR
  rw [hR]
  clear hR
  unfold addS at HQ
  obtain ⟨c0, bi⟩ := h.raw.top
  have HT := Lib.hid h
  by_cases h1 : i < 1
  · have t1 : decide (i ≤ 0) = true := decide_eq_true (by omega)
    have HQ2 := Lib.hid (HQ.out.symm.trans (if_pos (.inl h1)))
    clear h1 HQ h hn hi hp
    go_enter Try.func31, Try.ntmps31
    go_wp2_with (fail)
    go_ret
    rw [HQ2.out]
    exact DoQ.same HT.out (Below.refl _ _)
  have t1 : decide (i ≤ 0) = false := decide_eq_false (by omega)
  by_cases h2 : 65535 < i
  · have t2 : decide (65536 ≤ i) = true := decide_eq_true (by omega)
    have HQ2 := Lib.hid (HQ.out.symm.trans (if_pos (.inr h2)))
    clear h1 h2 HQ h hn hi hp
    go_enter Try.func31, Try.ntmps31
    go_wp2_with (fail)
    go_ret
    rw [HQ2.out]
    exact DoQ.same HT.out (Below.refl _ _)
  have t2 : decide (65536 ≤ i) = false := decide_eq_false (by omega)
  have HQ1 := Lib.hid (HQ.out.symm.trans (if_neg (show ¬ (i < 1 ∨ 65535 < i) by omega)))
  have HI2 := Lib.hid (show 1 ≤ i ∧ i ≤ 65535 by omega)
  clear h1 h2 HQ
  by_cases hx : has t i = true
  · have hlk := h.raw.look_some hi hx
    have HQ2 := Lib.hid (HQ1.out.trans (if_pos hx))
    clear HQ1 h hn hi hp hx
    go_enter Try.func31, Try.ntmps31
    go_wp2_with (fail)
    go_ret
    rw [HQ2.out]
    exact DoQ.same HT.out (Below.refl _ _)
  have hlk := h.raw.look_none hi hx
  have HQ2 := Lib.hid (HQ1.out.trans (if_neg hx))
  clear HQ1
  by_cases hy : has t p = true
  case neg =>
    have hlk2 := h.raw.look_none hp hy
    have HQ3 := Lib.hid (HQ2.out.trans (if_pos (by simpa using hy)))
    clear HQ2 h hn hi hp hx hy
    go_enter Try.func31, Try.ntmps31
    go_wp2_with (fail)
    go_ret
    rw [HQ3.out]
    exact DoQ.same HT.out (Below.refl _ _)
  have hlk2 := h.raw.look_some hp hy
  have HQ3 := Lib.hid (HQ2.out.trans (if_neg (by simp [hy])))
  clear HQ2
  obtain ⟨⟨-, -, p2⟩, -, pi⟩ := h.raw.cells (i := p) hy
  obtain ⟨A, c, hv, hc1, hc2, hat⟩ := (h.raw.node p hy).own.at_
  rw [ks_len] at hv
  rw [hv] at p2
  clear hc1 hc2 hat
  have hkl : (kids t p).length ≤ 1000 := Nat.le_trans (kids_le t p) hn
  by_cases h3 : n < 0
  · have t3 : decide (n < 0) = true := decide_eq_true h3
    have HQ4 := Lib.hid (HQ3.out.trans (if_pos (.inl h3)))
    clear h3 HQ3 h hn hi hp hx hy hv hkl
    go_enter Try.func31, Try.ntmps31
    go_wp2_with (fail)
    go_ret
    rw [HQ4.out]
    exact DoQ.same HT.out (Below.refl _ _)
  have t3 : decide (n < 0) = false := decide_eq_false h3
  obtain ⟨m, rfl⟩ : ∃ m : Nat, n = m := ⟨n.toNat, by omega⟩
  clear h3
  by_cases h4 : (kids t p).length < m
  · have t4 : decide ((kids t p).length < m) = true := decide_eq_true h4
    have HQ4 := Lib.hid (HQ3.out.trans (if_pos (.inr (by omega))))
    clear h4 HQ3 h hn hi hp hx hy hv hkl
    generalize (kids t p).length = L at *
    go_enter Try.func31, Try.ntmps31
    go_wp2_with (fail)
    go_ret
    rw [HQ4.out]
    exact DoQ.same HT.out (Below.refl _ _)
  have t4 : decide ((kids t p).length < m) = false := decide_eq_false h4
  have HQ4 := Lib.hid (HQ3.out.trans (if_neg (by omega)))
  clear HQ3 hv
  have hnot := not_has hx
  obtain ⟨w2, hrun, hraw, hgr, hT⟩ := h.raw.grow (i := i) hx hi (fun j hj e => by
      by_cases h0 : j = 0
      · subst h0; cases e
      · rw [upT_some h0] at e
        injection e with e
        have := h.ok.par_ok ((has_iff.1 hj).resolve_left h0)
        rw [e] at this
        exact this.elim hnot.1 hnot.2) (fun j _ hk => hnot.2 (h.ok.kid hk).1) (fun es hm hl => by rw [es_len hm.rises h.ok hl]; omega)
  have hpi : p ≠ i := fun e => hx (e ▸ hy)
  have hkp : setf (kids t) i [] p = kids t p := setf_other _ hpi _
  have HC := Lib.hid (ntake hraw (i := i) (p := p) (.inl rfl) (.inr hy) (Ne.symm hpi) (n := m) (by rw [hkp]; omega) (by rw [hkp]; omega))
  simp only [setf_same, setf_other _ hpi] at HC
  have HF := Lib.hid (And.intro hT (And.intro hnot (And.intro hy hpi)))
  have HM := Lib.hid (fun q => kids_put (t := t) (r := (i, p)) (n := m) h.ok.nd (show m ≤ (kids t p).length by omega) q)
  clear h hn hi hp hx hy hraw hT hgr hnot hpi hkp hkl h4
  generalize (kids t p).length = L at *
  go_enter Try.func31, Try.ntmps31
  go_wp2_with (fail)
  refine HC.out.mono ?_
  rintro e w3 ⟨v', rfl, hraw, hT3⟩
  obtain ⟨hT, hnot, hy, hpi⟩ := HF.out
  have hp0 := has_iff.1 hy
  have hH : ∀ j, hasP (put (i, p) m t) j ↔ (j = i ∨ hasP t j) := fun j => by
    unfold hasP
    rw [has_iff, has_iff, ids_put]
    simp only
    exact ⟨fun h => h.elim (fun h => .inr (.inl h)) fun h => h.elim .inl fun h => .inr (.inr h), fun h => h.elim (fun h => .inr (.inl h)) fun h => h.elim .inl fun h => .inr (.inr h)⟩
  have HE : Hid (DoQ b s t (put (i, p) m t, 0) w (.returned (.int .i64 0)) w3) := by
    refine ⟨⟨s.m, setf s.g i w.heap.size, setf (setf s.v i (.slice none 0 0)) p v'⟩, rfl, ⟨hraw.like hH (fun j hj => ?_) fun j hj => ?_, HT.out.ok.put hnot.2 HI2.out.1 HI2.out.2 hp0 m⟩, (hT.trans hT3).turn (Foot.like hH)⟩
    · by_cases e : j = i
      · subst e
        rw [setf_same, upT_some hnot.1, par_put HT.out.ok.nd hnot.2, if_pos rfl]
      · rw [setf_other _ e, setf_other _ e]
        by_cases h0 : j = 0
        · subst h0
          rfl
        · rw [upT_some h0, upT_some h0, par_put HT.out.ok.nd hnot.2, if_neg e]
    · rw [HM.out]
      by_cases e : j = p
      · subst e
        rw [if_pos rfl, setf_same, setf_other _ hpi]
      · rw [if_neg e, setf_other _ e]
        by_cases e2 : j = i
        · subst e2
          rw [setf_same]
          exact kids_none HT.out.ok (fun h => (has_iff.1 h).elim hnot.1 hnot.2)
        · rw [setf_other _ e2]
  clear hraw hT3 hT hnot hy hpi hp0 hH
  go_wp2_with (fail)
  go_ret
  rw [HQ4.out]
  exact HE.out
end
end Go.Proofs.Ytokochkjjlbnkaa
