/-
  Layer 12: a node put among kids, and taken out of them.
-/
import Derived.Test.YtokochkjjlbnkaaTrV
namespace Go.Proofs.Ytokochkjjlbnkaa
open Go.RowKit trm

theorem ninsert {w : World} {v : Value} {l : List (Option Nat)} (h : KOwn w v l) {i : Nat} (hi : i ≤ l.length) (vb x c : Nat) (hx : BlkT w vb [.pointer (some ⟨x, 0, none⟩)] tPtr) (hne : v.ownBlock ≠ some vb) (hn : l.length ≤ 100000) :
    Calls Try.prog 64 #[v, .int .i64 (i : Nat), .slice (some ⟨vb, 0, none⟩) 1 c] w (InsQ v i x l w) := by
  by_cases he : i = l.length
  · subst he
    exact ninsert_end h vb x c hx hn
  have hi : i < l.length := by omega
  rcases h.cells with ⟨_, h0⟩ | ⟨g, cap, cur, rfl, h3, h4, h5, h6, h7⟩
  · rw [h0] at hi
    cases hi
  by_cases hr : l.length + 1 ≤ cap
  · exact ninsert_shift h3 h5 h6 h7 hi hr vb x c hx (fun e => hne (by rw [e]; rfl)) hn
  · obtain rfl : cap = l.length := by omega
    exact ninsert_grow h3 h6 h7 hi vb x c hx hn
def setf {α : Type} (f : Int → α) (q : Int) (x : α) : Int → α := fun j => if j = q then x else f j
theorem setf_same {α : Type} (f : Int → α) (q : Int) (x : α) : setf f q x q = x := if_pos rfl
theorem setf_other {α : Type} (f : Int → α) {q j : Int} (h : j ≠ q) (x : α) : setf f q x j = f j := if_neg h
theorem setf_self {α : Type} (f : Int → α) (q : Int) : setf f q (f q) = f := by
  funext j
  unfold setf
  split
  · subst_vars; rfl
  · rfl
section
variable {w w' : World} {b : Nat} {s : Sh} {H : Int → Prop} {P : Int → Option Int} {K : Int → List Int}
theorem Raw.foot_g (_ : Raw w b s H P K) {q : Int} (hq : H q) : Foot b s H (s.g q) := .inr (.inr ⟨q, hq, .inl rfl⟩)
theorem Raw.node_b (h : Raw w b s H P K) {q : Int} (hq : H q) : s.g q ≠ b := fun e => by
  have := (h.node q hq).blk
  rw [e] at this
  have := h.blk.symm.trans this
  simp at this
theorem Raw.node_m (h : Raw w b s H P K) {q : Int} (hq : H q) : s.g q ≠ s.m := fun e => by
  obtain ⟨es, hm, _⟩ := h.map
  have := (h.node q hq).blk
  rw [e] at this
  exact hm.not_blk this
theorem tNode_ne : tNode ≠ tPtr := by decide
theorem tTree_ne : tTree ≠ tPtr := by decide
/-- one node turned -/
theorem Raw.upd (h : Raw w b s H P K) {q : Int} (hq : H q) {v' : Value} {l' : List Int} {p' : Option Int} (hn : NodeAt w' (s.g q) q (p'.map s.g) v' (ks s l'))
    (hsame : ∀ k, Foot b s H k → k ≠ s.g q → (s.v q).ownBlock ≠ some k → w'.heap[k]? = w.heap[k]?)
    (hv : v'.ownBlock = (s.v q).ownBlock ∨ ∃ g, v'.ownBlock = some g ∧ ¬ Foot b s H g) :
    Raw w' b ⟨s.m, s.g, setf s.v q v'⟩ H (setf P q p') (setf K q l') := by
  have hb : w'.heap[b]? = w.heap[b]? := hsame b (.inl rfl) (fun e => h.node_b hq e.symm) fun e => (h.node q hq).own.not_blk e h.blk tTree_ne
  have hm : w'.heap[s.m]? = w.heap[s.m]? := hsame s.m (.inr (.inl rfl)) (fun e => h.node_m hq e.symm) fun e => by
    obtain ⟨es, hm, _⟩ := h.map
    exact hm.not_own (h.node q hq).own e
  have hblk : ∀ j k, H j → j ≠ q → (k = s.g j ∨ (s.v j).ownBlock = some k) → w'.heap[k]? = w.heap[k]? := by
    intro j k hj hne hk
    refine hsame k (.inr (.inr ⟨j, hj, hk⟩)) ?_ ?_
    · rintro rfl
      rcases hk with e | e
      · exact hne (h.inj _ _ hj hq e.symm)
      · exact (h.node j hj).own.not_blk e (h.node q hq).blk tNode_ne
    · intro e
      rcases hk with rfl | e2
      · exact (h.node q hq).own.not_blk e (h.node j hj).blk tNode_ne
      · exact hne (h.apart _ _ _ hj hq e2 e)
  refine ⟨h.blk.stays hb, ?_, fun j hj => ?_, h.inj, ?_⟩
  · obtain ⟨es, hm1, hl⟩ := h.map
    exact ⟨es, hm1.stays hm, hl⟩
  · by_cases e : j = q
    · subst e
      simp only [setf_same]
      exact hn
    · simp only [setf_other _ e]
      exact (h.node j hj).stays (hblk j _ hj e (.inl rfl)) fun k hk => hblk j k hj e (.inr hk)
  · intro i j k hi hj h1 h2
    by_cases ei : i = q
    · by_cases ej : j = q
      · rw [ei, ej]
      · simp only [ei, setf_same, setf_other _ ej] at h1 h2
        rcases hv with hv | ⟨g, hv, hf⟩
        · rw [ei]
          exact h.apart _ _ _ hq hj (hv ▸ h1) h2
        · rw [hv] at h1
          obtain rfl := Option.some.inj h1
          exact absurd (.inr (.inr ⟨j, hj, .inr h2⟩)) hf
    · by_cases ej : j = q
      · simp only [ej, setf_same, setf_other _ ei] at h1 h2
        rcases hv with hv | ⟨g, hv, hf⟩
        · rw [ej]
          exact h.apart _ _ _ hi hq h1 (hv ▸ h2)
        · rw [hv] at h2
          obtain rfl := Option.some.inj h2
          exact absurd (.inr (.inr ⟨i, hi, .inr h1⟩)) hf
      · simp only [setf_other _ ei, setf_other _ ej] at h1 h2
        exact h.apart _ _ _ hi hj h1 h2
theorem foot_upd {b : Nat} {s : Sh} {H : Int → Prop} {q : Int} {v' : Value} {k : Nat} (h : Foot b ⟨s.m, s.g, setf s.v q v'⟩ H k) : Foot b s H k ∨ v'.ownBlock = some k := by
  rcases h with h | h | ⟨i, hi, h | h⟩
  · exact .inl (.inl h)
  · exact .inl (.inr (.inl h))
  · exact .inl (.inr (.inr ⟨i, hi, .inl h⟩))
  · by_cases e : i = q
    · simp only [e, setf_same] at h
      exact .inr h
    · simp only [setf_other _ e] at h
      exact .inl (.inr (.inr ⟨i, hi, .inr h⟩))
def LeaveQ (b : Nat) (s : Sh) (H : Int → Prop) (P : Int → Option Int) (K : Int → List Int) (i q : Int) (w : World) (e : Ending) (w' : World) : Prop :=
  ∃ v', e = .returned (.tuple #[]) ∧ Raw w' b ⟨s.m, s.g, setf s.v q v'⟩ H (setf P i none) (setf K q ((K q).eraseIdx ((K q).idxOf i))) ∧ TurnP (Foot b s H) (Foot b ⟨s.m, s.g, setf s.v q v'⟩ H) w w'
set_option maxRecDepth 100000 in
set_option maxHeartbeats 1000000 in
theorem nleave (h : Raw w b s H P K) {i q : Int} (hi : H i) (hq : H q) (hp : P i = some q) (hne : i ≠ q) (hK : ∀ x ∈ K q, H x) (hm : i ∈ K q) (hn : (K q).length ≤ 100000) :
    Calls Try.prog 46 #[.pointer (some ⟨s.g i, 0, none⟩)] w (LeaveQ b s H P K i q w) := by
  obtain ⟨⟨-, i1, -⟩, ⟨-, fi1, -⟩, ii⟩ := h.cells hi
  obtain ⟨⟨-, -, q2⟩, ⟨-, -, fq2⟩, qi⟩ := h.cells hq
  rw [hp] at i1
  simp only [Option.map_some, ptrTo] at i1
  have hgne : s.g i ≠ s.g q := fun e => hne (h.inj _ _ hi hq e)
  have HX := Lib.hid (nindex h hq hK hm hn)
  have hlt := List.idxOf_lt_length_iff.2 hm
  have HD := Lib.hid (ndelete (h.node q hq).own (i := (K q).idxOf i) (by rw [ks_len]; exact hlt) (by rw [ks_len]; exact hn))
  have hkb : (((K q).idxOf i : Nat) : Int) ≤ 100000 := by omega
  have HL : Hid ((ks s (K q)).eraseIdx ((K q).idxOf i) = ks s ((K q).eraseIdx ((K q).idxOf i))) := by
    show _ = _
    unfold ks
    rw [List.eraseIdx_eq_take_drop_succ, List.eraseIdx_eq_take_drop_succ, List.map_append, List.map_take, List.map_drop]
  have HR := Lib.hid h
  have HG : Hid (s.g i ≠ s.g q) := hgne
  have HH := Lib.hid (And.intro hi (And.intro hq (And.intro hne hp)))
  unfold LeaveQ
  clear h hi hq hp hne hK hm hn hlt
  generalize (K q).idxOf i = k at *
  go_enter Try.func46, Try.ntmps46
  go_wp2_with (fail)
  refine HX.out.mono ?_
  rintro e w1 ⟨rfl, rfl⟩
  go_wp2_with (fail)
  refine HD.out.mono ?_
  rintro e w2 ⟨v', rfl, hown, hvb, hT⟩
  obtain ⟨A2, n2, c2, rfl⟩ : ∃ A n c, v' = .slice A n c := by
    obtain ⟨A, c, e, -⟩ := hown.at_
    exact ⟨_, _, _, e⟩
  obtain ⟨v', hv'⟩ : ∃ v, v = Value.slice A2 n2 c2 := ⟨_, rfl⟩
  rw [← hv'] at hown hvb
  obtain ⟨hi, hq, hne, hp⟩ := HH.out
  have hb2 : ∀ j, H j → w2.heap[s.g j]? = w1.heap[s.g j]? := fun j hj => (hT.far _ (HR.out.node j hj).blk.inside (fun e => (HR.out.node q hq).own.not_blk e (HR.out.node j hj).blk tNode_ne)).2
  have bq : BlkT w2 (s.g q) [.int .i64 q, ptrTo ((P q).map s.g), s.v q] tNode := (HR.out.node q hq).blk.stays (hb2 q hq)
  have bi : BlkT w2 (s.g i) [.int .i64 i, ptrTo ((P i).map s.g), s.v i] tNode := (HR.out.node i hi).blk.stays (hb2 i hi)
  have HQ : Hid (Raw ((w2.setCell ⟨s.g q, 2, none⟩ v').setCell ⟨s.g i, 1, none⟩ (.pointer none)) b ⟨s.m, s.g, setf s.v q v'⟩ H (setf P i none) (setf K q ((K q).eraseIdx k)) ∧
      TurnP (Foot b s H) (Foot b ⟨s.m, s.g, setf s.v q v'⟩ H) w1 ((w2.setCell ⟨s.g q, 2, none⟩ v').setCell ⟨s.g i, 1, none⟩ (.pointer none))) := by
    have hT2 : TurnP (Foot b s H) (Foot b s H) w1 (w2.setCell ⟨s.g q, 2, none⟩ v') := by
      have := (hT.sub (S2 := OneB (s.v q).ownBlock) fun k hk => .inl hk)
      refine ⟨hT.os, hT.tape, hT.output, by simpa [World.setCell] using hT.size, fun k hk hn => ⟨hn, ?_⟩⟩
      rw [heap_setCell_other _ _ _ _ (fun (e : k = s.g q) => hn (by rw [e]; exact HR.out.foot_g hq))]
      exact (hT.far k hk (fun e => hn (.inr (.inr ⟨q, hq, .inr e⟩)))).2
    have hgq : ∀ k, (s.v q).ownBlock = some k → k ≠ s.g q := fun k hk e => (HR.out.node q hq).own.not_blk (e ▸ hk) (HR.out.node q hq).blk tNode_ne
    have h3 : Raw (w2.setCell ⟨s.g q, 2, none⟩ v') b ⟨s.m, s.g, setf s.v q v'⟩ H P (setf K q ((K q).eraseIdx k)) := by
      have := HR.out.upd (w' := w2.setCell ⟨s.g q, 2, none⟩ v') (v' := v') (l' := (K q).eraseIdx k) (p' := P q) hq ⟨bq.set 2 v', ?_⟩ (fun k' hk' h1 h2 => ?_) (.inl hvb)
      · rw [setf_self] at this
        exact this
      · rw [← HL.out]
        exact SOwn.stays hown fun k' hk' => heap_setCell_other _ _ _ _ (hgq k' (hvb ▸ hk'))
      · rw [heap_setCell_other _ _ _ _ h1]
        exact (hT.far k' (HR.out.inside k' hk') h2).2
    have bi3 : BlkT (w2.setCell ⟨s.g q, 2, none⟩ v') (s.g i) [.int .i64 i, ptrTo ((P i).map s.g), s.v i] tNode := bi.stays (heap_setCell_other _ _ _ _ (HG.out))
    have hvi : (setf s.v q v') i = s.v i := setf_other _ hne _
    have hki : (setf K q ((K q).eraseIdx k)) i = K i := setf_other _ hne _
    have h4 : Raw ((w2.setCell ⟨s.g q, 2, none⟩ v').setCell ⟨s.g i, 1, none⟩ (.pointer none)) b ⟨s.m, s.g, setf s.v q v'⟩ H (setf P i none) (setf K q ((K q).eraseIdx k)) := by
      have := h3.upd (w' := (w2.setCell ⟨s.g q, 2, none⟩ v').setCell ⟨s.g i, 1, none⟩ (.pointer none)) (v' := (setf s.v q v') i) (l' := (setf K q ((K q).eraseIdx k)) i) (p' := none) hi ⟨?_, ?_⟩ (fun k' hk' h1 h2 => heap_setCell_other _ _ _ _ h1) (.inl rfl)
      · rw [setf_self, setf_self] at this
        exact this
      · rw [hvi]
        exact bi3.set 1 _
      · refine SOwn.stays (h3.node i hi).own fun k' hk' => heap_setCell_other _ _ _ _ fun (e : k' = s.g i) => ?_
        rw [e] at hk'
        exact (h3.node i hi).own.not_blk hk' (h3.node i hi).blk tNode_ne
    refine ⟨h4, hT2.os, hT2.tape, hT2.output, by simpa [World.setCell] using hT2.size, fun k' hk' hn => ⟨fun e => ?_, ?_⟩⟩
    · rcases foot_upd e with h | h
      · exact hn h
      · exact hn (.inr (.inr ⟨q, hq, .inr (hvb ▸ h)⟩))
    · rw [heap_setCell_other _ _ _ _ (fun (e : k' = s.g i) => hn (by rw [e]; exact HR.out.foot_g hi))]
      exact (hT2.far k' hk' hn).2
  rw [hv'] at HQ
  have fq := bq.blk.free 2
  have cq := bq.blk.cell 2
  have fi := bi.blk.free 1
  have ci := bi.blk.cell 1
  have zi := bi.inside
  have zq := bq.inside
  simp only [List.getElem?_cons_succ, List.getElem?_cons_zero] at cq ci
  clear hown hvb hT hb2 bq bi hi hq hp hne HL hv'
  go_wp2_with (fail)
  go_end0
  exact ⟨_, rfl, HQ.out.1, HQ.out.2⟩
end
end Go.Proofs.Ytokochkjjlbnkaa
