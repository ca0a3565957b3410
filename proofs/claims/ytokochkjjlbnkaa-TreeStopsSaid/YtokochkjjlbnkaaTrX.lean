/-
  Layer 12: a node put among kids.
-/
import Derived.Test.YtokochkjjlbnkaaTrW
namespace Go.Proofs.Ytokochkjjlbnkaa
open Go.RowKit trm

section
variable {w w' : World} {b : Nat} {s : Sh} {H : Int → Prop} {P : Int → Option Int} {K : Int → List Int}
theorem ks_ins (s : Sh) (n : Nat) (i : Int) (l : List Int) : insL n (some (s.g i)) (ks s l) = ks s (ins n i l) := by
  unfold insL ins ks
  rw [List.map_append, List.map_cons, List.map_take, List.map_drop]
def TakeQ (b : Nat) (s : Sh) (H : Int → Prop) (P : Int → Option Int) (K : Int → List Int) (i p : Int) (n : Nat) (w : World) (e : Ending) (w' : World) : Prop :=
  ∃ v', e = .returned (.tuple #[]) ∧ Raw w' b ⟨s.m, s.g, setf s.v p v'⟩ H (setf P i (some p)) (setf K p (ins n i (K p))) ∧ TurnP (Foot b s H) (Foot b ⟨s.m, s.g, setf s.v p v'⟩ H) w w'
set_option maxRecDepth 100000 in
set_option maxHeartbeats 1000000 in
theorem ntake (h : Raw w b s H P K) {i p : Int} (hi : H i) (hp : H p) (hne : i ≠ p) {n : Nat} (hn : n ≤ (K p).length) (hm : (K p).length ≤ 100000) :
    Calls Try.prog 47 #[.pointer (some ⟨s.g p, 0, none⟩), .pointer (some ⟨s.g i, 0, none⟩), .int .i64 (n : Nat)] w (TakeQ b s H P K i p n w) := by
  obtain ⟨w0, hw0⟩ : ∃ w0, w0 = w.alloc (.cells #[.pointer (some ⟨s.g i, 0, none⟩)] tPtr) := ⟨_, rfl⟩
  have hb0 : Below w.heap.size w w0 := by rw [hw0]; exact (Below.refl _ _).alloc (Nat.le_refl _) _
  have hx : BlkT w0 w.heap.size [.pointer (some ⟨s.g i, 0, none⟩)] tPtr := by rw [hw0]; exact BlkT.new w _ _
  have h0 := h.below hb0
  obtain ⟨⟨-, -, q2⟩, ⟨-, -, fq2⟩, qi⟩ := h.cells hp
  have hgne : s.g i ≠ s.g p := fun e => hne (h.inj _ _ hi hp e)
  have HG : Hid (s.g i ≠ s.g p) := hgne
  have HI := Lib.hid (ninsert (h0.node p hp).own (i := n) (by rw [ks_len]; exact hn) w.heap.size (s.g i) 1 hx (fun e => by
    have := (SOwn.block (h.node p hp).own e).2
    omega) (by rw [ks_len]; exact hm))
  have HR := Lib.hid h
  have HR0 := Lib.hid h0
  have HH := Lib.hid (And.intro hi (And.intro hp hne))
  have HB0 := Lib.hid hb0
  have hnb : (n : Int) ≤ 100000 := by omega
  unfold TakeQ
  have HW0 := Lib.hid hw0
  clear h hi hp hne hn hm h0 hb0 hx
  go_enter Try.func47, Try.ntmps47
  rw [hw0] at HI
  clear hw0
  go_wp2_with (fail)
  refine HI.out.mono ?_
  rintro e w2 ⟨v', rfl, hown, hvb, hT⟩
  rw [← HW0.out] at hT hvb
  obtain ⟨A2, n2, c2, rfl⟩ : ∃ A n c, v' = .slice A n c := by
    obtain ⟨A, c, e, -⟩ := hown.at_
    exact ⟨_, _, _, e⟩
  obtain ⟨v', hv'⟩ : ∃ v, v = Value.slice A2 n2 c2 := ⟨_, rfl⟩
  rw [← hv'] at hown hvb hT
  obtain ⟨hi, hq, hne⟩ := HH.out
  have hs0 := HB0.out.size
  have hb2 : ∀ j, H j → w2.heap[s.g j]? = w0.heap[s.g j]? := fun j hj => (hT.far _ (HR0.out.node j hj).blk.inside (fun e => (HR0.out.node p hq).own.not_blk e (HR0.out.node j hj).blk tNode_ne)).2
  have bq : BlkT w2 (s.g p) [.int .i64 p, ptrTo ((P p).map s.g), s.v p] tNode := (HR0.out.node p hq).blk.stays (hb2 p hq)
  have bi : BlkT w2 (s.g i) [.int .i64 i, ptrTo ((P i).map s.g), s.v i] tNode := (HR0.out.node i hi).blk.stays (hb2 i hi)
  have hT0 : TurnP (Foot b s H) (Foot b s H) w w0 := TurnP.below HB0.out
  have hnew : ∀ g, v'.ownBlock = some g → (s.v p).ownBlock = some g ∨ w0.heap.size ≤ g := fun g hg => by
    rcases hvb with e | ⟨g', e, hle⟩
    · exact .inl (e ▸ hg)
    · exact .inr (Option.some.inj (e.symm.trans hg) ▸ hle)
  have hgq : ∀ k, v'.ownBlock = some k → ∀ j, H j → k ≠ s.g j := fun k hk j hj e => by
    rcases hnew k hk with h1 | h1
    · exact (HR.out.node p hq).own.not_blk (e ▸ h1) (HR.out.node j hj).blk tNode_ne
    · have := (HR.out.node j hj).blk.inside
      omega
  have HQ : Hid (Raw ((w2.setCell ⟨s.g p, 2, none⟩ v').setCell ⟨s.g i, 1, none⟩ (.pointer (some ⟨s.g p, 0, none⟩))) b ⟨s.m, s.g, setf s.v p v'⟩ H (setf P i (some p)) (setf K p (ins n i (K p))) ∧
      TurnP (Foot b s H) (Foot b ⟨s.m, s.g, setf s.v p v'⟩ H) w ((w2.setCell ⟨s.g p, 2, none⟩ v').setCell ⟨s.g i, 1, none⟩ (.pointer (some ⟨s.g p, 0, none⟩)))) := by
    have h3 : Raw (w2.setCell ⟨s.g p, 2, none⟩ v') b ⟨s.m, s.g, setf s.v p v'⟩ H P (setf K p (ins n i (K p))) := by
      have := HR0.out.upd (w' := w2.setCell ⟨s.g p, 2, none⟩ v') (v' := v') (l' := ins n i (K p)) (p' := P p) hq ⟨bq.set 2 v', ?_⟩ (fun k' hk' h1 h2 => ?_) ?_
      · rw [setf_self] at this
        exact this
      · rw [← ks_ins]
        exact SOwn.stays hown fun k' hk' => heap_setCell_other _ _ _ _ (hgq k' hk' p hq)
      · rw [heap_setCell_other _ _ _ _ h1]
        exact (hT.far k' (HR0.out.inside k' hk') h2).2
      · rcases hvb with e | ⟨g', e, hle⟩
        · exact .inl e
        · exact .inr ⟨g', e, fun hf => by have := HR0.out.inside g' hf; omega⟩
    have bi3 : BlkT (w2.setCell ⟨s.g p, 2, none⟩ v') (s.g i) [.int .i64 i, ptrTo ((P i).map s.g), s.v i] tNode := bi.stays (heap_setCell_other _ _ _ _ (HG.out))
    have hvi : (setf s.v p v') i = s.v i := setf_other _ hne _
    have h4 : Raw ((w2.setCell ⟨s.g p, 2, none⟩ v').setCell ⟨s.g i, 1, none⟩ (.pointer (some ⟨s.g p, 0, none⟩))) b ⟨s.m, s.g, setf s.v p v'⟩ H (setf P i (some p)) (setf K p (ins n i (K p))) := by
      have := h3.upd (w' := (w2.setCell ⟨s.g p, 2, none⟩ v').setCell ⟨s.g i, 1, none⟩ (.pointer (some ⟨s.g p, 0, none⟩))) (v' := (setf s.v p v') i) (l' := (setf K p (ins n i (K p))) i) (p' := some p) hi ⟨?_, ?_⟩ (fun k' hk' h1 h2 => heap_setCell_other _ _ _ _ h1) (.inl rfl)
      · rw [setf_self, setf_self] at this
        exact this
      · rw [hvi]
        exact bi3.set 1 _
      · refine SOwn.stays (h3.node i hi).own fun k' hk' => heap_setCell_other _ _ _ _ fun (e : k' = s.g i) => ?_
        rw [e] at hk'
        exact (h3.node i hi).own.not_blk hk' (h3.node i hi).blk tNode_ne
    have hsz := hT.size
    refine ⟨h4, hT.os.trans HB0.out.os, hT.tape.trans HB0.out.tape, hT.output.trans HB0.out.output, by simp [World.setCell]; omega, fun k' hk' hn => ⟨fun e => ?_, ?_⟩⟩
    · rcases foot_upd e with h | h
      · exact hn h
      · rcases hnew k' h with h1 | h1
        · exact hn (.inr (.inr ⟨p, hq, .inr h1⟩))
        · omega
    · rw [heap_setCell_other _ _ _ _ (fun (e : k' = s.g i) => hn (by rw [e]; exact HR.out.foot_g hi)), heap_setCell_other _ _ _ _ (fun (e : k' = s.g p) => hn (by rw [e]; exact HR.out.foot_g hq))]
      exact ((hT.far k' (by omega) (fun e => hn (.inr (.inr ⟨p, hq, .inr e⟩)))).2).trans (HB0.out.block k' hk')
  rw [hv'] at HQ
  have fq := bq.blk.free 2
  have cq := bq.blk.cell 2
  have fi := bi.blk.free 1
  have ci := bi.blk.cell 1
  have zi := bi.inside
  have zq := bq.inside
  simp only [List.getElem?_cons_succ, List.getElem?_cons_zero] at cq ci
  clear hown hvb hT hb2 bq bi hi hq hne hv' hT0 hnew hgq hs0
  go_wp2_with (fail)
  go_end0
  exact ⟨_, rfl, HQ.out.1, HQ.out.2⟩
end
end Go.Proofs.Ytokochkjjlbnkaa
