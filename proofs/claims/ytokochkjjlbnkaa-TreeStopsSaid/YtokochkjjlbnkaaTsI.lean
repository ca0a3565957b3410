/-
  Layer 12: Remove of a tree.
-/
import Derived.Test.YtokochkjjlbnkaaTsG
namespace Go.Proofs.Ytokochkjjlbnkaa
open Go.RowKit trm itr Go.Shelf

attribute [local go_sem] Oper.semAt_some
/-- all stays but some blocks, and what is new -/
structure KS (S : Bset) (A W : World) : Prop where
  os : W.os = A.os
  tape : W.tape = A.tape
  output : W.output = A.output
  size : A.heap.size ≤ W.heap.size
  same : ∀ k, k < A.heap.size → ¬ S k → W.heap[k]? = A.heap[k]?
theorem KS.refl (S : Bset) (A : World) : KS S A A := ⟨rfl, rfl, rfl, Nat.le_refl _, fun _ _ _ => rfl⟩
theorem KS.step {S : Bset} {A W W' : World} (h : KS S A W) (h1 : W'.os = W.os) (h2 : W'.tape = W.tape) (h3 : W'.output = W.output) (h4 : W.heap.size ≤ W'.heap.size) (hs : ∀ k, k < A.heap.size → ¬ S k → W'.heap[k]? = W.heap[k]?) : KS S A W' :=
  ⟨h1.trans h.os, h2.trans h.tape, h3.trans h.output, Nat.le_trans h.size h4, fun k hk hn => (hs k hk hn).trans (h.same k hk hn)⟩
theorem KS.below {S : Bset} {A W W' : World} (h : KS S A W) (hb : Below A.heap.size W W') : KS S A W' := h.step hb.os hb.tape hb.output hb.size fun k hk _ => hb.block k hk
theorem KS.grown {S : Bset} {A W W' : World} {row : Option Nat} (h : KS S A W) (hg : W.grownBy W' row) (hr : ∀ j, row = some j → A.heap.size ≤ j ∨ S j) : KS S A W' := h.step hg.os hg.tape hg.output hg.size fun k hk hn => hg.block k (Nat.lt_of_lt_of_le hk h.size) fun e => by
  rcases hr k e.symm with h1 | h1
  · omega
  · exact hn h1
theorem KS.bk {S : Bset} {A W W' : World} (h : KS S A W) (hb : Bk A.heap.size W W') : KS S A W' := h.below (hb.below (Nat.le_refl _) h.size)
theorem KS.st {S : Bset} {T : TypeId → Bool} {n : Nat} {A W W' : World} (h : KS S A W) (hs : ST T n W W') (hn : A.heap.size ≤ n) : KS S A W' := h.below (hs.to_below hn h.size)
theorem KS.turn {S S' : Bset} {A W W' : World} (h : KS S A W) (ht : TurnP S' S' W W') (hs : ∀ k, k < A.heap.size → S' k → S k) : KS S A W' := h.step ht.os ht.tape ht.output ht.size fun k hk hn => (ht.far k (Nat.lt_of_lt_of_le hk h.size) fun e => hn (hs k hk e)).2
theorem MapAt.st {w w' : World} {m : Nat} {es : L} {T : TypeId → Bool} {n : Nat} (h : MapAt w m es) (hs : ST T n w w') : MapAt w' m es := by
  obtain ⟨es', clock, h1, h2⟩ := h.own
  exact h.stays ((hs.far m _ h1 fun _ => ⟨rfl, fun _ _ _ e => (nomatch e)⟩).trans h1.symm)
theorem MapAt.bk {w w' : World} {m : Nat} {es : L} {B : Nat} (h : MapAt w m es) (hb : Bk B w w') : MapAt w' m es := by
  obtain ⟨es', clock, h1, h2⟩ := h.own
  exact h.stays ((hb.keep h1 rfl).trans h1.symm)
/-- a map's entry, while it goes -/
structure DJ (w5 : World) (m : Nat) (es : L) (b : Bool) (wx : World) : Prop where
  yes : b = true → MapAt wx m es ∧ w5.grownBy wx (some m)
  no : b = false → wx = w5
/-- one variable and its row, while a number comes to it -/
def S1 (g : Nat) (v : Value) : Bset := fun k => k = g ∨ v.ownBlock = some k
structure H1 (W0 : World) (base g : Nat) (v : Value) (l : List Int) (x : Int) (i5 i6 i7 : Bool) (xb xa : Value) (w : World) : Prop where
  rel : TurnP (S1 g v) (S1 g v) W0 w
  bsz : base ≤ w.heap.size
  one : Half base g v l x i5 i6 i7 xb xa w
section
variable {W0 : World} {base g : Nat} {v : Value} {l : List Int} {x : Int} {i5 i6 i7 : Bool} {xb xa : Value} {w w' : World}
theorem H1.slots {ub ua : Value} (h : H1 W0 base g v l x i5 i6 i7 xb xa w) (e1 : ub = xb) (e2 : ua = xa) : H1 W0 base g v l x i5 i6 i7 ub ua w := by
  rw [e1, e2]; exact h
theorem H1.make (h : H1 W0 base g v l x i5 i6 i7 xb xa w) (eA : i6 = false) : H1 W0 base g v l x true i6 i7 (.slice (some ⟨w.heap.size, 0, none⟩) 1 1) xa (w.alloc (.cells #[.int .i64 x] tInt)) := by
  have hb : Below w.heap.size w (w.alloc (.cells #[.int .i64 x] tInt)) := (Below.refl _ _).alloc (Nat.le_refl _) _
  exact ⟨h.rel.trans (TurnP.below hb), Nat.le_trans h.bsz hb.size, h.one.make eA⟩
theorem H1.app (h : H1 W0 base g v l x i5 i6 i7 xb xa w) (eB : i5 = true) (eA : i6 = false) (hn : l.length ≤ 900000) :
    ∃ v' w', (Builtin.append_ #[tInts, tInts] tInts #[v, xb]).run Try.prog w = .ok v' w' ∧ H1 W0 base g v l x i5 true i7 xb v' w' ∧ TurnP (S1 g v) (S1 g v) w w' := by
  obtain ⟨v', w', h1, h2, h3, h4⟩ := h.one.app eB eA hn h.bsz
  have ht : TurnP (S1 g v) (S1 g v) w w' := TurnP.grown h3 fun k hk => .inr hk
  exact ⟨v', w', h1, ⟨h.rel.trans ht, Nat.le_trans h.bsz h3.size, h2⟩, ht⟩
theorem H1.put (h : H1 W0 base g v l x i5 i6 i7 xb xa w) (eA : i6 = true) : H1 W0 base g v l x i5 i6 true xb xa (w.setCell ⟨g, 0, none⟩ xa) ∧ TurnP (S1 g v) (S1 g v) w (w.setCell ⟨g, 0, none⟩ xa) := by
  have ht : TurnP (S1 g v) (S1 g v) w (w.setCell ⟨g, 0, none⟩ xa) := TurnP.set (a := ⟨g, 0, none⟩) (.inl rfl) xa
  exact ⟨⟨h.rel.trans ht, by simpa [World.setCell] using h.bsz, h.one.put eA⟩, ht⟩
end
section
variable {w : World} {b : Nat} {s : Sh} {t : T}
def RmQ (b : Nat) (s : Sh) (t : T) (r : T × List Int × Int) (w : World) (e : Ending) (w' : World) : Prop :=
  ∃ s' v, e = .returned (.tuple #[v, .int .i64 r.2.2]) ∧ TreeAt w' b s' r.1 ∧ IOwn w' w.heap.size v r.2.1 ∧ TurnP (FootT b s t) (FootT b s' r.1) w w'
theorem walk_no_up (ok : Ok t) {i x : Int} (hi : i ∈ ids t) (hx : x ∈ trm.walk t i) : (kids t x).filter (fun k => decide (k ≠ i)) = kids t x := List.filter_eq_self.2 fun k hk => by
  rw [decide_eq_true_eq]
  rintro rfl
  obtain ⟨h1, h2⟩ := not_within_par ok hi
  rw [(ok.kid hk).2] at h1 h2
  rcases (walk_mem ok (.inr hi)).1 hx with e | e
  · exact h1 e
  · rw [h2] at e; cases e
theorem wd_ids (t : T) (i : Int) (d : Nat) : (wd t i d).map (·.1) = trm.walk t i := by
  unfold wd
  rw [List.map_map]
  exact List.map_id' _
set_option maxRecDepth 100000 in
set_option maxHeartbeats 4000000 in
theorem tremove (h : TreeAt w b s t) (hn : t.length ≤ 1000) (i : Int) (hi : I64 i) :
    Calls Try.prog 32 #[.pointer (some ⟨b, 0, none⟩), .int .i64 i] w (RmQ b s t (remS t i) w) := by
  obtain ⟨R, hR⟩ : ∃ R, remS t i = R := ⟨_, rfl⟩
  have HQ := Lib.hid hR
  rw [hR]
  clear hR
  unfold remS at HQ
  obtain ⟨w0, hw0⟩ : ∃ w0, w0 = w.alloc (.cells #[.pointer (some ⟨b, 0, none⟩)] 25) := ⟨_, rfl⟩
  have hb0 : Below w.heap.size w w0 := by rw [hw0]; exact (Below.refl _ _).alloc (Nat.le_refl _) _
  have hx0 : BlkT w0 w.heap.size [.pointer (some ⟨b, 0, none⟩)] 25 := by rw [hw0]; exact BlkT.new w _ _
  have HT0 := Lib.hid (h.below hb0)
  have HT := Lib.hid h
  have HKD := Lib.hid (tkid (h.below hb0) i hi)
  have HB0 := Lib.hid hb0
  have HX0 := Lib.hid hx0
  unfold kidV kidC at HKD
  have HW0 := Lib.hid hw0
  by_cases h1 : i = 0
  · have HQ2 := Lib.hid (HQ.out.symm.trans (if_pos h1))
    simp only [if_pos h1] at HKD
    rw [if_neg (by decide)] at HKD
    rw [hw0] at HKD
    clear h1 HQ h hn hi hw0 hb0 hx0
    refine calls_of_marks Try.func32 rfl ?_
    simp only [Try.ntmps32, List.size_toArray, List.length_cons, List.length_nil, Nat.reduceAdd, Nat.reduceSub, Array.replicate_succ, Array.replicate_zero, List.push_toArray, List.append_toArray, List.nil_append, List.cons_append]
    go_wp2_with (fail)
    refine HKD.out.mono ?_
    rintro e w1 ⟨rfl, hw1⟩
    rw [← HW0.out] at hw1
    subst hw1
    go_wp2_with (fail)
    refine postM_ret w.heap.size trivial fun w' hb => ⟨_, results_tmp2 rfl _ _ _, ?_⟩
    rw [HQ2.out]
    have hb1 := HB0.out.trans (hb.below (Nat.le_refl _) HB0.out.size)
    exact ⟨s, _, rfl, HT.out.below hb1, SOwn.nil _ _, TurnP.below hb1⟩
  have HQ1 := Lib.hid (HQ.out.symm.trans (if_neg h1))
  simp only [if_neg h1] at HKD
  clear HQ
  by_cases hx : has t i = true
  case neg =>
    have hx' : has t i = false := by simpa using hx
    have HQ2 := Lib.hid (HQ1.out.trans (if_pos hx'))
    simp only [if_pos hx'] at HKD
    rw [if_neg (by decide)] at HKD
    rw [hw0] at HKD
    clear h1 HQ1 h hn hi hx hx' hw0 hb0 hx0
    refine calls_of_marks Try.func32 rfl ?_
    simp only [Try.ntmps32, List.size_toArray, List.length_cons, List.length_nil, Nat.reduceAdd, Nat.reduceSub, Array.replicate_succ, Array.replicate_zero, List.push_toArray, List.append_toArray, List.nil_append, List.cons_append]
    go_wp2_with (fail)
    refine HKD.out.mono ?_
    rintro e w1 ⟨rfl, hw1⟩
    rw [← HW0.out] at hw1
    subst hw1
    go_wp2_with (fail)
    refine postM_ret w.heap.size trivial fun w' hb => ⟨_, results_tmp2 rfl _ _ _, ?_⟩
    rw [HQ2.out]
    have hb1 := HB0.out.trans (hb.below (Nat.le_refl _) HB0.out.size)
    exact ⟨s, _, rfl, HT.out.below hb1, SOwn.nil _ _, TurnP.below hb1⟩
  have hx' : ¬ has t i = false := by simp [hx]
  have HQ2 := Lib.hid (HQ1.out.trans (if_neg hx'))
  simp only [if_neg hx', if_true] at HKD
  have hii := (has_iff.1 hx).resolve_left h1
  rw [hw0] at HKD
  have HLV := Lib.hid (tleave (h.below hb0) (by omega) hii)
  have HI := Lib.hid hii
  have HN := Lib.hid hn
  clear HQ1 hx' h1 h hn hi hx hii hw0 hb0 hx0
  refine calls_of_marks Try.func32 rfl ?_
  simp only [Try.ntmps32, List.size_toArray, List.length_cons, List.length_nil, Nat.reduceAdd, Nat.reduceSub, Array.replicate_succ, Array.replicate_zero, List.push_toArray, List.append_toArray, List.nil_append, List.cons_append]
  go_wp2_with (fail)
  refine HKD.out.mono ?_
  rintro e w1 ⟨rfl, hw1⟩
  rw [← HW0.out] at hw1
  subst hw1
  go_wp2_with (fail)
  refine HLV.out.mono ?_
  rintro e w2 ⟨v', rfl, hraw, hT⟩
  obtain ⟨s2, hs2⟩ : ∃ s2 : Sh, s2 = ⟨s.m, s.g, setf s.v (par t i) v'⟩ := ⟨_, rfl⟩
  have hsg : s2.g = s.g := by rw [hs2]
  have hsm : s2.m = s.m := by rw [hs2]
  rw [← hs2] at hraw hT
  have HRW := Lib.hid hraw
  have HT2 := Lib.hid hT
  have hx2 : BlkT w2 w.heap.size [.pointer (some ⟨b, 0, none⟩)] 25 := HX0.out.stays (hT.far _ HX0.out.inside fun e => by
    have hb0 := HB0.out
    rcases e with e | e | ⟨j, hj, e | e⟩
    · have := HT.out.raw.blk.inside; omega
    · obtain ⟨es, hm, _⟩ := HT.out.raw.map; have := hm.inside; omega
    · have := (HT.out.raw.node j hj).blk.inside; omega
    · have := (SOwn.block (HT.out.raw.node j hj).own e).2; omega).2
  have HX2 := Lib.hid hx2
  have HS2 := Lib.hid (And.intro hsg hsm)
  clear hraw hT hx2 HLV HKD hs2 hsg hsm
  go_wp2_with (fail)
  obtain ⟨w3, hw3⟩ : ∃ w3, w3 = w2.alloc (.cells #[.slice none 0 0] tInts) := ⟨_, rfl⟩
  have HW3 := Lib.hid hw3
  rw [show w2.alloc (Obj.cells #[Value.slice none 0 0] 35) = w3 from hw3.symm]
  clear hw3
  refine (nwalk (s.g i) w3).mono ?_
  rintro e w4 ⟨rfl, hw4⟩
  have hb3 : Below w2.heap.size w2 w3 := by rw [HW3.out]; exact (Below.refl _ _).alloc (Nat.le_refl _) _
  have hb4 : Below w3.heap.size w3 w4 := by rw [hw4]; exact (Below.refl _ _).alloc (Nat.le_refl _) _
  have hg3 : BlkT w3 w2.heap.size [.slice none 0 0] tInts := by rw [HW3.out]; exact BlkT.new w2 _ _
  have hc4 : BlkT w4 w3.heap.size [.pointer (some ⟨s.g i, 0, none⟩)] tPtr := by rw [hw4]; exact BlkT.new w3 _ _
  have hb24 : Below w2.heap.size w2 w4 := hb3.trans (hb4.mono hb3.size)
  have HB24 := Lib.hid hb24
  have HG4 : Hid (BlkT w4 w2.heap.size [.slice none 0 0] tInts) := hg3.stays (hb4.block _ hg3.inside)
  have HX4 : Hid (BlkT w4 w.heap.size [.pointer (some ⟨b, 0, none⟩)] 25) := HX2.out.stays (hb24.block _ HX2.out.inside)
  have HR4 := Lib.hid (HRW.out.below hb24)
  have HC4 : Hid (w4.cell? ⟨w3.heap.size, 0, none⟩ = some (.pointer (some ⟨s2.g i, 0, none⟩))) := by
    show _ = _
    rw [HS2.out.1]
    exact hc4.blk.cell 0
  have HZ24 : Hid (w.heap.size < w2.heap.size ∧ w2.heap.size < w4.heap.size) := ⟨HX2.out.inside, HG4.out.inside⟩
  have HHW : Hid (∀ x ∈ trm.walk t i, has t x = true) := fun x hx => by
    rcases (walk_mem HT.out.ok (.inr HI.out)).1 hx with e | e
    · rw [e]; exact has_iff.2 (.inr HI.out)
    · exact has_iff.2 (.inr (within_has e).1)
  have HLE : Hid ((wd t i 0).length ≤ 1001) := by
    have := walk_le HT.out.ok (.inr HI.out : i = 0 ∨ i ∈ ids t)
    have := HN.out
    rw [wd_len]
    show _ ≤ _
    omega
  have HND : Hid (∀ W, KS (fun k => k = s.m ∨ k = w2.heap.size) w4 W → Nds W s2 (hasP t) (setf (upT t) i none) (fun q => (kids t q).filter fun k => decide (k ≠ i))) := fun W hk j hj => by
    have hn := HR4.out.node j hj
    have hnw := HRW.out.node j hj
    refine hn.stays (hk.same _ hn.blk.inside ?_) fun k hk' => hk.same k (SOwn.block hn.own hk').2 ?_
    · rintro (e | e)
      · exact HR4.out.node_m hj (e.trans HS2.out.2.symm)
      · have := hnw.blk.inside
        omega
    · rintro (e | e)
      · obtain ⟨es, hm, _⟩ := HR4.out.map
        rw [HS2.out.2] at hm
        exact hm.not_own hn.own (e ▸ hk')
      · have := (SOwn.block hnw.own hk').2
        omega
  clear hb3 hb4 hg3 hc4 hb24 hw4
  go_wp2_with (fail)
  refine wp_range (gf := 60) (lb := #[.pointer (some ⟨w3.heap.size, 0, none⟩)]) rfl (enters_of Try.func60 (by kernel_rfl) rfl) (es := walkE s2.g (wd t i 0)) (R := ST sT) (Kp := KT kT)
    (fun W1 hb => walk_iter HT.out.ok (.inr HI.out) (by have := HN.out; omega) (fun x hx => ⟨HHW.out x hx, walk_no_up HT.out.ok HI.out hx⟩) (cell_bk hb HC4.out) (HND.out W1 ((KS.refl _ _).bk hb))) KT.trans (fun A B hb => KT.bk hb) (fun n A B h => h.keeps)
    (fun e he => by obtain ⟨j, _, rfl⟩ := List.mem_map.1 he; rfl)
    (fun k W => KS (fun k => k = s.m ∨ k = w2.heap.size) w4 W ∧ (∃ es, MapAt W s.m es ∧ ∀ j g, omap.look es j = some g ↔ (hasP t j ∧ j ∉ (trm.walk t i).take k) ∧ s2.g j = g) ∧ ∃ v, BlkT W w2.heap.size [v] tInts ∧ IOwn W w4.heap.size v ((trm.walk t i).take k))
    (fun _ _ _ => False) (fun k A B h hr => ?hI) (fun _ _ _ _ h _ => h.elim) ⟨KS.refl _ _, by
      obtain ⟨es, hm, hl⟩ := HR4.out.map
      rw [HS2.out.2] at hm
      exact ⟨es, hm, fun j g => by rw [hl, List.take_zero]; simp⟩, _, HG4.out, by rw [List.take_zero]; exact SOwn.nil _ _⟩ ?a1 ?assign ?body ?done (fun _ _ _ _ _ _ h _ => h.elim)
  case hI =>
    obtain ⟨hk, ⟨es, hm, hl⟩, v, hx, ho⟩ := h
    rcases hr with ⟨n, hn, hr⟩ | hb
    · exact ⟨hk.st hr hn, ⟨es, hm.st hr, hl⟩, v, hx.st hr (by decide), SOwn.st ho hr (by decide)⟩
    · exact ⟨hk.bk hb, ⟨es, hm.bk hb, hl⟩, v, hx.bk hb, SOwn.bk ho hb⟩
  case assign =>
    intro l j hj W9 KK hKK
    rw [walkE_getD]
    gi_wp2
    exact hKK
  case done =>
    rintro D W9 hD ⟨hk, ⟨es, hm, hl⟩, v, hx, ho⟩ hd
    rw [walkE_len, wd_len, List.take_length] at ho
    rw [walkE_len, wd_len, List.take_length] at hl
    have cb := hx.blk.cell 0
    have zb := hx.inside
    simp only [List.getElem?_cons_zero] at cb
    have HZ := Lib.hid (And.intro hk (And.intro hm (And.intro hl ho)))
    clear hk hm hl hx ho
    go_wp2_with (fail)
    refine postM_ret w4.heap.size ⟨⟨D, rfl, hD, hd, by simp⟩, trivial⟩ fun w' hb => ⟨_, results_tmp2 rfl _ _ _, ?_⟩
    obtain ⟨hk, hm, hl, ho⟩ := HZ.out
    rw [HQ2.out]
    have hks := hk.bk hb
    have hsm := HS2.out.2
    have hin : ∀ k, FootT b s t k → k < w.heap.size := HT.out.raw.inside
    have hmw : s.m < w.heap.size := hin _ (.inr (.inl rfl))
    have hbw : b < w.heap.size := hin _ (.inl rfl)
    have hz := HZ24.out
    have hH : ∀ j, hasP (trm.gone (trm.walk t i) t) j ↔ (hasP t j ∧ j ∉ trm.walk t i) := fun j => by
      unfold hasP
      rw [has_iff, has_iff, ids_gone]
      constructor
      · rintro (e | e)
        · subst e
          refine ⟨.inl rfl, fun h0 => ?_⟩
          rcases (walk_mem HT.out.ok (.inr HI.out)).1 h0 with e | e
          · exact HT.out.ok.ne0 HI.out e.symm
          · exact HT.out.ok.ne0 (within_has e).1 rfl
        · exact ⟨.inr e.1, e.2⟩
      · rintro ⟨e | e, h0⟩
        · exact .inl e
        · exact .inr ⟨e, h0⟩
    have hraw : RawT w' b s2 (trm.gone (trm.walk t i) t) := by
      refine ⟨HR4.out.blk.stays (hks.same _ HR4.out.blk.inside fun e => ?_), ⟨es, by rw [hsm]; exact hm.bk hb, fun j g => by rw [hl, hH]⟩, fun j hj => ?_, fun j k hj hk => HR4.out.inj j k ((hH j).1 hj).1 ((hH k).1 hk).1, fun j k y hj hk => HR4.out.apart j k y ((hH j).1 hj).1 ((hH k).1 hk).1⟩
      · rcases e with e | e
        · obtain ⟨es4, hm4, _⟩ := HR4.out.map
          rw [hsm, ← e] at hm4
          exact hm4.not_blk HR4.out.blk
        · omega
      · obtain ⟨hj1, hj2⟩ := (hH j).1 hj
        have hji : j ≠ i := fun e => hj2 (by rw [e, walk_eq HT.out.ok]; exact List.mem_cons_self)
        have hn := HND.out w' hks j hj1
        rw [setf_other _ hji] at hn
        rw [kids_left HT.out.ok HI.out hj2]
        have e : upT (trm.gone (trm.walk t i) t) j = upT t j := by
          unfold upT
          rw [par_gone HT.out.ok.nd, if_neg hj2]
        rw [e]
        exact hn
    refine ⟨s2, v, rfl, ⟨hraw, HT.out.ok.gone HI.out⟩, SOwn.weaken (SOwn.bk ho hb) (by omega), ?_⟩
    have hb0 := HB0.out
    have hb24 := HB24.out
    have ht2 := HT2.out
    have hs0 := hb0.size
    refine ⟨hks.os.trans (hb24.os.trans (ht2.os.trans hb0.os)), hks.tape.trans (hb24.tape.trans (ht2.tape.trans hb0.tape)), hks.output.trans (hb24.output.trans (ht2.output.trans hb0.output)), by have := hks.size; omega, fun k hk' hn => ?_⟩
    obtain ⟨h5, h6⟩ := ht2.far k (by omega) hn
    refine ⟨fun e => h5 ?_, ?_⟩
    · rcases e with e | e | ⟨j, hj, e⟩
      · exact .inl e
      · exact .inr (.inl e)
      · exact .inr (.inr ⟨j, ((hH j).1 hj).1, e⟩)
    · rw [hks.same k (by omega) (fun e => by
        rcases e with e | e
        · exact hn (.inr (.inl e))
        · omega), hb24.block k (by omega), h6, hb0.block k hk']
  case body =>
    rintro l j hj W9 ⟨hk, ⟨es, hm, hl⟩, v, hx, ho⟩
    obtain ⟨x, d, hxd⟩ : ∃ x d, (wd t i 0).getD j (0, 0) = (x, d) := ⟨_, _, rfl⟩
    have hjl : j < (wd t i 0).length := by rw [walkE_len] at hj; exact hj
    have hmem : (wd t i 0)[j] = (x, d) := by rw [List.getD_eq_getElem?_getD, List.getElem?_eq_getElem hjl] at hxd; exact hxd
    have hxw : x ∈ trm.walk t i := wd_mem (i := i) (d := 0) (by rw [← hmem]; exact List.getElem_mem hjl)
    have htx := HHW.out x hxw
    have htk : (trm.walk t i).take (j + 1) = (trm.walk t i).take j ++ [x] := by
      rw [← wd_ids t i 0, List.take_succ_eq_append_getElem (by rw [List.length_map]; exact hjl), List.getElem_map, hmem]
    rw [List.getD_eq_getElem?_getD] at hxd
    rw [hxd, HS2.out.1]
    obtain ⟨A1, n1, k1, rfl⟩ := SOwn.shape ho
    have HTK := Lib.hid htk
    have HL1 : Hid (((trm.walk t i).take j).length ≤ 900000) := by
      have := HLE.out
      rw [wd_len] at this
      show _ ≤ _
      rw [List.length_take]
      omega
    have h64 : I64 x := by
      rcases has_iff.1 htx with e | e
      · subst e; constructor <;> decide
      · obtain ⟨p, hp⟩ := mem_ids.1 e
        have := HT.out.ok.rng _ hp
        simp only at this
        constructor <;> omega
    generalize (trm.walk t i).take j = l1 at *
    have hbn := (HND.out W9 hk x htx).blk
    rw [HS2.out.1] at hbn
    have hbx := HX4.out.stays (hk.same _ HX4.out.inside fun e => by
      have hmw : s.m < w.heap.size := HT.out.raw.inside _ (.inr (.inl rfl))
      have := HZ24.out
      rcases e with e | e <;> omega)
    have hbt := HR4.out.blk.stays (hk.same _ HR4.out.blk.inside fun e => by
      rcases e with e | e
      · obtain ⟨es4, hm4, _⟩ := HR4.out.map
        rw [HS2.out.2, ← e] at hm4
        exact hm4.not_blk HR4.out.blk
      · have : b < w.heap.size := HT.out.raw.inside _ (.inl rfl)
        have := HZ24.out
        omega)
    rw [HS2.out.2] at hbt
    have hS : ∀ k, S1 w2.heap.size (.slice A1 n1 k1) k → ∃ cu T, W9.heap[k]? = some (Obj.cells cu T (0, 0)) ∧ (T = tInts ∨ T = tInt) := by
      rintro k (e | e)
      · rw [e]; exact ⟨_, _, hx, .inl rfl⟩
      · obtain ⟨cu, hc⟩ := SOwn.typed ho e; exact ⟨cu, _, hc, .inr rfl⟩
    have HSS := Lib.hid hS
    have HSG : Hid (∀ k, S1 w2.heap.size (.slice A1 n1 k1) k → k = w2.heap.size ∨ w4.heap.size ≤ k) := by
      rintro k (e | e)
      · exact .inl e
      · exact .inr (SOwn.block ho e).1
    have HST : Hid (∀ W' k cs T, TurnP (S1 w2.heap.size (.slice A1 n1 k1)) (S1 w2.heap.size (.slice A1 n1 k1)) W9 W' → BlkT W9 k cs T → T ≠ tInts → T ≠ tInt → BlkT W' k cs T) := fun W' k cs T ht hb' h1 h2 => hb'.stays (ht.far k hb'.inside fun e => by
      obtain ⟨cu, T', hc, hT⟩ := HSS.out _ e
      have := hb'.symm.trans hc
      simp only [Option.some.injEq, Obj.cells.injEq] at this
      rcases hT with rfl | rfl
      · exact h1 this.2.1
      · exact h2 this.2.1).2
    have HNX : Hid (∀ W', TurnP (S1 w2.heap.size (.slice A1 n1 k1)) (S1 w2.heap.size (.slice A1 n1 k1)) W9 W' → W'.cell? ⟨s.g x, 0, none⟩ = some (.int .i64 x) ∧ s.g x < W'.heap.size) := fun W' ht =>
      have b' := HST.out W' _ _ _ ht hbn (by decide) (by decide)
      ⟨b'.blk.cell 0, b'.inside⟩
    have HJ0 : Hid (H1 W9 w4.heap.size w2.heap.size (.slice A1 n1 k1) l1 x false false false undef undef W9.drew) := by
      have hd : Below W9.heap.size W9 W9.drew := (Below.refl _ _).drew
      exact ⟨TurnP.below hd, Nat.le_trans hk.size hd.size, ⟨hx.stays (hd.block _ hx.inside), SOwn.below ho hd, fun e => (nomatch e), fun e => (nomatch e)⟩⟩
    have HBN := Lib.hid hbn
    have HBX := Lib.hid hbx
    have HBT := Lib.hid hbt
    have HK := Lib.hid hk
    have HM := Lib.hid (And.intro hm hl)
    have H64 := Lib.hid h64
    clear hxd hjl hmem hxw htx htk hS hk hm hl hx ho hj h64 hbn hbx hbt
    refine wpIn_block (wpIn_seq ?_)
    refine regvi.wp_region_put (TurnP (S1 w2.heap.size (.slice A1 n1 k1)) (S1 w2.heap.size (.slice A1 n1 k1))) (fun L V wx => H1 W9 w4.heap.size w2.heap.size (.slice A1 n1 k1) l1 x (L 5) (L 6) (L 7) (V 30) (V 31) wx ∧ (L 7 = true → L 0 = true) ∧ (L 6 = true → L 5 = true)) [25, 26, 27, 28, 29, 30, 31] (by kernel_rfl) (by kernel_rfl) (by kernel_rfl) (fun _ => TurnP.refl _ _) (fun _ _ _ h k => h.trans k) (fun i => (match i with
      | 0 => regs.Say.val _ (.slice A1 n1 k1)
      | 1 => regs.Say.val _ (.pointer (some ⟨s.g x, 0, none⟩))
      | 2 => regs.Say.val _ (.pointer (some ⟨s.g x, 0, none⟩))
      | 3 => regs.Say.val _ (.pointer (some ⟨s.g x, 0, none⟩))
      | 4 => regs.Say.val _ (.int .i64 x)
      | 5 => regs.Say.any _
      | 6 => regs.Say.any _
      | 7 => regs.Say.any _
      | _ => regs.Say.any _ : regs.Say (TurnP (S1 w2.heap.size (.slice A1 n1 k1)) (S1 w2.heap.size (.slice A1 n1 k1)))).p) (fun _ => regs.Say.mono _) (by kernel_rfl) (TurnP.below ((Below.refl _ _).drew)) (⟨H1.slots HJ0.out rfl rfl, fun e => (nomatch e), fun e => (nomatch e)⟩) ⟨?_, ?_, ?_, ?_, ?_, ?_, ?_, ?_, trivial⟩ ?_
    · refine regv.StepOK.plain rfl fun L a w1 hh => ?_
      have h8 : a.tmps[8]?.getD undef = .pointer (some ⟨w2.heap.size, 0, none⟩) := by rw [← Array.getD_eq_getD_getElem?]; exact hh.old 8 rfl
      have e11 := not_yet hh.st.2.1 hh.un
      have bx := hh.st.1.one.box
      rw [e11] at bx
      have cb := bx.blk.cell 0
      have zb := bx.inside
      simp only [cur, cond_false, List.getElem?_cons_zero] at cb
      have hJ := Lib.hid hh.st
      clear hh
      go_simp
      exact ⟨_, rfl, TurnP.refl _ _, rfl, ⟨H1.slots hJ.out.1 (regv.sl_ne (by decide)) (regv.sl_ne (by decide)), ord_upd hJ.out.2.1 (.inl (by decide)), ord_upd hJ.out.2.2 (.inl (by decide))⟩⟩
    · refine regv.StepOK.plain rfl fun L a w1 hh => ?_
      have h9 : a.tmps[9]?.getD undef = .pointer (some ⟨s.g x, 0, none⟩) := by rw [← Array.getD_eq_getD_getElem?]; exact hh.old 9 rfl
      have hJ := Lib.hid hh.st
      clear hh
      go_simp
      exact ⟨_, rfl, TurnP.refl _ _, rfl, ⟨H1.slots hJ.out.1 (regv.sl_ne (by decide)) (regv.sl_ne (by decide)), ord_upd hJ.out.2.1 (.inl (by decide)), ord_upd hJ.out.2.2 (.inl (by decide))⟩⟩
    · refine regv.StepOK.plain rfl fun L a w1 hh => ?_
      have h26 : a.tmps[26]?.getD undef = .pointer (some ⟨s.g x, 0, none⟩) := by rw [← Array.getD_eq_getD_getElem?]; exact hh.dep 1 26 (by kernel_rfl) (by kernel_rfl)
      obtain ⟨cx, zx⟩ := HNX.out _ hh.rel
      have hJ := Lib.hid hh.st
      clear hh
      go_simp
      exact ⟨_, rfl, TurnP.refl _ _, rfl, ⟨H1.slots hJ.out.1 (regv.sl_ne (by decide)) (regv.sl_ne (by decide)), ord_upd hJ.out.2.1 (.inl (by decide)), ord_upd hJ.out.2.2 (.inl (by decide))⟩⟩
    · refine regv.StepOK.plain rfl fun L a w1 hh => ?_
      have h27 : a.tmps[27]?.getD undef = .pointer (some ⟨s.g x, 0, none⟩) := by rw [← Array.getD_eq_getD_getElem?]; exact hh.dep 2 27 (by kernel_rfl) (by kernel_rfl)
      have hJ := Lib.hid hh.st
      clear hh
      go_simp
      exact ⟨_, rfl, TurnP.refl _ _, rfl, ⟨H1.slots hJ.out.1 (regv.sl_ne (by decide)) (regv.sl_ne (by decide)), ord_upd hJ.out.2.1 (.inl (by decide)), ord_upd hJ.out.2.2 (.inl (by decide))⟩⟩
    · refine regv.StepOK.plain rfl fun L a w1 hh => ?_
      have h28 : a.tmps[28]?.getD undef = .pointer (some ⟨s.g x, 0, none⟩) := by rw [← Array.getD_eq_getD_getElem?]; exact hh.dep 3 28 (by kernel_rfl) (by kernel_rfl)
      obtain ⟨cx, zx⟩ := HNX.out _ hh.rel
      have hJ := Lib.hid hh.st
      clear hh
      go_simp
      exact ⟨_, rfl, TurnP.refl _ _, rfl, ⟨H1.slots hJ.out.1 (regv.sl_ne (by decide)) (regv.sl_ne (by decide)), ord_upd hJ.out.2.1 (.inl (by decide)), ord_upd hJ.out.2.2 (.inl (by decide))⟩⟩
    · refine regv.StepOK.plain rfl fun L a w1 hh => ?_
      have h29 : a.tmps[29]?.getD undef = .int .i64 x := by rw [← Array.getD_eq_getD_getElem?]; exact hh.dep 4 29 (by kernel_rfl) (by kernel_rfl)
      have hJ := Lib.hid hh.st
      have hsz := Lib.hid hh.size
      have e6 := Lib.hid (not_yet hJ.out.2.2 hh.un)
      clear hh
      go_simp
      exact ⟨_, rfl, TurnP.below ((Below.refl _ _).alloc (Nat.le_refl _) _), trivial, ⟨H1.slots (H1.make hJ.out.1 e6.out) (regv.sl_same (by rw [hsz.out]; simp)) (regv.sl_ne (by decide)), ord_upd hJ.out.2.1 (.inl (by decide)), ord_upd hJ.out.2.2 (.inl (by decide))⟩⟩
    · refine regv.StepOK.plain rfl fun L a w1 hh => ?_
      have hJ := Lib.hid hh.st
      have hsz := Lib.hid hh.size
      obtain ⟨v9, w9, hrun, hj9, ht9⟩ := H1.app hJ.out.1 (hh.up 5 (by kernel_rfl)) hh.un HL1.out
      exact wp_app (.tmp 25) (.tmp 30) 35 35 35 rfl rfl (hh.dep 0 25 (by kernel_rfl) (by kernel_rfl)) rfl hrun ⟨v9, rfl, ht9, trivial, ⟨H1.slots hj9 (regv.sl_ne (by decide)) (regv.sl_same (by rw [hsz.out]; simp)), ord_upd hJ.out.2.1 (.inl (by decide)), ord_upd hJ.out.2.2 (.inr (hh.up 5 (by kernel_rfl)))⟩⟩
    · refine regv.StepOK.plain rfl fun L a w1 hh => ?_
      have h8 : a.tmps[8]?.getD undef = .pointer (some ⟨w2.heap.size, 0, none⟩) := by rw [← Array.getD_eq_getD_getElem?]; exact hh.old 8 rfl
      have h6 := hh.up 6 (by kernel_rfl)
      have ho := hh.st.1.one.own
      rw [h6] at ho
      obtain ⟨A9, n9, c9, e33⟩ := SOwn.shape ho
      have e33 : regv.sl a 31 = .slice A9 n9 c9 := e33
      have h31 : a.tmps[31]?.getD undef = .slice A9 n9 c9 := by rw [← Array.getD_eq_getD_getElem?]; exact e33
      have bx := hh.st.1.one.box
      have cb := bx.blk.cell 0
      have fb := bx.blk.free 0
      have zb := bx.inside
      simp only [List.getElem?_cons_zero] at cb
      have hJ := Lib.hid hh.st
      have hP := H1.put hh.st.1 h6
      have hU := Lib.hid (hh.up 0 (by kernel_rfl))
      rw [e33] at hP
      have HE := Lib.hid e33
      have HP := Lib.hid hP
      clear hh h6 ho bx hP e33
      go_simp
      exact ⟨HP.out.2, ⟨undef, trivial⟩, H1.slots HP.out.1 rfl HE.out, ord_upd hJ.out.2.1 (.inr hU.out), ord_upd hJ.out.2.2 (.inl (by decide))⟩
    intro L w5 val hL hJ hR hv
    obtain ⟨hJ, -⟩ := hJ
    have h1 := hJ.one
    rw [hL 6 (by decide), hL 7 (by decide)] at h1
    simp only [regs.putAll, List.map_cons, List.map_nil]
    simp only [Act.put, List.setIfInBounds_toArray, List.set_cons_zero, List.set_cons_succ]
    have HH1 := Lib.hid h1
    have HR5 := Lib.hid hR
    have hms : ¬ S1 w2.heap.size (.slice A1 n1 k1) s.m := fun e => by
      obtain ⟨cu, T, hc, _⟩ := HSS.out _ e
      obtain ⟨es', clock, h2, _⟩ := HM.out.1.own
      rw [hc] at h2
      cases h2
    have HMS := Lib.hid hms
    have hm5 : MapAt w5 s.m es := HM.out.1.stays (hR.far _ HM.out.1.inside hms).2
    have HM5 : Hid (MapAt w5.drew s.m es) := hm5.stays rfl
    have hX5 := HST.out w5 _ _ _ hR HBX.out (by decide) (by decide)
    have hB5 := HST.out w5 _ _ _ hR HBT.out (by decide) (by decide)
    have hN5 := HST.out w5 _ _ _ hR HBN.out (by decide) (by decide)
    have HX5 : Hid (BlkT w5.drew w.heap.size [.pointer (some ⟨b, 0, none⟩)] 25) := hX5
    have HB5 : Hid (BlkT w5.drew b [.map (some s.m)] tTree) := hB5
    have HN5 : Hid (w5.drew.cell? ⟨s.g x, 0, none⟩ = some (.int .i64 x) ∧ s.g x < w5.drew.heap.size) := ⟨hN5.blk.cell 0, hN5.inside⟩
    clear hv hL hJ hR h1 hms hm5 hX5 hB5 hN5
    generalize val 25 = y25 at *
    generalize val 26 = y26 at *
    generalize val 27 = y27 at *
    generalize val 28 = y28 at *
    generalize val 29 = y29 at *
    generalize val 30 = y30 at *
    generalize val 31 = y31 at *
    simp only [Exit.then]
    refine regvi.wp_region_put (fun _ _ => True) (fun L V wx => DJ w5.drew s.m (omap.del x es) (L 8) wx ∧ (L 8 = true → L 3 = true) ∧ (L 3 = true → L 2 = true) ∧ (L 2 = true → L 1 = true) ∧ (L 1 = true → L 0 = true) ∧ (L 8 = true → L 7 = true) ∧ (L 7 = true → L 6 = true) ∧ (L 6 = true → L 5 = true) ∧ (L 5 = true → L 4 = true)) [32, 33, 34, 35, 36, 37, 38, 39] (by kernel_rfl) (by kernel_rfl) (by kernel_rfl) (fun _ => trivial) (fun _ _ _ _ _ => trivial) (fun i => (match i with
      | 0 => regs.Say.val _ (.pointer (some ⟨b, 0, none⟩))
      | 1 => regs.Say.val _ (.pointer (some ⟨b, 0, none⟩))
      | 2 => regs.Say.val _ (.pointer (some ⟨b, 0, none⟩))
      | 3 => regs.Say.val _ (.map (some s.m))
      | 4 => regs.Say.val _ (.pointer (some ⟨s.g x, 0, none⟩))
      | 5 => regs.Say.val _ (.pointer (some ⟨s.g x, 0, none⟩))
      | 6 => regs.Say.val _ (.pointer (some ⟨s.g x, 0, none⟩))
      | 7 => regs.Say.val _ (.int .i64 x)
      | 8 => regs.Say.any _
      | _ => regs.Say.any _ : regs.Say (fun _ _ => True)).p) (fun _ => regs.Say.mono _) (by kernel_rfl) (trivial) (⟨⟨fun e => (nomatch e), fun _ => rfl⟩, fun e => (nomatch e), fun e => (nomatch e), fun e => (nomatch e), fun e => (nomatch e), fun e => (nomatch e), fun e => (nomatch e), fun e => (nomatch e), fun e => (nomatch e)⟩) ⟨?_, ?_, ?_, ?_, ?_, ?_, ?_, ?_, ?_, trivial⟩ ?_
    · refine regv.StepOK.plain rfl fun L a w1 hh => ?_
      have h2 : a.tmps[2]?.getD undef = .pointer (some ⟨w.heap.size, 0, none⟩) := by rw [← Array.getD_eq_getD_getElem?]; exact hh.old 2 rfl
      have hw := hh.st.1.no (not_yet (fun e => hh.st.2.2.2.2.1 (hh.st.2.2.2.1 (hh.st.2.2.1 (hh.st.2.1 (e))))) hh.un)
      subst hw
      have cX := HX5.out.blk.cell 0
      have zX := HX5.out.inside
      have cB := HB5.out.blk.cell 0
      have zB := HB5.out.inside
      obtain ⟨cN, zN⟩ := HN5.out
      simp only [List.getElem?_cons_zero] at cX cB
      have hJ := Lib.hid hh.st
      clear hh
      go_simp
      exact ⟨_, rfl, rfl, hJ.out.1, ord_upd hJ.out.2.1 (.inl (by decide)), ord_upd hJ.out.2.2.1 (.inl (by decide)), ord_upd hJ.out.2.2.2.1 (.inl (by decide)), ord_upd hJ.out.2.2.2.2.1 (.inl (by decide)), ord_upd hJ.out.2.2.2.2.2.1 (.inl (by decide)), ord_upd hJ.out.2.2.2.2.2.2.1 (.inl (by decide)), ord_upd hJ.out.2.2.2.2.2.2.2.1 (.inl (by decide)), ord_upd hJ.out.2.2.2.2.2.2.2.2 (.inl (by decide))⟩
    · refine regv.StepOK.plain rfl fun L a w1 hh => ?_
      have h32 : a.tmps[32]?.getD undef = .pointer (some ⟨b, 0, none⟩) := by rw [← Array.getD_eq_getD_getElem?]; exact hh.dep 0 32 (by kernel_rfl) (by kernel_rfl)
      have hw := hh.st.1.no (not_yet (fun e => hh.st.2.2.2.1 (hh.st.2.2.1 (hh.st.2.1 (e)))) hh.un)
      subst hw
      have cX := HX5.out.blk.cell 0
      have zX := HX5.out.inside
      have cB := HB5.out.blk.cell 0
      have zB := HB5.out.inside
      obtain ⟨cN, zN⟩ := HN5.out
      simp only [List.getElem?_cons_zero] at cX cB
      have hJ := Lib.hid hh.st
      have hU := Lib.hid (hh.up 0 (by kernel_rfl))
      clear hh
      go_simp
      exact ⟨_, rfl, rfl, hJ.out.1, ord_upd hJ.out.2.1 (.inl (by decide)), ord_upd hJ.out.2.2.1 (.inl (by decide)), ord_upd hJ.out.2.2.2.1 (.inl (by decide)), ord_upd hJ.out.2.2.2.2.1 (.inr hU.out), ord_upd hJ.out.2.2.2.2.2.1 (.inl (by decide)), ord_upd hJ.out.2.2.2.2.2.2.1 (.inl (by decide)), ord_upd hJ.out.2.2.2.2.2.2.2.1 (.inl (by decide)), ord_upd hJ.out.2.2.2.2.2.2.2.2 (.inl (by decide))⟩
    · refine regv.StepOK.plain rfl fun L a w1 hh => ?_
      have h33 : a.tmps[33]?.getD undef = .pointer (some ⟨b, 0, none⟩) := by rw [← Array.getD_eq_getD_getElem?]; exact hh.dep 1 33 (by kernel_rfl) (by kernel_rfl)
      have hw := hh.st.1.no (not_yet (fun e => hh.st.2.2.1 (hh.st.2.1 (e))) hh.un)
      subst hw
      have cX := HX5.out.blk.cell 0
      have zX := HX5.out.inside
      have cB := HB5.out.blk.cell 0
      have zB := HB5.out.inside
      obtain ⟨cN, zN⟩ := HN5.out
      simp only [List.getElem?_cons_zero] at cX cB
      have hJ := Lib.hid hh.st
      have hU := Lib.hid (hh.up 1 (by kernel_rfl))
      clear hh
      go_simp
      exact ⟨_, rfl, rfl, hJ.out.1, ord_upd hJ.out.2.1 (.inl (by decide)), ord_upd hJ.out.2.2.1 (.inl (by decide)), ord_upd hJ.out.2.2.2.1 (.inr hU.out), ord_upd hJ.out.2.2.2.2.1 (.inl (by decide)), ord_upd hJ.out.2.2.2.2.2.1 (.inl (by decide)), ord_upd hJ.out.2.2.2.2.2.2.1 (.inl (by decide)), ord_upd hJ.out.2.2.2.2.2.2.2.1 (.inl (by decide)), ord_upd hJ.out.2.2.2.2.2.2.2.2 (.inl (by decide))⟩
    · refine regv.StepOK.plain rfl fun L a w1 hh => ?_
      have h34 : a.tmps[34]?.getD undef = .pointer (some ⟨b, 0, none⟩) := by rw [← Array.getD_eq_getD_getElem?]; exact hh.dep 2 34 (by kernel_rfl) (by kernel_rfl)
      have hw := hh.st.1.no (not_yet (fun e => hh.st.2.1 (e)) hh.un)
      subst hw
      have cX := HX5.out.blk.cell 0
      have zX := HX5.out.inside
      have cB := HB5.out.blk.cell 0
      have zB := HB5.out.inside
      obtain ⟨cN, zN⟩ := HN5.out
      simp only [List.getElem?_cons_zero] at cX cB
      have hJ := Lib.hid hh.st
      have hU := Lib.hid (hh.up 2 (by kernel_rfl))
      clear hh
      go_simp
      exact ⟨_, rfl, rfl, hJ.out.1, ord_upd hJ.out.2.1 (.inl (by decide)), ord_upd hJ.out.2.2.1 (.inr hU.out), ord_upd hJ.out.2.2.2.1 (.inl (by decide)), ord_upd hJ.out.2.2.2.2.1 (.inl (by decide)), ord_upd hJ.out.2.2.2.2.2.1 (.inl (by decide)), ord_upd hJ.out.2.2.2.2.2.2.1 (.inl (by decide)), ord_upd hJ.out.2.2.2.2.2.2.2.1 (.inl (by decide)), ord_upd hJ.out.2.2.2.2.2.2.2.2 (.inl (by decide))⟩
    · refine regv.StepOK.plain rfl fun L a w1 hh => ?_
      have h9 : a.tmps[9]?.getD undef = .pointer (some ⟨s.g x, 0, none⟩) := by rw [← Array.getD_eq_getD_getElem?]; exact hh.old 9 rfl
      have hw := hh.st.1.no (not_yet (fun e => hh.st.2.2.2.2.2.2.2.2 (hh.st.2.2.2.2.2.2.2.1 (hh.st.2.2.2.2.2.2.1 (hh.st.2.2.2.2.2.1 (e))))) hh.un)
      subst hw
      have cX := HX5.out.blk.cell 0
      have zX := HX5.out.inside
      have cB := HB5.out.blk.cell 0
      have zB := HB5.out.inside
      obtain ⟨cN, zN⟩ := HN5.out
      simp only [List.getElem?_cons_zero] at cX cB
      have hJ := Lib.hid hh.st
      clear hh
      go_simp
      exact ⟨_, rfl, rfl, hJ.out.1, ord_upd hJ.out.2.1 (.inl (by decide)), ord_upd hJ.out.2.2.1 (.inl (by decide)), ord_upd hJ.out.2.2.2.1 (.inl (by decide)), ord_upd hJ.out.2.2.2.2.1 (.inl (by decide)), ord_upd hJ.out.2.2.2.2.2.1 (.inl (by decide)), ord_upd hJ.out.2.2.2.2.2.2.1 (.inl (by decide)), ord_upd hJ.out.2.2.2.2.2.2.2.1 (.inl (by decide)), ord_upd hJ.out.2.2.2.2.2.2.2.2 (.inl (by decide))⟩
    · refine regv.StepOK.plain rfl fun L a w1 hh => ?_
      have h36 : a.tmps[36]?.getD undef = .pointer (some ⟨s.g x, 0, none⟩) := by rw [← Array.getD_eq_getD_getElem?]; exact hh.dep 4 36 (by kernel_rfl) (by kernel_rfl)
      have hw := hh.st.1.no (not_yet (fun e => hh.st.2.2.2.2.2.2.2.1 (hh.st.2.2.2.2.2.2.1 (hh.st.2.2.2.2.2.1 (e)))) hh.un)
      subst hw
      have cX := HX5.out.blk.cell 0
      have zX := HX5.out.inside
      have cB := HB5.out.blk.cell 0
      have zB := HB5.out.inside
      obtain ⟨cN, zN⟩ := HN5.out
      simp only [List.getElem?_cons_zero] at cX cB
      have hJ := Lib.hid hh.st
      have hU := Lib.hid (hh.up 4 (by kernel_rfl))
      clear hh
      go_simp
      exact ⟨_, rfl, rfl, hJ.out.1, ord_upd hJ.out.2.1 (.inl (by decide)), ord_upd hJ.out.2.2.1 (.inl (by decide)), ord_upd hJ.out.2.2.2.1 (.inl (by decide)), ord_upd hJ.out.2.2.2.2.1 (.inl (by decide)), ord_upd hJ.out.2.2.2.2.2.1 (.inl (by decide)), ord_upd hJ.out.2.2.2.2.2.2.1 (.inl (by decide)), ord_upd hJ.out.2.2.2.2.2.2.2.1 (.inl (by decide)), ord_upd hJ.out.2.2.2.2.2.2.2.2 (.inr hU.out)⟩
    · refine regv.StepOK.plain rfl fun L a w1 hh => ?_
      have h37 : a.tmps[37]?.getD undef = .pointer (some ⟨s.g x, 0, none⟩) := by rw [← Array.getD_eq_getD_getElem?]; exact hh.dep 5 37 (by kernel_rfl) (by kernel_rfl)
      have hw := hh.st.1.no (not_yet (fun e => hh.st.2.2.2.2.2.2.1 (hh.st.2.2.2.2.2.1 (e))) hh.un)
      subst hw
      have cX := HX5.out.blk.cell 0
      have zX := HX5.out.inside
      have cB := HB5.out.blk.cell 0
      have zB := HB5.out.inside
      obtain ⟨cN, zN⟩ := HN5.out
      simp only [List.getElem?_cons_zero] at cX cB
      have hJ := Lib.hid hh.st
      have hU := Lib.hid (hh.up 5 (by kernel_rfl))
      clear hh
      go_simp
      exact ⟨_, rfl, rfl, hJ.out.1, ord_upd hJ.out.2.1 (.inl (by decide)), ord_upd hJ.out.2.2.1 (.inl (by decide)), ord_upd hJ.out.2.2.2.1 (.inl (by decide)), ord_upd hJ.out.2.2.2.2.1 (.inl (by decide)), ord_upd hJ.out.2.2.2.2.2.1 (.inl (by decide)), ord_upd hJ.out.2.2.2.2.2.2.1 (.inl (by decide)), ord_upd hJ.out.2.2.2.2.2.2.2.1 (.inr hU.out), ord_upd hJ.out.2.2.2.2.2.2.2.2 (.inl (by decide))⟩
    · refine regv.StepOK.plain rfl fun L a w1 hh => ?_
      have h38 : a.tmps[38]?.getD undef = .pointer (some ⟨s.g x, 0, none⟩) := by rw [← Array.getD_eq_getD_getElem?]; exact hh.dep 6 38 (by kernel_rfl) (by kernel_rfl)
      have hw := hh.st.1.no (not_yet (fun e => hh.st.2.2.2.2.2.1 (e)) hh.un)
      subst hw
      have cX := HX5.out.blk.cell 0
      have zX := HX5.out.inside
      have cB := HB5.out.blk.cell 0
      have zB := HB5.out.inside
      obtain ⟨cN, zN⟩ := HN5.out
      simp only [List.getElem?_cons_zero] at cX cB
      have hJ := Lib.hid hh.st
      have hU := Lib.hid (hh.up 6 (by kernel_rfl))
      clear hh
      go_simp
      exact ⟨_, rfl, rfl, hJ.out.1, ord_upd hJ.out.2.1 (.inl (by decide)), ord_upd hJ.out.2.2.1 (.inl (by decide)), ord_upd hJ.out.2.2.2.1 (.inl (by decide)), ord_upd hJ.out.2.2.2.2.1 (.inl (by decide)), ord_upd hJ.out.2.2.2.2.2.1 (.inl (by decide)), ord_upd hJ.out.2.2.2.2.2.2.1 (.inr hU.out), ord_upd hJ.out.2.2.2.2.2.2.2.1 (.inl (by decide)), ord_upd hJ.out.2.2.2.2.2.2.2.2 (.inl (by decide))⟩
    · refine regv.StepOK.plain rfl fun L a w1 hh => ?_
      have hw := hh.st.1.no hh.un
      subst hw
      obtain ⟨w9, hrun, hm9, hg9⟩ := HM5.out.drop H64.out _
      exact wp_del (.tmp 35) (.tmp 39) 85 3 _ rfl rfl (hh.dep 3 35 (by kernel_rfl) (by kernel_rfl)) (hh.dep 7 39 (by kernel_rfl) (by kernel_rfl)) hrun ⟨_, rfl, trivial, trivial, ⟨fun _ => ⟨hm9, hg9⟩, fun e => absurd e (by simp [regs.upd])⟩, ord_upd hh.st.2.1 (.inr (hh.up 3 (by kernel_rfl))), ord_upd hh.st.2.2.1 (.inl (by decide)), ord_upd hh.st.2.2.2.1 (.inl (by decide)), ord_upd hh.st.2.2.2.2.1 (.inl (by decide)), ord_upd hh.st.2.2.2.2.2.1 (.inr (hh.up 7 (by kernel_rfl))), ord_upd hh.st.2.2.2.2.2.2.1 (.inl (by decide)), ord_upd hh.st.2.2.2.2.2.2.2.1 (.inl (by decide)), ord_upd hh.st.2.2.2.2.2.2.2.2 (.inl (by decide))⟩
    intro L w6 val2 hL hJ _ _
    obtain ⟨hm6, hg6⟩ := hJ.1.yes (hL 8 (by decide))
    have hd : Below w5.heap.size w5 w5.drew := (Below.refl _ _).drew
    have hR := HR5.out
    have hmi := HM.out.1.inside
    have hk : ∀ (k : Nat) (o : Obj), W9.heap[k]? = some o → (∀ cu : Array Value, o ≠ Obj.cells cu tInts (0, 0) ∧ o ≠ Obj.cells cu tInt (0, 0)) → k ≠ s.m → w6.heap[k]? = some o := fun k o hk hn hne => by
      have hlt := (Array.getElem?_eq_some_iff.1 hk).1
      have h2 := (hR.far k hlt fun e => by
        obtain ⟨cu, T, hc, hT⟩ := HSS.out k e
        have e2 := hk.symm.trans hc
        injection e2 with e2
        rcases hT with rfl | rfl
        · exact (hn cu).1 e2
        · exact (hn cu).2 e2).2
      refine (hg6.block k (Nat.lt_of_lt_of_le hlt hR.size) fun e => hne (Option.some.inj e)).trans (h2.trans hk)
    have hmo : ∀ o, W9.heap[s.m]? = some o → ∃ es clock, o = Obj.map es clock := fun o ho => by
      obtain ⟨es', clock, h2, _⟩ := HM.out.1.own
      rw [h2] at ho
      exact ⟨_, _, (Option.some.inj ho).symm⟩
    have hsz : W9.heap.size ≤ w6.heap.size := Nat.le_trans hR.size hg6.size
    refine ⟨fun k o h3 h4 => hk k o h3 (fun cu => ⟨fun e => (by subst e; cases h4), fun e => (by subst e; cases h4)⟩) (fun e => ?_), ⟨hsz, fun k cu ty fr h3 h4 => hk k _ h3 (fun cu' => ⟨fun e => ?_, fun e => ?_⟩) (fun e => ?_)⟩, ?_, ⟨_, hm6, fun j' g => ?_⟩, y31, HH1.out.box.stays (hg6.block _ HH1.out.box.inside fun e => ?_), ?_⟩
    · rw [e] at h3
      obtain ⟨_, _, rfl⟩ := hmo o h3
      cases h4
    · injection e with _ e _
      rw [e] at h4
      exact absurd h4 (by decide)
    · injection e with _ e _
      rw [e] at h4
      exact absurd h4 (by decide)
    · rw [e] at h3
      obtain ⟨_, _, e2⟩ := hmo _ h3
      cases e2
    · refine ((HK.out.turn hR fun k hk' e => (HSG.out k e).elim .inr fun e2 => by omega).below (hd.mono (Nat.le_trans HK.out.size hR.size))).grown hg6 fun j' e => .inr (.inl (Option.some.inj e).symm)
    · rw [HTK.out, omap.look_del]
      by_cases e : j' = x
      · rw [if_pos e, e]
        simp
      · rw [if_neg e, HM.out.2]
        simp [e, HS2.out.1]
    · have hmw : s.m < w.heap.size := HT.out.raw.inside _ (.inr (.inl rfl))
      have := Option.some.inj e
      have := HZ24.out
      omega
    · rw [HTK.out]
      have ho5 : IOwn w5 w4.heap.size y31 (l1 ++ [x]) := HH1.out.own
      refine SOwn.stays ho5 fun k hk' => hg6.block k (SOwn.block ho5 hk').2 fun e => ?_
      have e2 := Option.some.inj e
      have := (SOwn.block ho5 hk').1
      have hmw : s.m < w.heap.size := HT.out.raw.inside _ (.inr (.inl rfl))
      have := HZ24.out
      omega
end
end Go.Proofs.Ytokochkjjlbnkaa
