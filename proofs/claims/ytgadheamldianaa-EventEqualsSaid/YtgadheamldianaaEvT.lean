/-
  Layer 19: ops held against each other, by the document.
-/
import Derived.Test.YtgadheamldianaaEvS
namespace Go.Proofs.Ytgadheamldianaa
open Go.RowKit pxm imm

def BlkT (w : World) (g : Nat) (cs : List Value) (T : TypeId) : Prop := w.heap[g]? = some (.cells cs.toArray T (0, 0))
section
variable {w w' : World} {g : Nat} {cs cs' : List Value} {T : TypeId}
theorem BlkT.blk (h : BlkT w g cs T) : Blk w g cs := ⟨T, h⟩
theorem BlkT.inside (h : BlkT w g cs T) : g < w.heap.size := lt_of_block h
theorem BlkT.stays (h : BlkT w g cs T) (hb : w'.heap[g]? = w.heap[g]?) : BlkT w' g cs T := hb.trans h
theorem BlkT.new (w : World) (cs : List Value) (T : TypeId) : BlkT (w.alloc (.cells cs.toArray T)) w.heap.size cs T := heap_alloc_new w _
theorem BlkT.set (h : BlkT w g cs T) (i : Nat) (u : Value) : BlkT (w.setCell ⟨g, i, none⟩ u) g (cs.set i u) T := by
  obtain ⟨T', h'⟩ := h.blk.set i u
  have hlt := h.inside
  have e : w.heap[g] = .cells cs.toArray T (0, 0) := by simpa [BlkT, Array.getElem?_eq_getElem hlt] using h
  show (w.heap.modify g _)[g]? = _
  rw [Array.getElem?_eq_getElem (by simpa using hlt), Array.getElem_modify_self, e]
  simp
theorem BlkT.wrote (h : BlkT w g cs T) (hW : Wrote g w w') (hB : Blk w' g cs') : BlkT w' g cs' T := by
  obtain ⟨o, l, rfl⟩ := hW
  have : ∀ (l : List Value) (o : Nat) {w : World} {cs : List Value}, BlkT w g cs T → ∃ c2, BlkT (putBlk g w o l) g c2 T := by
    intro l
    induction l with
    | nil => exact fun _ _ cs h => ⟨cs, h⟩
    | cons v l ih => exact fun o _ _ h => ih (o + 1) (h.set o v)
  obtain ⟨c2, h2⟩ := this l o h
  obtain ⟨T', h3⟩ := hB
  have e := h2.symm.trans h3
  simp only [Option.some.injEq, Obj.cells.injEq] at e
  have e1 : c2 = cs' := by have := congrArg Array.toList e.1; simpa using this
  rw [← e1]
  exact h2
end
theorem not_yet {L : Nat → Bool} {a b : Nat} (h : L a = true → L b = true) (hb : L b = false) : L a = false := by
  cases e : L a with
  | false => rfl
  | true => rw [h e] at hb; cases hb
/-- pixels of the document's -/
structure PxR (w : World) (A : Option Addr) (l : List Nat) : Prop where
  row : Row eW w A l
  typ : ∀ a, A = some a → l ≠ [] → ∃ cs fz, w.heap[a.block]? = some (.cells cs 44 fz)
theorem PxR.stays {w w' : World} {A : Option Addr} {l : List Nat} (h : PxR w A l) (hb : ∀ a, A = some a → l ≠ [] → w'.heap[a.block]? = w.heap[a.block]?) : PxR w' A l := ⟨h.row.stays_ hb, fun a ea hne => by rw [hb a ea hne]; exact h.typ a ea hne⟩
abbrev tRN : TypeId := 65
/-- new blocks, and variables of one type that are written -/
structure NQ (B : Nat) (w w' : World) : Prop where
  bel : Below B w w'
  same : ∀ (k : Nat) (cs : Array Value) (T : TypeId) (fz : Nat × Nat), w.heap[k]? = some (.cells cs T fz) → T ≠ tRN → w'.heap[k]? = w.heap[k]?
theorem NQ.refl (B : Nat) (w : World) : NQ B w w := ⟨Below.refl _ _, fun _ _ _ _ _ _ => rfl⟩
theorem NQ.trans {B : Nat} {w w1 w2 : World} (h : NQ B w w1) (k : NQ B w1 w2) : NQ B w w2 := ⟨h.bel.trans k.bel, fun j cs T fz h1 h2 => by
  have h3 := h.same j cs T fz h1 h2
  exact (k.same j cs T fz (h3.trans h1) h2).trans h3⟩
theorem NQ.below {B : Nat} {w w' : World} (hb : Below w.heap.size w w') (hB : B ≤ w.heap.size) : NQ B w w' := ⟨hb.mono hB, fun k _ _ _ h _ => hb.block k (Array.getElem?_eq_some_iff.1 h).1⟩
theorem NQ.wrote {B g : Nat} {w w' : World} {cs : List Value} (hW : Wrote g w w') (hB : B ≤ g) (hb : BlkT w g cs tRN) : NQ B w w' := ⟨hW.below (Below.refl _ _) hB, fun k cs' T fz h hT => hW.far fun e => by
  subst e
  have h1 := h.symm.trans hb
  simp only [Option.some.injEq, Obj.cells.injEq] at h1
  exact hT h1.2.1⟩
theorem PxR.nq {B : Nat} {w w' : World} {A : Option Addr} {l : List Nat} (h : PxR w A l) (hr : NQ B w w') : PxR w' A l := h.stays fun a ea hne => by
  obtain ⟨cs, fz, h1⟩ := h.typ a ea hne
  exact hr.same _ _ _ _ h1 (by decide)
def zN : List Value := [.int .i64 0, .int .i64 0, .int .i64 0, .int .i64 0, .int .i64 0, .int .i64 0, .int .i64 0, .bool false, .bool false, .int .i64 0, .int .i64 0, .int .i64 0, .int .i64 0, .int .i64 0, .int .i64 0, .int .i64 0, .int .u32 0, .int .i64 0, .int .i64 0, .slice none 0 0]
/-- a variable, while it is made and written -/
structure NJ (B : Nat) (iA iS : Bool) (vA vC : Value) (w : World) : Prop where
  bsz : B ≤ w.heap.size
  ex : iA = true → ∃ g cs, vA = .pointer (some ⟨g, 0, none⟩) ∧ B ≤ g ∧ BlkT w g cs tRN ∧ cs.length = 20 ∧ (iS = true → vC = .agg cs.toArray)
section
variable {B g : Nat} {iA iS : Bool} {vA vC uA uC : Value} {w w' : World}
theorem NJ.slots (h : NJ B iA iS vA vC w) (e1 : uA = vA) (e2 : uC = vC) : NJ B iA iS uA uC w := by rw [e1, e2]; exact h
theorem NJ.below (h : NJ B iA iS vA vC w) (hb : Below w.heap.size w w') : NJ B iA iS vA vC w' := ⟨Nat.le_trans h.bsz hb.size, fun e => by
  obtain ⟨g, cs, h1, h2, h3, h4⟩ := h.ex e
  exact ⟨g, cs, h1, h2, h3.stays (hb.block _ h3.inside), h4⟩⟩
theorem NJ.told (h : NJ B iA iS vA vC w) (eS : iS = false) (e1 : uA = vA) : NJ B iA iS uA uC w := ⟨h.bsz, fun e => by
  obtain ⟨g, cs, h1, h2, h3, h4, _⟩ := h.ex e
  exact ⟨g, cs, e1.trans h1, h2, h3, h4, fun e => by rw [eS] at e; cases e⟩⟩
theorem NJ.made (h : NJ B iA iS vA vC w) (eS : iS = false) (e1 : uA = .pointer (some ⟨w.heap.size, 0, none⟩)) : NJ B true iS uA uC (w.alloc (.cells zN.toArray tRN)) :=
  ⟨Nat.le_trans h.bsz (by simp), fun _ => ⟨w.heap.size, _, e1, h.bsz, BlkT.new w zN tRN, rfl, fun e => by rw [eS] at e; cases e⟩⟩
theorem NJ.put {cs' cs : List Value} (h : NJ B iA iS vA vC w) (e1 : vA = .pointer (some ⟨g, 0, none⟩)) (hg : B ≤ g) (hb : BlkT w g cs tRN) (hW : Wrote g w w') (hB : Blk w' g cs') (hl : cs'.length = 20) (ev : vC = .agg cs'.toArray) : NJ B iA true vA vC w' :=
  ⟨by rw [hW.size]; exact h.bsz, fun _ => ⟨g, cs', e1, hg, hb.wrote hW hB, hl, fun _ => ev⟩⟩
theorem NJ.miss (h : NJ B iA iS vA vC w) (hne : iA = true → vA ≠ .pointer (some ⟨g, 0, none⟩)) (hW : Wrote g w w') : NJ B iA iS vA vC w' := ⟨by rw [hW.size]; exact h.bsz, fun e => by
  obtain ⟨k, cs, h1, h2, h3, h4⟩ := h.ex e
  exact ⟨k, cs, h1, h2, h3.stays (hW.far fun e2 => hne e (by rw [h1, e2])), h4⟩⟩
theorem NJ.away (h : NJ B iA iS vA vC w) (e : iA = true) : vA ≠ .pointer (some ⟨w.heap.size, 0, none⟩) := by
  obtain ⟨k, cs, e1, -, hB, -⟩ := h.ex e
  have := hB.inside
  rw [e1]
  intro e
  injection e with e
  injection e with e
  injection e with e
  omega
end
/-- two of them -/
structure N2 (B : Nat) (a s b t : Bool) (v c u d : Value) (w : World) : Prop where
  x : NJ B a s v c w
  y : NJ B b t u d w
  ne : a = true → b = true → v ≠ u
section
variable {B g : Nat} {a s b t : Bool} {v c u d v' c' u' d' : Value} {w w' : World}
theorem N2.swap (h : N2 B a s b t v c u d w) : N2 B b t a s u d v c w := ⟨h.y, h.x, fun k l => Ne.symm (h.ne l k)⟩
theorem N2.slots (h : N2 B a s b t v c u d w) (e1 : v' = v) (e2 : c' = c) (e3 : u' = u) (e4 : d' = d) : N2 B a s b t v' c' u' d' w := by rw [e1, e2, e3, e4]; exact h
theorem N2.below (h : N2 B a s b t v c u d w) (hb : Below w.heap.size w w') : N2 B a s b t v c u d w' := ⟨h.x.below hb, h.y.below hb, h.ne⟩
theorem N2.call (h : N2 B a s b t v c u d w) (eS : s = false) (e1 : v' = v) (e3 : u' = u) (e4 : d' = d) : N2 B a s b t v' c' u' d' w := ⟨h.x.told eS e1, h.y.slots e3 e4, by rw [e1, e3]; exact h.ne⟩
theorem N2.new (h : N2 B a s b t v c u d w) (eS : s = false) (e1 : v' = .pointer (some ⟨w.heap.size, 0, none⟩)) (e3 : u' = u) (e4 : d' = d) : N2 B true s b t v' c' u' d' (w.alloc (.cells zN.toArray tRN)) :=
  ⟨h.x.made eS e1, (h.y.below ((Below.refl _ _).alloc (Nat.le_refl _) _)).slots e3 e4, fun _ k => by rw [e1, e3]; exact Ne.symm (h.y.away k)⟩
theorem N2.put {cs cs' : List Value} (h : N2 B a s b t v c u d w) (up : a = true) (e1 : v = .pointer (some ⟨g, 0, none⟩)) (hg : B ≤ g) (hb : BlkT w g cs tRN) (hW : Wrote g w w') (hB : Blk w' g cs') (hl : cs'.length = 20) (ev : c = .agg cs'.toArray) : N2 B a true b t v c u d w' :=
  ⟨h.x.put e1 hg hb hW hB hl ev, h.y.miss (fun k => by rw [← e1]; exact Ne.symm (h.ne up k)) hW, h.ne⟩
end
theorem wp_stow_ {P : Program} {op : Oper} {a : Act} {w : World} {K : Act → World → Prop} {Q : Exit → Act → World → Prop} (ty : TypeId) (x y : Operand) (ho : op.op = .store ty x y) (g : Nat) (hx : a.eval x = .pointer (some ⟨g, 0, none⟩)) (ls : List Value) (hy : a.eval y = .agg ls.toArray)
    (cs : List Value) (hB : Blk w g cs) (hl : ls.length = cs.length) (hi : (P.info? ty).map (·.size) = some ls.length) (h1 : ls.all (·.oneCell') = true)
    (h : ∀ w', Wrote g w w' → Blk w' g ls → K (a.put op.dst undef) w') : op.wp P a w K Q :=
  wp_stow ty x y ho g 0 hx ls hy cs hB (by omega) hi h1 fun w' hW hC => h w' hW (by
    have e : cs.take 0 ++ ls ++ cs.drop (0 + ls.length) = ls := by rw [List.drop_of_length_le (by omega)]; simp
    rw [← e]; exact hC)
set_option maxHeartbeats 8000000 in
set_option maxRecDepth 100000 in
theorem alike_any (o1 o2 : Op9) (A1 A2 : Option Addr) (u1 u2 : Nat) (w : World) (h1 : Row eW w A1 o1.lk.l) (h2 : Row eW w A2 o2.lk.l) (n1 : o1.lk.l.length ≤ 2000) (n2 : o2.lk.l.length ≤ 2000) :
    Calls Try.prog 18 #[.agg (o1.cs A1 u1).toArray, .agg (o2.cs A2 u2).toArray] w (SameQ (o1 = o2) w) := by
  have HR := Lib.hid (And.intro h1 h2)
  have HN := Lib.hid (And.intro n1 n2)
  have q1 := fun w => mp_eqc o1.m o2.m w
  have q2 := fun w => bx_eqc o1.r o2.r w
  clear h1 h2 n1 n2
  have HB : Hid (Below w.heap.size w ((w.alloc (.cells (o1.cs A1 u1).toArray 52)).alloc (.cells (o2.cs A2 u2).toArray 52))) := ((Below.refl _ _).alloc (Nat.le_refl _) _).alloc (by simp) _
  have HK1 : Hid (Blk ((w.alloc (.cells (o1.cs A1 u1).toArray 52)).alloc (.cells (o2.cs A2 u2).toArray 52)) w.heap.size (o1.cs A1 u1)) := (blk_new w (o1.cs A1 u1) _).alloc _
  have HK2 : Hid (Blk ((w.alloc (.cells (o1.cs A1 u1).toArray 52)).alloc (.cells (o2.cs A2 u2).toArray 52)) (w.heap.size + 1) (o2.cs A2 u2)) := blk_at (w.alloc _) _ (by simp) (o2.cs A2 u2) _
  go_enter Try.func18, Try.ntmps18
  go_upto_region 1 with (fail)
  generalize ((w.alloc (.cells (o1.cs A1 u1).toArray 52)).alloc (.cells (o2.cs A2 u2).toArray 52)) = wz at *
  have FO1 : Hid (∀ W, Below wz.heap.size wz W → Blk W w.heap.size (o1.cs A1 u1)) := fun W hk => HK1.out.below' hk
  have FO2 : Hid (∀ W, Below wz.heap.size wz W → Blk W (w.heap.size + 1) (o2.cs A2 u2)) := fun W hk => HK2.out.below' hk
  have FC1 : Hid (∀ W, Below wz.heap.size wz W → Calls Try.prog 24 #[.agg ((lkNd o1.lk).cs A1 u1).toArray] W fun e w' => ∃ A9 c9, e = .returned (.agg ((lkNd o1.lk).cs A9 c9).toArray) ∧ PxR w' A9 o1.lk.l ∧ Below W.heap.size W w') := fun W hk => by
    refine (ref_any3 Mp.o 0 false false Bx.o o1.lk.k o1.lk.W o1.lk.H o1.lk.p o1.lk.iw o1.lk.ih A1 o1.lk.l u1 W (Row.below HR.out.1 (HB.out.trans (hk.mono HB.out.size))) (by have := HN.out.1; omega)).mono ?_
    rintro e w' ⟨A9, c9, h1, h2, -, -, h5, h6⟩
    exact ⟨A9, c9, h1, ⟨h2, fun a ea _ => (h6 a ea).2⟩, h5⟩
  have FC2 : Hid (∀ W, Below wz.heap.size wz W → Calls Try.prog 24 #[.agg ((lkNd o2.lk).cs A2 u2).toArray] W fun e w' => ∃ A9 c9, e = .returned (.agg ((lkNd o2.lk).cs A9 c9).toArray) ∧ PxR w' A9 o2.lk.l ∧ Below W.heap.size W w') := fun W hk => by
    refine (ref_any3 Mp.o 0 false false Bx.o o2.lk.k o2.lk.W o2.lk.H o2.lk.p o2.lk.iw o2.lk.ih A2 o2.lk.l u2 W (Row.below HR.out.2 (HB.out.trans (hk.mono HB.out.size))) (by have := HN.out.2; omega)).mono ?_
    rintro e w' ⟨A9, c9, h1, h2, -, -, h5, h6⟩
    exact ⟨A9, c9, h1, ⟨h2, fun a ea _ => (h6 a ea).2⟩, h5⟩
  refine regv.wp_region_put (NQ wz.heap.size) (fun L V wx => N2 wz.heap.size (L 8) (L 10) (L 9) (L 11) (V 5) (V 10) (V 6) (V 14) wx ∧ (L 10 = true → L 3 = true) ∧ (L 10 = true → L 8 = true) ∧ (L 11 = true → L 7 = true) ∧ (L 11 = true → L 9 = true)) [7, 8, 9, 10, 11, 12, 13, 14, 5, 6] (by kernel_rfl) (by kernel_rfl) (fun _ => NQ.refl _ _) (fun _ _ _ h k => h.trans k) (fun i => (match i with
    | 0 => regs.Say.val _ (.pointer (some ⟨w.heap.size, 16, none⟩))
    | 1 => regs.Say.val _ (.agg (o1.lk.cs A1 u1).toArray)
    | 2 => regs.Say.val _ (.agg ((lkNd o1.lk).cs A1 u1).toArray)
    | 3 => (⟨fun v wv => ∃ A c, v = .agg ((lkNd o1.lk).cs A c).toArray ∧ PxR wv A o1.lk.l, fun v q1 q2 h hb => h.elim fun A h => h.elim fun c h => ⟨A, c, h.1, h.2.nq hb⟩⟩ : regs.Say (NQ wz.heap.size))
    | 4 => regs.Say.val _ (.pointer (some ⟨(w.heap.size + 1), 16, none⟩))
    | 5 => regs.Say.val _ (.agg (o2.lk.cs A2 u2).toArray)
    | 6 => regs.Say.val _ (.agg ((lkNd o2.lk).cs A2 u2).toArray)
    | 7 => (⟨fun v wv => ∃ A c, v = .agg ((lkNd o2.lk).cs A c).toArray ∧ PxR wv A o2.lk.l, fun v q1 q2 h hb => h.elim fun A h => h.elim fun c h => ⟨A, c, h.1, h.2.nq hb⟩⟩ : regs.Say (NQ wz.heap.size))
    | 8 => regs.Say.any _
    | 9 => regs.Say.any _
    | 10 => regs.Say.any _
    | 11 => regs.Say.any _
    | _ => regs.Say.any _ : regs.Say (NQ wz.heap.size)).p) (fun _ => regs.Say.mono _) (by kernel_rfl) (NQ.below (Below.refl _ _).drew (Nat.le_refl _)) (⟨⟨⟨Nat.le_refl _, fun e => nomatch e⟩, ⟨Nat.le_refl _, fun e => nomatch e⟩, fun e => nomatch e⟩, (fun e => nomatch e), (fun e => nomatch e), (fun e => nomatch e), (fun e => nomatch e)⟩) ⟨?_, ?_, ?_, ?_, ?_, ?_, ?_, ?_, ?_, ?_, ?_, ?_, trivial⟩ ?_
  · refine regv.StepOK.plain rfl fun L a w1 hh => ?_
    have h2 : a.tmps[2]?.getD undef = .pointer (some ⟨w.heap.size, 0, none⟩) := by rw [← Array.getD_eq_getD_getElem?]; exact hh.old 2 rfl
    have i0 := (FO1.out _ hh.rel.bel).inside
    have hJ := Lib.hid hh.st
    clear hh
    go_simp
    exact ⟨_, rfl, NQ.refl _ _, rfl, ⟨N2.slots hJ.out.1 (regv.sl_ne (by decide)) (regv.sl_ne (by decide)) (regv.sl_ne (by decide)) (regv.sl_ne (by decide)), hJ.out.2⟩⟩
  · refine regv.StepOK.plain rfl fun L a w1 hh => ?_
    have h7 : a.tmps[7]?.getD undef = .pointer (some ⟨w.heap.size, 16, none⟩) := by rw [← Array.getD_eq_getD_getElem?]; exact hh.dep 0 7 (by kernel_rfl) (by kernel_rfl)
    have hB := Lib.hid (FO1.out _ hh.rel.bel)
    have hJ := Lib.hid hh.st
    exact wp_take 50 _ rfl w.heap.size 16 (by simpa [go_sem] using h7) _ hB.out (o1.lk.cs A1 u1) rfl _ Try.underlying50 rfl (by kernel_rfl) ⟨_, rfl, NQ.refl _ _, rfl, ⟨N2.slots hJ.out.1 (regv.sl_ne (by decide)) (regv.sl_ne (by decide)) (regv.sl_ne (by decide)) (regv.sl_ne (by decide)), hJ.out.2⟩⟩
  · refine regv.StepOK.plain rfl fun L a w1 hh => ?_
    have h8 : a.tmps[8]?.getD undef = .agg (o1.lk.cs A1 u1).toArray := by rw [← Array.getD_eq_getD_getElem?]; exact hh.dep 1 8 (by kernel_rfl) (by kernel_rfl)
    have hJ := Lib.hid hh.st
    exact wp_build _ _ rfl (by simp [go_sem, h8]) (build_lkNd o1.lk A1 u1 w1) ⟨_, rfl, NQ.refl _ _, rfl, ⟨N2.slots hJ.out.1 (regv.sl_put (by decide)) (regv.sl_put (by decide)) (regv.sl_put (by decide)) (regv.sl_put (by decide)), hJ.out.2⟩⟩
  · refine regv.StepOK.plain rfl fun L a w1 hh => ?_
    have h9 : a.tmps[9]?.getD undef = .agg ((lkNd o1.lk).cs A1 u1).toArray := by rw [← Array.getD_eq_getD_getElem?]; exact hh.dep 2 9 (by kernel_rfl) (by kernel_rfl)
    have hC := Lib.hid (FC1.out w1 hh.rel.bel)
    have HN8 := Lib.hid (not_yet hh.st.2.1 hh.un)
    have hbz := Lib.hid (show wz.heap.size ≤ w1.heap.size from hh.rel.bel.size)
    have hJ := Lib.hid hh.st
    have hsz := Lib.hid hh.size
    have hun := Lib.hid hh.un
    clear hh
    go_simp
    refine hC.out.mono ?_
    rintro e w9 ⟨A9, c9, rfl, hp9, hb9⟩
    exact ⟨_, rfl, NQ.below hb9 hbz.out, ⟨A9, ⟨c9, rfl⟩, hp9⟩, ⟨(N2.call (N2.below hJ.out.1 hb9) HN8.out (regv.sl_ne (by decide)) (regv.sl_ne (by decide)) (regv.sl_ne (by decide))), fun _ => rfl, hJ.out.2.2⟩⟩
  · refine regv.StepOK.plain rfl fun L a w1 hh => ?_
    have h3 : a.tmps[3]?.getD undef = .pointer (some ⟨(w.heap.size + 1), 0, none⟩) := by rw [← Array.getD_eq_getD_getElem?]; exact hh.old 3 rfl
    have i0 := (FO2.out _ hh.rel.bel).inside
    have hJ := Lib.hid hh.st
    clear hh
    go_simp
    exact ⟨_, rfl, NQ.refl _ _, rfl, ⟨N2.slots hJ.out.1 (regv.sl_ne (by decide)) (regv.sl_ne (by decide)) (regv.sl_ne (by decide)) (regv.sl_ne (by decide)), hJ.out.2⟩⟩
  · refine regv.StepOK.plain rfl fun L a w1 hh => ?_
    have h11 : a.tmps[11]?.getD undef = .pointer (some ⟨(w.heap.size + 1), 16, none⟩) := by rw [← Array.getD_eq_getD_getElem?]; exact hh.dep 4 11 (by kernel_rfl) (by kernel_rfl)
    have hB := Lib.hid (FO2.out _ hh.rel.bel)
    have hJ := Lib.hid hh.st
    exact wp_take 50 _ rfl (w.heap.size + 1) 16 (by simpa [go_sem] using h11) _ hB.out (o2.lk.cs A2 u2) rfl _ Try.underlying50 rfl (by kernel_rfl) ⟨_, rfl, NQ.refl _ _, rfl, ⟨N2.slots hJ.out.1 (regv.sl_ne (by decide)) (regv.sl_ne (by decide)) (regv.sl_ne (by decide)) (regv.sl_ne (by decide)), hJ.out.2⟩⟩
  · refine regv.StepOK.plain rfl fun L a w1 hh => ?_
    have h12 : a.tmps[12]?.getD undef = .agg (o2.lk.cs A2 u2).toArray := by rw [← Array.getD_eq_getD_getElem?]; exact hh.dep 5 12 (by kernel_rfl) (by kernel_rfl)
    have hJ := Lib.hid hh.st
    exact wp_build _ _ rfl (by simp [go_sem, h12]) (build_lkNd o2.lk A2 u2 w1) ⟨_, rfl, NQ.refl _ _, rfl, ⟨N2.slots hJ.out.1 (regv.sl_put (by decide)) (regv.sl_put (by decide)) (regv.sl_put (by decide)) (regv.sl_put (by decide)), hJ.out.2⟩⟩
  · refine regv.StepOK.plain rfl fun L a w1 hh => ?_
    have h13 : a.tmps[13]?.getD undef = .agg ((lkNd o2.lk).cs A2 u2).toArray := by rw [← Array.getD_eq_getD_getElem?]; exact hh.dep 6 13 (by kernel_rfl) (by kernel_rfl)
    have hC := Lib.hid (FC2.out w1 hh.rel.bel)
    have HN8 := Lib.hid (not_yet hh.st.2.2.2.1 hh.un)
    have hbz := Lib.hid (show wz.heap.size ≤ w1.heap.size from hh.rel.bel.size)
    have hJ := Lib.hid hh.st
    have hsz := Lib.hid hh.size
    have hun := Lib.hid hh.un
    clear hh
    go_simp
    refine hC.out.mono ?_
    rintro e w9 ⟨A9, c9, rfl, hp9, hb9⟩
    exact ⟨_, rfl, NQ.below hb9 hbz.out, ⟨A9, ⟨c9, rfl⟩, hp9⟩, ⟨(N2.call (N2.below hJ.out.1 hb9).swap HN8.out (regv.sl_ne (by decide)) (regv.sl_ne (by decide)) (regv.sl_ne (by decide))).swap, hJ.out.2.1, hJ.out.2.2.1, fun _ => rfl, hJ.out.2.2.2.2⟩⟩
  · refine regv.StepOK.plain rfl fun L a w1 hh => ?_
    have HN8 := Lib.hid (not_yet hh.st.2.2.1 hh.un)
    have hbz := Lib.hid (show wz.heap.size ≤ w1.heap.size from hh.rel.bel.size)
    have hJ := Lib.hid hh.st
    have hsz := Lib.hid hh.size
    have hun := Lib.hid hh.un
    clear hh
    go_simp
    exact ⟨_, rfl, NQ.below ((Below.refl _ _).alloc (Nat.le_refl _) _) hbz.out, trivial, ⟨(N2.new hJ.out.1 HN8.out (regv.sl_same (by rw [hsz.out]; simp)) (regv.sl_ne (by decide)) (regv.sl_ne (by decide))), hJ.out.2.1, fun _ => rfl, hJ.out.2.2.2⟩⟩
  · refine regv.StepOK.plain rfl fun L a w1 hh => ?_
    have HN8 := Lib.hid (not_yet hh.st.2.2.2.2 hh.un)
    have hbz := Lib.hid (show wz.heap.size ≤ w1.heap.size from hh.rel.bel.size)
    have hJ := Lib.hid hh.st
    have hsz := Lib.hid hh.size
    have hun := Lib.hid hh.un
    clear hh
    go_simp
    exact ⟨_, rfl, NQ.below ((Below.refl _ _).alloc (Nat.le_refl _) _) hbz.out, trivial, ⟨(N2.new hJ.out.1.swap HN8.out (regv.sl_same (by rw [hsz.out]; simp)) (regv.sl_ne (by decide)) (regv.sl_ne (by decide))).swap, hJ.out.2.1, hJ.out.2.2.1, hJ.out.2.2.2.1, fun _ => rfl⟩⟩
  · refine regv.StepOK.plain rfl fun L a w1 hh => ?_
    have hup := hh.up 8 (by kernel_rfl)
    obtain ⟨g9, c9, hp9, hg9, hB9, hl9, -⟩ := hh.st.1.x.ex hup
    obtain ⟨A8, d8, e8, hp8⟩ := (show ∃ A c, (a.tmps.getD 10 undef) = .agg ((lkNd o1.lk).cs A c).toArray ∧ PxR w1 A o1.lk.l from hh.dep 3 10 (by kernel_rfl) (by kernel_rfl))
    have h10 : a.tmps[10]?.getD undef = .agg ((lkNd o1.lk).cs A8 d8).toArray := by rw [← Array.getD_eq_getD_getElem?]; exact e8
    have h5 : a.tmps[5]?.getD undef = .pointer (some ⟨g9, 0, none⟩) := by rw [← Array.getD_eq_getD_getElem?]; exact hp9
    have hJ := Lib.hid hh.st
    have hup3 := Lib.hid (hh.up 3 (by kernel_rfl))
    refine wp_stow_ tRN _ _ rfl g9 (by simpa [go_sem] using h5) ((lkNd o1.lk).cs A8 d8) (by simpa [go_sem] using h10) _ hB9.blk (by rw [hl9]; rfl) (by kernel_rfl) (Nd.one _ _ _) ?_
    intro w9 hW9 hC9
    have hP := N2.put hJ.out.1 hup hp9 hg9 hB9 hW9 hC9 rfl e8
    exact ⟨undef, rfl, NQ.wrote hW9 hg9 hB9, trivial, ⟨hP, fun _ => hup3.out, fun _ => hup, hJ.out.2.2.2⟩⟩
  · refine regv.StepOK.plain rfl fun L a w1 hh => ?_
    have hup := hh.up 9 (by kernel_rfl)
    obtain ⟨g9, c9, hp9, hg9, hB9, hl9, -⟩ := hh.st.1.y.ex hup
    obtain ⟨A8, d8, e8, hp8⟩ := (show ∃ A c, (a.tmps.getD 14 undef) = .agg ((lkNd o2.lk).cs A c).toArray ∧ PxR w1 A o2.lk.l from hh.dep 7 14 (by kernel_rfl) (by kernel_rfl))
    have h14 : a.tmps[14]?.getD undef = .agg ((lkNd o2.lk).cs A8 d8).toArray := by rw [← Array.getD_eq_getD_getElem?]; exact e8
    have h6 : a.tmps[6]?.getD undef = .pointer (some ⟨g9, 0, none⟩) := by rw [← Array.getD_eq_getD_getElem?]; exact hp9
    have hJ := Lib.hid hh.st
    have hup3 := Lib.hid (hh.up 7 (by kernel_rfl))
    refine wp_stow_ tRN _ _ rfl g9 (by simpa [go_sem] using h6) ((lkNd o2.lk).cs A8 d8) (by simpa [go_sem] using h14) _ hB9.blk (by rw [hl9]; rfl) (by kernel_rfl) (Nd.one _ _ _) ?_
    intro w9 hW9 hC9
    have hP := N2.put hJ.out.1.swap hup hp9 hg9 hB9 hW9 hC9 rfl e8
    exact ⟨undef, rfl, NQ.wrote hW9 hg9 hB9, trivial, ⟨hP.swap, hJ.out.2.1, hJ.out.2.2.1, fun _ => hup3.out, fun _ => hup⟩⟩
  intro L w4 val hL hJ hR hv
  have HR4 := Lib.hid hR
  obtain ⟨g1, q1, e1, hg1, hb1, -, hv1⟩ := hJ.1.x.ex (hL 8 (by decide))
  obtain ⟨A7, c7, f1, hp1⟩ : ∃ A c, val 10 = .agg ((lkNd o1.lk).cs A c).toArray ∧ PxR w4 A o1.lk.l := hv 3 10 (by kernel_rfl)
  have hq1 : q1 = (lkNd o1.lk).cs A7 c7 := by
    have h1 := (hv1 (hL 10 (by decide))).symm.trans f1
    injection h1 with h1
    have h2 := congrArg Array.toList h1
    simpa using h2
  subst hq1
  have HG1 := Lib.hid hb1.blk
  have HP1 := Lib.hid hp1.row
  obtain ⟨g2, q2, e2, hg2, hb2, -, hv2⟩ := hJ.1.y.ex (hL 9 (by decide))
  obtain ⟨A8, c8, f2, hp2⟩ : ∃ A c, val 14 = .agg ((lkNd o2.lk).cs A c).toArray ∧ PxR w4 A o2.lk.l := hv 7 14 (by kernel_rfl)
  have hq2 : q2 = (lkNd o2.lk).cs A8 c8 := by
    have h1 := (hv2 (hL 11 (by decide))).symm.trans f2
    injection h1 with h1
    have h2 := congrArg Array.toList h1
    simpa using h2
  subst hq2
  have HG2 := Lib.hid hb2.blk
  have HP2 := Lib.hid hp2.row
  clear hv hL hJ hR hg1 hb1 hv1 f1 hp1 hg2 hb2 hv2 f2 hp2
  simp only [regs.putAll, List.map_cons, List.map_nil]
  simp only [Act.put, List.setIfInBounds_toArray, List.set_cons_zero, List.set_cons_succ]
  generalize val 7 = v7 at *
  generalize val 8 = v8 at *
  generalize val 9 = v9 at *
  generalize val 10 = v10 at *
  generalize val 11 = v11 at *
  generalize val 12 = v12 at *
  generalize val 13 = v13 at *
  generalize val 14 = v14 at *
  rw [e1]
  clear e1
  rw [e2]
  clear e2
  have HB4 : Hid (Below w.heap.size w w4) := HB.out.trans (HR4.out.bel.mono HB.out.size)
  have HK1 := Lib.hid (FO1.out w4 HR4.out.bel)
  have HK2 := Lib.hid (FO2.out w4 HR4.out.bel)
  clear FO1 FO2 FC1 FC2 HR4 HB
  have x0 : w4.cell? ⟨w.heap.size, 0, none⟩ = some (.int .i64 o1.k) := HK1.out.cell 0
  have y0 : w4.cell? ⟨w.heap.size + 1, 0, none⟩ = some (.int .i64 o2.k) := HK2.out.cell 0
  have x1 : w4.cell? ⟨w.heap.size, 1, none⟩ = some (.int .i64 o1.i) := HK1.out.cell 1
  have y1 : w4.cell? ⟨w.heap.size + 1, 1, none⟩ = some (.int .i64 o2.i) := HK2.out.cell 1
  have x2 : w4.cell? ⟨w.heap.size, 2, none⟩ = some (.int .i64 o1.p) := HK1.out.cell 2
  have y2 : w4.cell? ⟨w.heap.size + 1, 2, none⟩ = some (.int .i64 o2.p) := HK2.out.cell 2
  have x3 : w4.cell? ⟨w.heap.size, 3, none⟩ = some (.int .i64 o1.n) := HK1.out.cell 3
  have y3 : w4.cell? ⟨w.heap.size + 1, 3, none⟩ = some (.int .i64 o2.n) := HK2.out.cell 3
  have x14 : w4.cell? ⟨w.heap.size, 14, none⟩ = some (.bool o1.on) := HK1.out.cell 14
  have y14 : w4.cell? ⟨w.heap.size + 1, 14, none⟩ = some (.bool o2.on) := HK2.out.cell 14
  have x15 : w4.cell? ⟨w.heap.size, 15, none⟩ = some (.int .i64 o1.N) := HK1.out.cell 15
  have y15 : w4.cell? ⟨w.heap.size + 1, 15, none⟩ = some (.int .i64 o2.N) := HK2.out.cell 15
  have i1 : w.heap.size < w4.heap.size := HK1.out.inside
  have i2 : w.heap.size + 1 < w4.heap.size := HK2.out.inside
  by_cases ek : ¬ o1.k = o2.k
  · have tk : (o1.k == o2.k) = false := by simpa using ek
    have HNO : Hid (false = true ↔ o1 = o2) := ⟨(fun h => nomatch h), fun h => absurd (by rw [h]) ek⟩
    clear  ek
    go_wp2_with (first | (with_reducible show wpList _ _ _ (Oper.mk _ (Op.load _ _) _ _ _ _ :: _) _ _; first | (refine wpl_take 41 _ rfl rfl _ 4 rfl _ HK1.out (o1.m.cs) rfl _ Try.underlying41 rfl (by kernel_rfl) ?_) | (refine wpl_take 41 _ rfl rfl _ 4 rfl _ HK2.out (o2.m.cs) rfl _ Try.underlying41 rfl (by kernel_rfl) ?_) | (refine wpl_take 43 _ rfl rfl _ 10 rfl _ HK1.out (o1.r.cs4) rfl _ Try.underlying43 rfl (by kernel_rfl) ?_) | (refine wpl_take 43 _ rfl rfl _ 10 rfl _ HK2.out (o2.r.cs4) rfl _ Try.underlying43 rfl (by kernel_rfl) ?_) | (refine wpl_take 65 _ rfl rfl _ 0 rfl _ HG1.out ((lkNd o1.lk).cs A7 c7) rfl _ Try.underlying65 rfl (by kernel_rfl) ?_) | (refine wpl_take 65 _ rfl rfl _ 0 rfl _ HG2.out ((lkNd o2.lk).cs A8 c8) rfl _ Try.underlying65 rfl (by kernel_rfl) ?_)))
    go_ret
    exact SameQ.of HNO.out HB4.out
  have Ek := Lib.hid (Decidable.not_not.1 ek)
  have tk : (o1.k == o2.k) = true := by simpa using Ek.out
  clear ek
  by_cases ei : ¬ o1.i = o2.i
  · have ti : (o1.i == o2.i) = false := by simpa using ei
    have HNO : Hid (false = true ↔ o1 = o2) := ⟨(fun h => nomatch h), fun h => absurd (by rw [h]) ei⟩
    clear Ek ei
    go_wp2_with (first | (with_reducible show wpList _ _ _ (Oper.mk _ (Op.load _ _) _ _ _ _ :: _) _ _; first | (refine wpl_take 41 _ rfl rfl _ 4 rfl _ HK1.out (o1.m.cs) rfl _ Try.underlying41 rfl (by kernel_rfl) ?_) | (refine wpl_take 41 _ rfl rfl _ 4 rfl _ HK2.out (o2.m.cs) rfl _ Try.underlying41 rfl (by kernel_rfl) ?_) | (refine wpl_take 43 _ rfl rfl _ 10 rfl _ HK1.out (o1.r.cs4) rfl _ Try.underlying43 rfl (by kernel_rfl) ?_) | (refine wpl_take 43 _ rfl rfl _ 10 rfl _ HK2.out (o2.r.cs4) rfl _ Try.underlying43 rfl (by kernel_rfl) ?_) | (refine wpl_take 65 _ rfl rfl _ 0 rfl _ HG1.out ((lkNd o1.lk).cs A7 c7) rfl _ Try.underlying65 rfl (by kernel_rfl) ?_) | (refine wpl_take 65 _ rfl rfl _ 0 rfl _ HG2.out ((lkNd o2.lk).cs A8 c8) rfl _ Try.underlying65 rfl (by kernel_rfl) ?_)))
    go_ret
    exact SameQ.of HNO.out HB4.out
  have Ei := Lib.hid (Decidable.not_not.1 ei)
  have ti : (o1.i == o2.i) = true := by simpa using Ei.out
  clear ei
  by_cases ep : ¬ o1.p = o2.p
  · have tp : (o1.p == o2.p) = false := by simpa using ep
    have HNO : Hid (false = true ↔ o1 = o2) := ⟨(fun h => nomatch h), fun h => absurd (by rw [h]) ep⟩
    clear Ek Ei ep
    go_wp2_with (first | (with_reducible show wpList _ _ _ (Oper.mk _ (Op.load _ _) _ _ _ _ :: _) _ _; first | (refine wpl_take 41 _ rfl rfl _ 4 rfl _ HK1.out (o1.m.cs) rfl _ Try.underlying41 rfl (by kernel_rfl) ?_) | (refine wpl_take 41 _ rfl rfl _ 4 rfl _ HK2.out (o2.m.cs) rfl _ Try.underlying41 rfl (by kernel_rfl) ?_) | (refine wpl_take 43 _ rfl rfl _ 10 rfl _ HK1.out (o1.r.cs4) rfl _ Try.underlying43 rfl (by kernel_rfl) ?_) | (refine wpl_take 43 _ rfl rfl _ 10 rfl _ HK2.out (o2.r.cs4) rfl _ Try.underlying43 rfl (by kernel_rfl) ?_) | (refine wpl_take 65 _ rfl rfl _ 0 rfl _ HG1.out ((lkNd o1.lk).cs A7 c7) rfl _ Try.underlying65 rfl (by kernel_rfl) ?_) | (refine wpl_take 65 _ rfl rfl _ 0 rfl _ HG2.out ((lkNd o2.lk).cs A8 c8) rfl _ Try.underlying65 rfl (by kernel_rfl) ?_)))
    go_ret
    exact SameQ.of HNO.out HB4.out
  have Ep := Lib.hid (Decidable.not_not.1 ep)
  have tp : (o1.p == o2.p) = true := by simpa using Ep.out
  clear ep
  by_cases en : ¬ o1.n = o2.n
  · have tn : (o1.n == o2.n) = false := by simpa using en
    have HNO : Hid (false = true ↔ o1 = o2) := ⟨(fun h => nomatch h), fun h => absurd (by rw [h]) en⟩
    clear Ek Ei Ep en
    go_wp2_with (first | (with_reducible show wpList _ _ _ (Oper.mk _ (Op.load _ _) _ _ _ _ :: _) _ _; first | (refine wpl_take 41 _ rfl rfl _ 4 rfl _ HK1.out (o1.m.cs) rfl _ Try.underlying41 rfl (by kernel_rfl) ?_) | (refine wpl_take 41 _ rfl rfl _ 4 rfl _ HK2.out (o2.m.cs) rfl _ Try.underlying41 rfl (by kernel_rfl) ?_) | (refine wpl_take 43 _ rfl rfl _ 10 rfl _ HK1.out (o1.r.cs4) rfl _ Try.underlying43 rfl (by kernel_rfl) ?_) | (refine wpl_take 43 _ rfl rfl _ 10 rfl _ HK2.out (o2.r.cs4) rfl _ Try.underlying43 rfl (by kernel_rfl) ?_) | (refine wpl_take 65 _ rfl rfl _ 0 rfl _ HG1.out ((lkNd o1.lk).cs A7 c7) rfl _ Try.underlying65 rfl (by kernel_rfl) ?_) | (refine wpl_take 65 _ rfl rfl _ 0 rfl _ HG2.out ((lkNd o2.lk).cs A8 c8) rfl _ Try.underlying65 rfl (by kernel_rfl) ?_)))
    go_ret
    exact SameQ.of HNO.out HB4.out
  have En := Lib.hid (Decidable.not_not.1 en)
  have tn : (o1.n == o2.n) = true := by simpa using En.out
  clear en
  by_cases em : ¬ o1.m = o2.m
  · have tm : (decide (o1.m = o2.m)) = false := by simpa using em
    have HNO : Hid (false = true ↔ o1 = o2) := ⟨(fun h => nomatch h), fun h => absurd (by rw [h]) em⟩
    clear Ek Ei Ep En em
    go_wp2_with (first | (with_reducible show wpList _ _ _ (Oper.mk _ (Op.load _ _) _ _ _ _ :: _) _ _; first | (refine wpl_take 41 _ rfl rfl _ 4 rfl _ HK1.out (o1.m.cs) rfl _ Try.underlying41 rfl (by kernel_rfl) ?_) | (refine wpl_take 41 _ rfl rfl _ 4 rfl _ HK2.out (o2.m.cs) rfl _ Try.underlying41 rfl (by kernel_rfl) ?_) | (refine wpl_take 43 _ rfl rfl _ 10 rfl _ HK1.out (o1.r.cs4) rfl _ Try.underlying43 rfl (by kernel_rfl) ?_) | (refine wpl_take 43 _ rfl rfl _ 10 rfl _ HK2.out (o2.r.cs4) rfl _ Try.underlying43 rfl (by kernel_rfl) ?_) | (refine wpl_take 65 _ rfl rfl _ 0 rfl _ HG1.out ((lkNd o1.lk).cs A7 c7) rfl _ Try.underlying65 rfl (by kernel_rfl) ?_) | (refine wpl_take 65 _ rfl rfl _ 0 rfl _ HG2.out ((lkNd o2.lk).cs A8 c8) rfl _ Try.underlying65 rfl (by kernel_rfl) ?_)))
    go_ret
    exact SameQ.of HNO.out HB4.out
  have Em := Lib.hid (Decidable.not_not.1 em)
  have tm : (decide (o1.m = o2.m)) = true := by simpa using Em.out
  clear em
  by_cases er : ¬ o1.r = o2.r
  · have tr : (decide (o1.r = o2.r)) = false := by simpa using er
    have HNO : Hid (false = true ↔ o1 = o2) := ⟨(fun h => nomatch h), fun h => absurd (by rw [h]) er⟩
    clear Ek Ei Ep En Em er
    go_wp2_with (first | (with_reducible show wpList _ _ _ (Oper.mk _ (Op.load _ _) _ _ _ _ :: _) _ _; first | (refine wpl_take 41 _ rfl rfl _ 4 rfl _ HK1.out (o1.m.cs) rfl _ Try.underlying41 rfl (by kernel_rfl) ?_) | (refine wpl_take 41 _ rfl rfl _ 4 rfl _ HK2.out (o2.m.cs) rfl _ Try.underlying41 rfl (by kernel_rfl) ?_) | (refine wpl_take 43 _ rfl rfl _ 10 rfl _ HK1.out (o1.r.cs4) rfl _ Try.underlying43 rfl (by kernel_rfl) ?_) | (refine wpl_take 43 _ rfl rfl _ 10 rfl _ HK2.out (o2.r.cs4) rfl _ Try.underlying43 rfl (by kernel_rfl) ?_) | (refine wpl_take 65 _ rfl rfl _ 0 rfl _ HG1.out ((lkNd o1.lk).cs A7 c7) rfl _ Try.underlying65 rfl (by kernel_rfl) ?_) | (refine wpl_take 65 _ rfl rfl _ 0 rfl _ HG2.out ((lkNd o2.lk).cs A8 c8) rfl _ Try.underlying65 rfl (by kernel_rfl) ?_)))
    go_ret
    exact SameQ.of HNO.out HB4.out
  have Er := Lib.hid (Decidable.not_not.1 er)
  have tr : (decide (o1.r = o2.r)) = true := by simpa using Er.out
  clear er
  by_cases eon : ¬ o1.on = o2.on
  · have ton : (o1.on == o2.on) = false := by simpa using eon
    have HNO : Hid (false = true ↔ o1 = o2) := ⟨(fun h => nomatch h), fun h => absurd (by rw [h]) eon⟩
    clear Ek Ei Ep En Em Er eon
    go_wp2_with (first | (with_reducible show wpList _ _ _ (Oper.mk _ (Op.load _ _) _ _ _ _ :: _) _ _; first | (refine wpl_take 41 _ rfl rfl _ 4 rfl _ HK1.out (o1.m.cs) rfl _ Try.underlying41 rfl (by kernel_rfl) ?_) | (refine wpl_take 41 _ rfl rfl _ 4 rfl _ HK2.out (o2.m.cs) rfl _ Try.underlying41 rfl (by kernel_rfl) ?_) | (refine wpl_take 43 _ rfl rfl _ 10 rfl _ HK1.out (o1.r.cs4) rfl _ Try.underlying43 rfl (by kernel_rfl) ?_) | (refine wpl_take 43 _ rfl rfl _ 10 rfl _ HK2.out (o2.r.cs4) rfl _ Try.underlying43 rfl (by kernel_rfl) ?_) | (refine wpl_take 65 _ rfl rfl _ 0 rfl _ HG1.out ((lkNd o1.lk).cs A7 c7) rfl _ Try.underlying65 rfl (by kernel_rfl) ?_) | (refine wpl_take 65 _ rfl rfl _ 0 rfl _ HG2.out ((lkNd o2.lk).cs A8 c8) rfl _ Try.underlying65 rfl (by kernel_rfl) ?_)))
    go_ret
    exact SameQ.of HNO.out HB4.out
  have Eon := Lib.hid (Decidable.not_not.1 eon)
  have ton : (o1.on == o2.on) = true := by simpa using Eon.out
  clear eon
  by_cases eN : ¬ o1.N = o2.N
  · have tN : (o1.N == o2.N) = false := by simpa using eN
    have HNO : Hid (false = true ↔ o1 = o2) := ⟨(fun h => nomatch h), fun h => absurd (by rw [h]) eN⟩
    clear Ek Ei Ep En Em Er Eon eN
    go_wp2_with (first | (with_reducible show wpList _ _ _ (Oper.mk _ (Op.load _ _) _ _ _ _ :: _) _ _; first | (refine wpl_take 41 _ rfl rfl _ 4 rfl _ HK1.out (o1.m.cs) rfl _ Try.underlying41 rfl (by kernel_rfl) ?_) | (refine wpl_take 41 _ rfl rfl _ 4 rfl _ HK2.out (o2.m.cs) rfl _ Try.underlying41 rfl (by kernel_rfl) ?_) | (refine wpl_take 43 _ rfl rfl _ 10 rfl _ HK1.out (o1.r.cs4) rfl _ Try.underlying43 rfl (by kernel_rfl) ?_) | (refine wpl_take 43 _ rfl rfl _ 10 rfl _ HK2.out (o2.r.cs4) rfl _ Try.underlying43 rfl (by kernel_rfl) ?_) | (refine wpl_take 65 _ rfl rfl _ 0 rfl _ HG1.out ((lkNd o1.lk).cs A7 c7) rfl _ Try.underlying65 rfl (by kernel_rfl) ?_) | (refine wpl_take 65 _ rfl rfl _ 0 rfl _ HG2.out ((lkNd o2.lk).cs A8 c8) rfl _ Try.underlying65 rfl (by kernel_rfl) ?_)))
    go_ret
    exact SameQ.of HNO.out HB4.out
  have EN := Lib.hid (Decidable.not_not.1 eN)
  have tN : (o1.N == o2.N) = true := by simpa using EN.out
  clear eN
  have HALL : Hid (o1 = o2 ↔ o1.lk = o2.lk) := ⟨fun h => by rw [h], fun h => op_ext Ek.out Ei.out Ep.out En.out Em.out Er.out Eon.out EN.out h⟩
  clear Ek Ei Ep En Em Er Eon EN
  have HC := Lib.hid (looks_any o1.lk o2.lk A7 A8 c7 c8 w4 HP1.out HP2.out HN.out.1 HN.out.2)
  unfold SameQ at HC
  go_wp2_with (first | (with_reducible show wpList _ _ _ (Oper.mk _ (Op.load _ _) _ _ _ _ :: _) _ _; first | (refine wpl_take 41 _ rfl rfl _ 4 rfl _ HK1.out (o1.m.cs) rfl _ Try.underlying41 rfl (by kernel_rfl) ?_) | (refine wpl_take 41 _ rfl rfl _ 4 rfl _ HK2.out (o2.m.cs) rfl _ Try.underlying41 rfl (by kernel_rfl) ?_) | (refine wpl_take 43 _ rfl rfl _ 10 rfl _ HK1.out (o1.r.cs4) rfl _ Try.underlying43 rfl (by kernel_rfl) ?_) | (refine wpl_take 43 _ rfl rfl _ 10 rfl _ HK2.out (o2.r.cs4) rfl _ Try.underlying43 rfl (by kernel_rfl) ?_) | (refine wpl_take 65 _ rfl rfl _ 0 rfl _ HG1.out ((lkNd o1.lk).cs A7 c7) rfl _ Try.underlying65 rfl (by kernel_rfl) ?_) | (refine wpl_take 65 _ rfl rfl _ 0 rfl _ HG2.out ((lkNd o2.lk).cs A8 c8) rfl _ Try.underlying65 rfl (by kernel_rfl) ?_)))
  refine HC.out.mono ?_
  rintro e w5 ⟨b, rfl, hi, hb⟩
  have HB5 : Hid (Below w.heap.size w w5) := bel2 HB4.out hb
  have HI : Hid (b = true ↔ o1 = o2) := hi.trans HALL.out.symm
  clear hb hi HC HALL
  go_wp2_with (fail)
  go_ret
  exact SameQ.of HI.out HB5.out
end Go.Proofs.Ytgadheamldianaa
