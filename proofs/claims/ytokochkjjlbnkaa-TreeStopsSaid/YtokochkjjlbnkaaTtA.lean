/-
  Layer 12: the law's play: a tree and the document's; a call on both.
-/
import Derived.Test.YtokochkjjlbnkaaTsI
import Derived.Test.YtokochkjjlbnkaaTsJ
import Derived.Test.YtokochkjjlbnkaaTsK
import Derived.Test.YtokochkjjlbnkaaTsM
namespace Go.Proofs.Ytokochkjjlbnkaa
open Go.RowKit trm

abbrev tPlay : TypeId := 30
abbrev tOp : TypeId := 32
/-- one call, as it is told -/
structure O4 where
  k : Int
  i : Int
  p : Int
  n : Int
def O4.cs (o : O4) : List Value := [.int .i64 o.k, .int .i64 o.i, .int .i64 o.p, .int .i64 o.n]
structure O4.ok (o : O4) : Prop where
  k : I64 o.k
  i : I64 o.i
  p : I64 o.p
  n : I64 o.n
/-- the document's tree behind a call -/
def stepT (t : T) (o : O4) : T :=
  if o.k = 1 then (addS t o.i o.p o.n).1 else if o.k = 2 then (remS t o.i).1 else if o.k = 3 then (movS t o.i o.p o.n).1 else t
theorem stepT_ok {t : T} (ok : Ok t) (o : O4) : Ok (stepT t o) ∧ (stepT t o).length ≤ t.length + 1 := by
  unfold stepT
  by_cases h1 : o.k = 1
  · rw [if_pos h1]; exact addS_ok ok _ _ _
  rw [if_neg h1]
  by_cases h2 : o.k = 2
  · rw [if_pos h2]; exact ⟨(remS_ok ok _).1, Nat.le_succ_of_le (remS_ok ok _).2⟩
  rw [if_neg h2]
  by_cases h3 : o.k = 3
  · rw [if_pos h3]; exact ⟨(movS_ok ok _ _ _).1, Nat.le_succ_of_le (Nat.le_of_eq (movS_ok ok _ _ _).2)⟩
  rw [if_neg h3]
  exact ⟨ok, Nat.le_succ _⟩

theorem TurnP.wide {S S' U : Bset} {w w' : World} (h : TurnP S S' w w') (hs : ∀ k, S k → U k) : TurnP U U w w' :=
  ⟨h.os, h.tape, h.output, h.size, fun k hk hn => ⟨hn, (h.far k hk fun e => hn (hs k e)).2⟩⟩
/-- a block of the document's rows is no block of a tree in memory -/
theorem RTyp.apart {w : World} {A : Option Addr} (hy : RTyp w A) {b : Nat} {s : Sh} {H : Int → Prop} {P : Int → Option Int} {K : Int → List Int} (h : Raw w b s H P K) {a : Addr} (e : A = some a) : ¬ Foot b s H a.block := by
  obtain ⟨cs, fz, hc⟩ := hy a e
  rintro (hk | hk | ⟨i, hi, hk | hk⟩)
  · have h1 : w.heap[b]? = _ := h.blk
    rw [hk] at hc
    have := hc.symm.trans h1
    simp only [Option.some.injEq, Obj.cells.injEq] at this
    exact absurd this.2.1 (by decide)
  · obtain ⟨es, hm, _⟩ := h.map
    obtain ⟨es', clock, h1, _⟩ := hm.own
    rw [hk] at hc
    have := hc.symm.trans h1
    cases this
  · have h1 : w.heap[s.g i]? = _ := (h.node i hi).blk
    rw [hk] at hc
    have := hc.symm.trans h1
    simp only [Option.some.injEq, Obj.cells.injEq] at this
    exact absurd this.2.1 (by decide)
  · obtain ⟨cur, fr, h1⟩ := (h.node i hi).own.typed hk
    have := hc.symm.trans h1
    simp only [Option.some.injEq, Obj.cells.injEq] at this
    exact absurd this.2.1 (by decide)
theorem RTyp.not_blk {w : World} {A : Option Addr} (hy : RTyp w A) {a : Addr} (e : A = some a) {g : Nat} {cs : List Value} {T : TypeId} (hb : BlkT w g cs T) (hT : T ≠ 94) : a.block ≠ g := fun e2 => by
  obtain ⟨cs', fz, hc⟩ := hy a e
  have h1 : w.heap[g]? = _ := hb
  rw [e2] at hc
  have := h1.symm.trans hc
  simp only [Option.some.injEq, Obj.cells.injEq] at this
  exact hT this.2.1
/-- the document's tree stands while a step leaves its rows -/
theorem DTree.stays {w w' : World} {v : Value} {t : T} (h : DTree w v t) (hb : ∀ A c a, v = .slice A t.length c → RTyp w A → A = some a → w'.heap[a.block]? = w.heap[a.block]?) : DTree w' v t := by
  obtain ⟨A, c, e, hr, hy⟩ := h
  refine ⟨A, c, e, fun hn => ?_, fun a ea => ?_⟩
  · obtain ⟨g, off, ea, hc⟩ := hr hn
    refine ⟨g, off, ea, fun j hj i v hi => ?_⟩
    have h1 := hb A c _ e hy ea
    have h2 := hc j hj i v hi
    simp only [World.cell?] at h2 ⊢
    rw [h1]
    exact h2
  · obtain ⟨cs, fz, h1⟩ := hy a ea
    exact ⟨cs, fz, (hb A c a e hy ea).trans h1⟩
/-- a play: its variable's block, its tree, the document's -/
structure PlayAt (w : World) (g b : Nat) (s : Sh) (v : Value) (t : T) : Prop where
  blk : BlkT w g [.pointer (some ⟨b, 0, none⟩), v] tPlay
  tree : TreeAt w b s t
  far : ¬ FootT b s t g
  doc : DTree w v t
def PFoot (g b : Nat) (s : Sh) (t : T) : Bset := fun k => k = g ∨ FootT b s t k
section
variable {w w' : World} {g b : Nat} {s : Sh} {v : Value} {t : T}
theorem PlayAt.inside (h : PlayAt w g b s v t) : ∀ k, PFoot g b s t k → k < w.heap.size := by
  rintro k (rfl | hk)
  · exact h.blk.inside
  · exact h.tree.raw.inside k hk
theorem PlayAt.below (h : PlayAt w g b s v t) (hb : Below w.heap.size w w') : PlayAt w' g b s v t :=
  ⟨h.blk.stays (hb.block _ h.blk.inside), h.tree.below hb, h.far, h.doc.below hb⟩
/-- a step on another tree -/
theorem PlayAt.other (h : PlayAt w g b s v t) {S S' : Bset} (ht : TurnP S S' w w') (hS : ∀ k, S k → ¬ PFoot g b s t k) (hd : ∀ A c a, v = .slice A t.length c → RTyp w A → A = some a → ¬ S a.block) : PlayAt w' g b s v t := by
  have hn : ∀ k, PFoot g b s t k → w'.heap[k]? = w.heap[k]? := fun k hk => (ht.far k (h.inside k hk) fun e => hS k e hk).2
  refine ⟨h.blk.stays (hn _ (.inl rfl)), h.tree.stays fun k hk => hn k (.inr hk), h.far, h.doc.stays fun A c a e hy ea => ?_⟩
  obtain ⟨cs, fz, h1⟩ := hy a ea
  exact (ht.far _ (lt_of_block h1) (hd A c a e hy ea)).2
/-- the program's own step -/
theorem PlayAt.turn (hv : BlkT w g [.pointer (some ⟨b, 0, none⟩), v] tPlay) (h : TreeAt w b s t) (far : ¬ FootT b s t g) {t' : T} (hd : DTree w v t') {s' : Sh} (h1 : TreeAt w' b s' t') (ht : TurnP (FootT b s t) (FootT b s' t') w w') : PlayAt w' g b s' v t' := by
  have hg := ht.far g hv.inside far
  refine ⟨hv.stays hg.2, h1, hg.1, hd.stays fun A c a e hy ea => ?_⟩
  obtain ⟨cs, fz, h2⟩ := hy a ea
  exact (ht.far _ (lt_of_block h2) (hy.apart h.raw ea)).2
/-- what a region may rely on: the play's cells and the call's -/
structure DoF (W : World) (g b ob : Nat) (v : Value) (k i p n : Int) : Prop where
  p0 : W.cell? ⟨g, 0, none⟩ = some (.pointer (some ⟨b, 0, none⟩))
  p1 : W.cell? ⟨g, 1, none⟩ = some v
  pi : g < W.heap.size
  o0 : W.cell? ⟨ob, 0, none⟩ = some (.int .i64 k)
  o1 : W.cell? ⟨ob, 1, none⟩ = some (.int .i64 i)
  o2 : W.cell? ⟨ob, 2, none⟩ = some (.int .i64 p)
  o3 : W.cell? ⟨ob, 3, none⟩ = some (.int .i64 n)
  oi : ob < W.heap.size
theorem DoF.of {W : World} {g b ob : Nat} {v : Value} {k i p n : Int} (h1 : BlkT W g [.pointer (some ⟨b, 0, none⟩), v] tPlay) (h2 : BlkT W ob [.int .i64 k, .int .i64 i, .int .i64 p, .int .i64 n] tOp) : DoF W g b ob v k i p n :=
  ⟨h1.blk.cell 0, h1.blk.cell 1, h1.inside, h2.blk.cell 0, h2.blk.cell 1, h2.blk.cell 2, h2.blk.cell 3, h2.inside⟩
def sayAdd (r : T × Int) : regs.Say regs.bl := ⟨fun x w => ∃ v, x = .tuple #[v, .int .i64 r.2] ∧ DTree w v r.1, fun x w w' h hb => by
  obtain ⟨v, e, h⟩ := h
  exact ⟨v, e, h.below hb⟩⟩
def sayD (t : T) : regs.Say regs.bl := ⟨fun x w => DTree w x t, fun _ _ _ h hb => h.below hb⟩
def sayRem (B : Nat) (r : T × List Int × Int) : regs.Say regs.bl := ⟨fun x w => ∃ v u, x = .tuple #[v, u, .int .i64 r.2.2] ∧ DTree w v r.1 ∧ IOwn w B u r.2.1, fun x w w' h hb => by
  obtain ⟨v, u, e, h, hr⟩ := h
  exact ⟨v, u, e, h.below hb, SOwn.below hr hb⟩⟩
def sayI (B : Nat) (l : List Int) : regs.Say regs.bl := ⟨fun x w => IOwn w B x l, fun _ _ _ h hb => SOwn.below h hb⟩
theorem IOwn.turn {w w' : World} {S S' : Bset} {B : Nat} (hS : ∀ k, S k → k < B) {x : Value} {l : List Int} (h : IOwn w B x l) (ht : TurnP S S' w w') : IOwn w' B x l :=
  SOwn.stays h fun g hg => (ht.far g (SOwn.block h hg).2 (fun e => by have := hS g e; have := (SOwn.block h hg).1; omega)).2
def sayRm (S : Bset) (B : Nat) (hS : ∀ k, S k → k < B) (c : Int) (l : List Int) : regs.Say (TurnP S S) := ⟨fun x w => ∃ v, x = .tuple #[v, .int .i64 c] ∧ IOwn w B v l, fun x w w' h ht => by
  obtain ⟨v, e, h⟩ := h
  exact ⟨v, e, IOwn.turn hS h ht⟩⟩
def sayOw (S : Bset) (B : Nat) (hS : ∀ k, S k → k < B) (l : List Int) : regs.Say (TurnP S S) := ⟨fun x w => IOwn w B x l, fun _ _ _ h ht => IOwn.turn hS h ht⟩
/-- while a call of the program's is told: the tree as it was, or as it is -/
structure DoJ (b : Nat) (s : Sh) (t t' : T) (w0 : World) (d : Bool) (w : World) : Prop where
  no : d = false → TreeAt w b s t
  yes : d = true → ∃ s', TreeAt w b s' t' ∧ TurnP (FootT b s t) (FootT b s' t') w0 w
end
end Go.Proofs.Ytokochkjjlbnkaa
