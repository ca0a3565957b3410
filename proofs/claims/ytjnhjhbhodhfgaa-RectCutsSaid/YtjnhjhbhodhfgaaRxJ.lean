/-
  Layer 6: how the world stands while 'c, j := r.Cut(s, t), r.Join(s, t)' is done, in whichever order.
-/
import Derived.Test.YtjnhjhbhodhfgaaRxI
import Derived.Test.YtjnhjhbhodhfgaaRegv
namespace Go.Proofs.Ytjnhjhbhodhfgaa
open Go.RowKit

def isRow (l : List Bx) (v : Value) (w : World) : Prop := ∃ A c, v = .slice A l.length c ∧ BRow w A l ∧ l.length ≤ c ∧ c ≤ maxLen
theorem isRow.below {l : List Bx} {v : Value} {w w' : World} (h : isRow l v w) (hb : Below w.heap.size w w') : isRow l v w' := by
  obtain ⟨A, c, h1, h2, h3⟩ := h
  exact ⟨A, c, h1, h2.below hb, h3⟩
/-- a pointer to a block of the region's own that holds cs -/
def isNew (B : Nat) (cs : List Value) (v : Value) (w : World) : Prop := ∃ g, v = .pointer (some ⟨g, 0, none⟩) ∧ B ≤ g ∧ Blk w g cs
theorem isNew.below {B : Nat} {cs : List Value} {v : Value} {w w' : World} (h : isNew B cs v w) (hb : Below w.heap.size w w') : isNew B cs v w' := by
  obtain ⟨g, h1, h2, h3⟩ := h
  exact ⟨g, h1, h2, h3.below' hb⟩
theorem isNew.fresh {B : Nat} {cs : List Value} {v : Value} {w : World} (h : isNew B cs v w) : v ≠ .pointer (some ⟨w.heap.size, 0, none⟩) := by
  obtain ⟨g, rfl, h2, h3⟩ := h
  intro e
  have := h3.inside
  simp only [Value.pointer.injEq, Option.some.injEq, Addr.mk.injEq, and_true] at e
  omega
theorem JBs.off4 : ∀ {l : List (Nat × List Value)} {w : World} {B g : Nat}, JBs l w → (∀ p ∈ l, p.1 < B) → B ≤ g → ∀ (p' q' r' s' : Value), JBs l ((((w.setCell ⟨g, 0, none⟩ p').setCell ⟨g, 1, none⟩ q').setCell ⟨g, 2, none⟩ r').setCell ⟨g, 3, none⟩ s')
  | [], _, _, _, _, _, _, _, _, _, _ => trivial
  | x :: _, _, _, _, h, hl, hg, p', q', r', s' => ⟨h.1.off4 (by have := hl x List.mem_cons_self; omega) p' q' r' s', h.2.off4 (fun y hy => hl y (List.mem_cons_of_mem _ hy)) hg p' q' r' s'⟩
/-- slots 7, 8: the new blocks (made by 10, 11, written by 12, 13); slots 38, 43: the rows (built by 3, 8, called for the last time by 4, 9) -/
def JC (B : Nat) (old : List (Nat × List Value)) (zs cs js : List Value) (ls : List Bx) (i3 i4 i8 i9 i10 i11 i12 i13 : Bool) (v7 v8 v38 v43 : Value) (w : World) : Prop :=
  (JBs old w ∧ B ≤ w.heap.size ∧ ∀ p ∈ old, p.1 < B) ∧ (i10 = true → isNew B (bif i12 then cs else zs) v7 w) ∧ (i11 = true → isNew B (bif i13 then js else zs) v8 w) ∧ (i10 = true → i11 = true → v7 ≠ v8) ∧
  (i3 = true → i4 = false → isRow ls v38 w) ∧ (i8 = true → i9 = false → isRow ls v43 w) ∧ (i12 = true → i4 = true ∧ i9 = true ∧ i10 = true) ∧ (i13 = true → i4 = true ∧ i9 = true ∧ i11 = true)
section
variable {B : Nat} {old : List (Nat × List Value)} {zs cs js : List Value} {ls : List Bx} {i3 i4 i8 i9 i10 i11 i12 i13 : Bool} {v7 v8 v38 v43 : Value} {w w' : World}
theorem JC.below (h : JC B old zs cs js ls i3 i4 i8 i9 i10 i11 i12 i13 v7 v8 v38 v43 w) (hb : Below w.heap.size w w') : JC B old zs cs js ls i3 i4 i8 i9 i10 i11 i12 i13 v7 v8 v38 v43 w' :=
  ⟨⟨h.1.1.below hb, Nat.le_trans h.1.2.1 hb.size, h.1.2.2⟩, fun e => (h.2.1 e).below hb, fun e => (h.2.2.1 e).below hb, h.2.2.2.1, fun e f => (h.2.2.2.2.1 e f).below hb, fun e f => (h.2.2.2.2.2.1 e f).below hb, h.2.2.2.2.2.2⟩
theorem JC.slots {u7 u8 u38 u43 : Value} (h : JC B old zs cs js ls i3 i4 i8 i9 i10 i11 i12 i13 v7 v8 v38 v43 w) (e7 : u7 = v7) (e8 : u8 = v8) (e38 : u38 = v38) (e43 : u43 = v43) : JC B old zs cs js ls i3 i4 i8 i9 i10 i11 i12 i13 u7 u8 u38 u43 w := by
  rw [e7, e8, e38, e43]
  exact h
theorem JC.row38 {u : Value} (h : JC B old zs cs js ls i3 i4 i8 i9 i10 i11 i12 i13 v7 v8 v38 v43 w) (hr : isRow ls u w) : JC B old zs cs js ls true i4 i8 i9 i10 i11 i12 i13 v7 v8 u v43 w :=
  ⟨h.1, h.2.1, h.2.2.1, h.2.2.2.1, fun _ _ => hr, h.2.2.2.2.2⟩
theorem JC.row43 {u : Value} (h : JC B old zs cs js ls i3 i4 i8 i9 i10 i11 i12 i13 v7 v8 v38 v43 w) (hr : isRow ls u w) : JC B old zs cs js ls i3 i4 true i9 i10 i11 i12 i13 v7 v8 v38 u w :=
  ⟨h.1, h.2.1, h.2.2.1, h.2.2.2.1, h.2.2.2.2.1, fun _ _ => hr, h.2.2.2.2.2.2⟩
theorem JC.done4 (h : JC B old zs cs js ls i3 i4 i8 i9 i10 i11 i12 i13 v7 v8 v38 v43 w) : JC B old zs cs js ls i3 true i8 i9 i10 i11 i12 i13 v7 v8 v38 v43 w :=
  ⟨h.1, h.2.1, h.2.2.1, h.2.2.2.1, fun _ e => (nomatch e), h.2.2.2.2.2.1, fun e => ⟨rfl, (h.2.2.2.2.2.2.1 e).2⟩, fun e => ⟨rfl, (h.2.2.2.2.2.2.2 e).2⟩⟩
theorem JC.done9 (h : JC B old zs cs js ls i3 i4 i8 i9 i10 i11 i12 i13 v7 v8 v38 v43 w) : JC B old zs cs js ls i3 i4 i8 true i10 i11 i12 i13 v7 v8 v38 v43 w :=
  ⟨h.1, h.2.1, h.2.2.1, h.2.2.2.1, h.2.2.2.2.1, fun _ e => (nomatch e), fun e => ⟨(h.2.2.2.2.2.2.1 e).1, rfl, (h.2.2.2.2.2.2.1 e).2.2⟩, fun e => ⟨(h.2.2.2.2.2.2.2 e).1, rfl, (h.2.2.2.2.2.2.2 e).2.2⟩⟩
theorem JC.new7 {T : TypeId} (h : JC B old zs cs js ls i3 i4 i8 i9 i10 i11 i12 i13 v7 v8 v38 v43 w) (e10 : i10 = false) : JC B old zs cs js ls i3 i4 i8 i9 true i11 i12 i13 (.pointer (some ⟨w.heap.size, 0, none⟩)) v8 v38 v43 (w.alloc (.cells zs.toArray T)) := by
  have hb : Below w.heap.size w (w.alloc (.cells zs.toArray T)) := (Below.refl _ _).alloc (Nat.le_refl _) _
  have h' := h.below hb
  subst e10
  have e12 : i12 = false := by
    cases hi : i12 with
    | false => rfl
    | true => exact absurd (h.2.2.2.2.2.2.1 hi).2.2 (by decide)
  subst e12
  exact ⟨h'.1, fun _ => ⟨_, rfl, h.1.2.1, blk_new w zs T⟩, h'.2.2.1, fun _ e => (h.2.2.1 e).fresh.symm, h'.2.2.2.2.1, h'.2.2.2.2.2.1, fun e => (nomatch e), h'.2.2.2.2.2.2.2⟩
theorem JC.new8 {T : TypeId} (h : JC B old zs cs js ls i3 i4 i8 i9 i10 i11 i12 i13 v7 v8 v38 v43 w) (e11 : i11 = false) : JC B old zs cs js ls i3 i4 i8 i9 i10 true i12 i13 v7 (.pointer (some ⟨w.heap.size, 0, none⟩)) v38 v43 (w.alloc (.cells zs.toArray T)) := by
  have hb : Below w.heap.size w (w.alloc (.cells zs.toArray T)) := (Below.refl _ _).alloc (Nat.le_refl _) _
  have h' := h.below hb
  subst e11
  have e13 : i13 = false := by
    cases hi : i13 with
    | false => rfl
    | true => exact absurd (h.2.2.2.2.2.2.2 hi).2.2 (by decide)
  subst e13
  exact ⟨h'.1, h'.2.1, fun _ => ⟨_, rfl, h.1.2.1, blk_new w zs T⟩, fun e _ => (h.2.1 e).fresh, h'.2.2.2.2.1, h'.2.2.2.2.2.1, h'.2.2.2.2.2.2.1, fun e => (nomatch e)⟩
theorem JC.put7 {g : Nat} {z1 z2 z3 z4 p q r s : Value} (h : JC B old [z1, z2, z3, z4] [p, q, r, s] js ls i3 i4 i8 i9 i10 i11 i12 i13 v7 v8 v38 v43 w) (e4 : i4 = true) (e9 : i9 = true) (e10 : i10 = true) (e12 : i12 = false) (e7 : v7 = .pointer (some ⟨g, 0, none⟩)) :
    JC B old [z1, z2, z3, z4] [p, q, r, s] js ls i3 i4 i8 i9 i10 i11 true i13 v7 v8 v38 v43 ((((w.setCell ⟨g, 0, none⟩ p).setCell ⟨g, 1, none⟩ q).setCell ⟨g, 2, none⟩ r).setCell ⟨g, 3, none⟩ s) := by
  subst e4 e9 e10 e12 e7
  obtain ⟨g', e, hg, hB⟩ := h.2.1 rfl
  simp only [Value.pointer.injEq, Option.some.injEq, Addr.mk.injEq, and_true] at e
  subst e
  refine ⟨⟨h.1.1.off4 h.1.2.2 hg _ _ _ _, by have := h.1.2.1; simpa [World.setCell] using this, h.1.2.2⟩, fun _ => ⟨g, rfl, hg, hB.put4 _ _ _ _⟩, fun e => ?_, h.2.2.2.1, fun _ e => (nomatch e), fun _ e => (nomatch e), fun _ => ⟨rfl, rfl, rfl⟩, fun e => ⟨rfl, rfl, (h.2.2.2.2.2.2.2 e).2.2⟩⟩
  obtain ⟨g8, e8, hg8, hB8⟩ := h.2.2.1 e
  refine ⟨g8, e8, hg8, hB8.off4 (fun e2 => h.2.2.2.1 rfl e ?_) _ _ _ _⟩
  rw [e8, e2]
theorem JC.put8 {g : Nat} {z1 z2 z3 z4 p q r s : Value} (h : JC B old [z1, z2, z3, z4] cs [p, q, r, s] ls i3 i4 i8 i9 i10 i11 i12 i13 v7 v8 v38 v43 w) (e4 : i4 = true) (e9 : i9 = true) (e11 : i11 = true) (e13 : i13 = false) (e8 : v8 = .pointer (some ⟨g, 0, none⟩)) :
    JC B old [z1, z2, z3, z4] cs [p, q, r, s] ls i3 i4 i8 i9 i10 i11 i12 true v7 v8 v38 v43 ((((w.setCell ⟨g, 0, none⟩ p).setCell ⟨g, 1, none⟩ q).setCell ⟨g, 2, none⟩ r).setCell ⟨g, 3, none⟩ s) := by
  subst e4 e9 e11 e13 e8
  obtain ⟨g', e, hg, hB⟩ := h.2.2.1 rfl
  simp only [Value.pointer.injEq, Option.some.injEq, Addr.mk.injEq, and_true] at e
  subst e
  refine ⟨⟨h.1.1.off4 h.1.2.2 hg _ _ _ _, by have := h.1.2.1; simpa [World.setCell] using this, h.1.2.2⟩, fun e => ?_, fun _ => ⟨g, rfl, hg, hB.put4 _ _ _ _⟩, h.2.2.2.1, fun _ e => (nomatch e), fun _ e => (nomatch e), fun e => ⟨rfl, rfl, (h.2.2.2.2.2.2.1 e).2.2⟩, fun _ => ⟨rfl, rfl, rfl⟩⟩
  obtain ⟨g7, e7, hg7, hB7⟩ := h.2.1 e
  refine ⟨g7, e7, hg7, hB7.off4 (fun e2 => h.2.2.2.1 e rfl ?_) _ _ _ _⟩
  rw [e7, e2]
end
end Go.Proofs.Ytjnhjhbhodhfgaa
