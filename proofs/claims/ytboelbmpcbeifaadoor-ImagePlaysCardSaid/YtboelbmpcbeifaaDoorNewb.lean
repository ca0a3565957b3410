/-
  How the world stands in a region that draws its order: old blocks stay; at most one variable is made, and later written (JN), or one older one is written (JS).
-/
import Derived.Test.YtboelbmpcbeifaaDoorKit
import Derived.Test.YtboelbmpcbeifaaDoorRegv
namespace Go.Proofs.YtboelbmpcbeifaaDoor
open Go.RowKit

def JBs : List (Nat × List Value) → World → Prop
  | [], _ => True
  | p :: l, w => Blk w p.1 p.2 ∧ JBs l w
theorem JBs.below : ∀ {l : List (Nat × List Value)} {w w' : World}, JBs l w → Below w.heap.size w w' → JBs l w'
  | [], _, _, _, _ => trivial
  | _ :: _, _, _, h, hb => ⟨h.1.below' hb, JBs.below h.2 hb⟩
theorem JBs.alloc {l : List (Nat × List Value)} {w : World} (h : JBs l w) (o : Obj) : JBs l (w.alloc o) := h.below ((Below.refl _ _).alloc (Nat.le_refl _) o)
theorem JBs.under : ∀ {l : List (Nat × List Value)} {w w' : World} {B : Nat}, JBs l w → (∀ p ∈ l, p.1 < B) → Below B w w' → JBs l w'
  | [], _, _, _, _, _, _ => trivial
  | x :: _, _, _, _, h, hl, hb => ⟨h.1.below hb (hl x List.mem_cons_self), JBs.under h.2 (fun y hy => hl y (List.mem_cons_of_mem _ hy)) hb⟩
theorem JBs.lt : ∀ {l : List (Nat × List Value)} {w : World}, JBs l w → ∀ p ∈ l, p.1 < w.heap.size
  | x :: l, _, h, p, hp => by
    rcases List.mem_cons.1 hp with rfl | hp
    · exact h.1.inside
    · exact JBs.lt h.2 p hp
theorem bel_step {B : Nat} {w w1 w2 : World} (h : Below B w w1) (hB : B ≤ w.heap.size) (hb : Below w1.heap.size w1 w2) : Below B w w2 := h.trans (hb.mono (Nat.le_trans hB h.size))
/-- a pointer to a block of the region's own that holds cs -/
def isNew (B : Nat) (cs : List Value) (v : Value) (w : World) : Prop := ∃ g, v = .pointer (some ⟨g, 0, none⟩) ∧ B ≤ g ∧ Blk w g cs
theorem isNew.below {B : Nat} {cs : List Value} {v : Value} {w w' : World} (h : isNew B cs v w) (hb : Below w.heap.size w w') : isNew B cs v w' := by
  obtain ⟨g, h1, h2, h3⟩ := h
  exact ⟨g, h1, h2, h3.below' hb⟩
def JN (B : Nat) (old : List (Nat × List Value)) (zs cs : List Value) (iA iS : Bool) (v : Value) (w : World) : Prop :=
  (JBs old w ∧ B ≤ w.heap.size ∧ ∀ p ∈ old, p.1 < B) ∧ (iA = true → isNew B (bif iS then cs else zs) v w) ∧ (iS = true → iA = true)
def JS (B : Nat) (old : List (Nat × List Value)) (g : Nat) (zs cs : List Value) (iS : Bool) (w : World) : Prop :=
  (JBs old w ∧ B ≤ w.heap.size ∧ ∀ p ∈ old, p.1 ≠ g) ∧ B ≤ g ∧ Blk w g (bif iS then cs else zs)
/-- all cells of a block written, one behind the other -/
def putBlk (g : Nat) : World → Nat → List Value → World
  | w, _, [] => w
  | w, i, v :: l => putBlk g (w.setCell ⟨g, i, none⟩ v) (i + 1) l
theorem putBlk_other {g k : Nat} (hg : k ≠ g) : ∀ (l : List Value) (i : Nat) {w : World} {cs : List Value}, Blk w k cs → Blk (putBlk g w i l) k cs
  | [], _, _, _, h => h
  | _ :: l, i, _, _, h => putBlk_other hg l (i + 1) (h.other hg i _)
theorem JBs.putBlk {g : Nat} (cs : List Value) : ∀ {l : List (Nat × List Value)} {w : World}, JBs l w → (∀ p ∈ l, p.1 ≠ g) → JBs l (putBlk g w 0 cs)
  | [], _, _, _ => trivial
  | x :: _, _, h, hl => ⟨putBlk_other (hl x List.mem_cons_self) cs 0 h.1, JBs.putBlk cs h.2 fun y hy => hl y (List.mem_cons_of_mem _ hy)⟩
theorem putBlk_below {g B : Nat} (hg : B ≤ g) : ∀ (l : List Value) (i : Nat) {w W : World}, Below B w W → Below B w (putBlk g W i l)
  | [], _, _, _, h => h
  | _ :: l, i, _, _, h => putBlk_below hg l (i + 1) (below_set h hg)
theorem putBlk_same {g : Nat} : ∀ (l done rest : List Value) {w : World}, rest.length = l.length → Blk w g (done ++ rest) → Blk (putBlk g w done.length l) g (done ++ l)
  | [], done, rest, _, hl, h => by
    have : rest = [] := List.eq_nil_of_length_eq_zero (by simpa using hl)
    subst this
    exact h
  | v :: l, done, [], _, hl, h => by simp at hl
  | v :: l, done, z :: rest, w, hl, h => by
    have h2 := h.set done.length v
    rw [List.set_append, if_neg (by simp), Nat.sub_self, List.set_cons_zero] at h2
    have e : done ++ v :: rest = (done ++ [v]) ++ rest := by simp
    rw [e] at h2
    have h3 := putBlk_same l (done ++ [v]) rest (by simpa using hl) h2
    simpa [putBlk] using h3
theorem putBlk_all {g : Nat} {w : World} {zs l : List Value} (hl : zs.length = l.length) (h : Blk w g zs) : Blk (putBlk g w 0 l) g l := putBlk_same l [] zs hl h
section
variable {B : Nat} {old : List (Nat × List Value)} {zs cs : List Value} {iA iS : Bool} {v : Value} {w w' : World}
theorem JN.below (h : JN B old zs cs iA iS v w) (hb : Below w.heap.size w w') : JN B old zs cs iA iS v w' :=
  ⟨⟨h.1.1.below hb, Nat.le_trans h.1.2.1 hb.size, h.1.2.2⟩, fun e => (h.2.1 e).below hb, h.2.2⟩
theorem JN.slots {u : Value} (h : JN B old zs cs iA iS v w) (e : u = v) : JN B old zs cs iA iS u w := e ▸ h
theorem JN.new {u : Value} {T : TypeId} (h : JN B old zs cs iA iS v w) (eA : iA = false) (eu : u = .pointer (some ⟨w.heap.size, 0, none⟩)) : JN B old zs cs true iS u (w.alloc (.cells zs.toArray T)) := by
  have hb : Below w.heap.size w (w.alloc (.cells zs.toArray T)) := (Below.refl _ _).alloc (Nat.le_refl _) _
  have h' := h.below hb
  have eS : iS = false := by
    cases hi : iS with
    | false => rfl
    | true => have := h.2.2 hi; rw [eA] at this; cases this
  subst eA eS eu
  exact ⟨h'.1, fun _ => ⟨_, rfl, h.1.2.1, blk_new w zs T⟩, fun _ => rfl⟩
theorem JN.put {g : Nat} (h : JN B old zs cs iA iS v w) (hl : zs.length = cs.length) (eA : iA = true) (eS : iS = false) (ev : v = .pointer (some ⟨g, 0, none⟩)) : JN B old zs cs iA true v (putBlk g w 0 cs) ∧ Below B w (putBlk g w 0 cs) := by
  subst eA eS ev
  obtain ⟨g', e, hg, hB⟩ := h.2.1 rfl
  simp only [Value.pointer.injEq, Option.some.injEq, Addr.mk.injEq, and_true] at e
  subst e
  have hb : Below B w (putBlk g w 0 cs) := putBlk_below hg cs 0 (Below.refl _ _)
  exact ⟨⟨⟨h.1.1.under h.1.2.2 hb, Nat.le_trans h.1.2.1 hb.size, h.1.2.2⟩, fun _ => ⟨g, rfl, hg, putBlk_all hl hB⟩, fun _ => rfl⟩, hb⟩
theorem JN.start (h : JBs old w) : JN w.heap.size old zs cs false false v w := ⟨⟨h, Nat.le_refl _, h.lt⟩, fun e => (nomatch e), fun e => (nomatch e)⟩
theorem JS.below {g : Nat} (h : JS B old g zs cs iS w) (hb : Below w.heap.size w w') : JS B old g zs cs iS w' :=
  ⟨⟨h.1.1.below hb, Nat.le_trans h.1.2.1 hb.size, h.1.2.2⟩, h.2.1, h.2.2.below' hb⟩
theorem JS.put {g : Nat} (h : JS B old g zs cs iS w) (hl : zs.length = cs.length) (eS : iS = false) : JS B old g zs cs true (putBlk g w 0 cs) ∧ Below B w (putBlk g w 0 cs) := by
  subst eS
  have hb : Below B w (putBlk g w 0 cs) := putBlk_below h.2.1 cs 0 (Below.refl _ _)
  exact ⟨⟨⟨h.1.1.putBlk cs h.1.2.2, Nat.le_trans h.1.2.1 hb.size, h.1.2.2⟩, h.2.1, putBlk_all hl h.2.2⟩, hb⟩
theorem JS.start {g : Nat} (h : JBs old w) (hB : B ≤ g) (hg : Blk w g zs) (hne : ∀ p ∈ old, p.1 ≠ g) : JS B old g zs cs false w := ⟨⟨h, Nat.le_trans hB (Nat.le_of_lt hg.inside), hne⟩, hB, hg⟩
end
end Go.Proofs.YtboelbmpcbeifaaDoor
