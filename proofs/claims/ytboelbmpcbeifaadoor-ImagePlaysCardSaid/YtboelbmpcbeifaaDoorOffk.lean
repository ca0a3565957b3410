/-
  A region that draws its order, over old blocks, with one older block written ('Off'): how the world stands.
-/
import Derived.Test.YtboelbmpcbeifaaDoorNewb
import Derived.Test.YtboelbmpcbeifaaDoorImB
namespace Go.Proofs.YtboelbmpcbeifaaDoor
open Go.RowKit
/-- old blocks stay; one block is written, once what it held has been read (iL) -/
def JO (old : List (Nat × List Value)) (g : Nat) (zs cs : List Value) (iL iS : Bool) (w : World) : Prop :=
  (JBs old w ∧ True ∧ ∀ p ∈ old, p.1 ≠ g) ∧ True ∧ Blk w g (if iS then cs else zs) ∧ (iS = true → iL = true)
section
variable {old : List (Nat × List Value)} {g : Nat} {zs cs : List Value} {iL iS : Bool} {w w' : World}
theorem JO.below (h : JO old g zs cs iL iS w) (hb : Below w.heap.size w w') : JO old g zs cs iL iS w' :=
  ⟨⟨h.1.1.below hb, trivial, h.1.2.2⟩, trivial, h.2.2.1.below' hb, h.2.2.2⟩
theorem JO.read (h : JO old g zs cs iL iS w) (eL : iL = false) : Blk w g zs := by
  have eS : iS = false := by
    cases hi : iS with
    | false => rfl
    | true => have := h.2.2.2 hi; rw [eL] at this; cases this
  have := h.2.2.1
  rw [eS] at this
  exact this
theorem JO.done (h : JO old g zs cs iL iS w) : JO old g zs cs true iS w := ⟨h.1, h.2.1, h.2.2.1, fun _ => rfl⟩
theorem putBlk_off (g : Nat) : ∀ (l : List Value) (i : Nat) (w : World), Off [g] w (putBlk g w i l)
  | [], _, _ => Off.refl _ _
  | v :: l, i, w => (Off.set (S := [g]) (g := g) (by simp) i v).trans (putBlk_off g l (i + 1) _)
theorem JO.put (h : JO old g zs cs iL iS w) (hl : zs.length = cs.length) (eS : iS = false) (eL : iL = true) : JO old g zs cs iL true (putBlk g w 0 cs) ∧ Off [g] w (putBlk g w 0 cs) := by
  subst eS
  exact ⟨⟨⟨h.1.1.putBlk cs h.1.2.2, trivial, h.1.2.2⟩, trivial, putBlk_all hl h.2.2.1, fun _ => eL⟩, putBlk_off g cs 0 w⟩
theorem JO.start (h : JBs old w) (hg : Blk w g zs) (hne : ∀ p ∈ old, p.1 ≠ g) : JO old g zs cs false false w := ⟨⟨h, trivial, hne⟩, trivial, hg, fun e => nomatch e⟩
theorem JO.start' (h : JBs old w) (hg : Blk w g zs) (hne : ∀ p ∈ old, p.1 ≠ g) : JO old g zs cs true false w := ⟨⟨h, trivial, hne⟩, trivial, hg, fun _ => rfl⟩
end
theorem SRow.off {α : Type} {k : Nat} {enc : α → List Value} {w w' : World} {b o : Nat} {l : List α} {S : List Nat} (h : SRow k enc w (some ⟨b, o, none⟩) l) (ho : Off S w w') (hb : b < w.heap.size) (hS : b ∉ S) : SRow k enc w' (some ⟨b, o, none⟩) l := fun hn => by
  obtain ⟨b', o', e, hc⟩ := h hn
  refine ⟨b', o', e, fun j hj i v hi => ?_⟩
  simp only [Option.some.injEq, Addr.mk.injEq, and_true] at e
  obtain ⟨rfl, rfl⟩ := e
  have hblk := ho.far b hb hS
  rw [← hc j hj i v hi]
  simp only [World.cell?, hblk]
end Go.Proofs.YtboelbmpcbeifaaDoor
