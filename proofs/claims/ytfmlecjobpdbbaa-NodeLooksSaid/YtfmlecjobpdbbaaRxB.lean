/-
  Layer 6: Cut, around, Join.
-/
import Derived.Test.YtfmlecjobpdbbaaRxA
import Derived.Test.YtfmlecjobpdbbaaRegs
namespace Go.Proofs.Ytfmlecjobpdbbaa
open Go.RowKit

def mx (x y : Int) : Int := if y > x then y else x
def mn (x y : Int) : Int := if y < x then y else x
def Bx.cut1 (r s : Bx) : Bx := ⟨mx r.a s.a, mx r.b s.b, mn r.c s.c, mn r.d s.d⟩
def Bx.cut (r : Bx) (l : List Bx) : Bx := (l.foldl Bx.cut1 r).nrm
def BRow (w : World) (A : Option Addr) (l : List Bx) : Prop := SRow 4 Bx.cs w A l
theorem BRow.below {w w' : World} {A : Option Addr} {l : List Bx} (h : BRow w A l) (hb : Below w.heap.size w w') : BRow w' A l := SRow.below h hb
theorem BRow.at_ {w : World} {A : Option Addr} {l : List Bx} (h : BRow w A l) {j : Nat} (hj : j < l.length) : ∃ b off, A = some ⟨b, off, none⟩ ∧ w.cell? ⟨b, off + j * 4, none⟩ = some (.int .i64 l[j].a) ∧ w.cell? ⟨b, off + j * 4 + 1, none⟩ = some (.int .i64 l[j].b) ∧ w.cell? ⟨b, off + j * 4 + 2, none⟩ = some (.int .i64 l[j].c) ∧ w.cell? ⟨b, off + j * 4 + 3, none⟩ = some (.int .i64 l[j].d) := by
  obtain ⟨b, off, e, hc⟩ := h (by omega)
  exact ⟨b, off, e, hc j hj 0 _ rfl, hc j hj 1 _ rfl, hc j hj 2 _ rfl, hc j hj 3 _ rfl⟩
theorem foldl_snoc {α β : Type} (f : β → α → β) (b : β) (l : List α) {k : Nat} (hk : k < l.length) : (l.take (k + 1)).foldl f b = f ((l.take k).foldl f b) l[k] := by
  rw [List.take_succ_eq_append_getElem hk, List.foldl_append]
  rfl

/-! ### Join -/
def Bx.around (r s : Bx) : Bx := if r = Bx.o then s else if s = Bx.o then r else ⟨mn r.a s.a, mn r.b s.b, mx r.c s.c, mx r.d s.d⟩
def Bx.join1 (r s : Bx) : Bx := r.around s.nrm
def Bx.join (r : Bx) (l : List Bx) : Bx := l.foldl Bx.join1 r.nrm
theorem below3 {w : World} (o1 o2 o3 : Obj) : Below w.heap.size w (((w.alloc o1).alloc o2).alloc o3) := (((Below.refl _ _).alloc (Nat.le_refl _) _).alloc (by simp) _).alloc (by simp; omega) _
/-- how the world stands in Join's round: block g0 holds qs till it is written (4), which is behind its being read (0) -/
def JJ (g0 g1 z : Nat) (qs ss us os : List Value) (L : Nat → Bool) (wx : World) : Prop := (L 0 = false ∨ L 4 = false → Blk wx g0 qs) ∧ (L 4 = true → Blk wx g0 us) ∧ Blk wx g1 ss ∧ Blk wx z os
theorem JJ.below {g0 g1 z : Nat} {qs ss us os : List Value} {L : Nat → Bool} {w w' : World} (h : JJ g0 g1 z qs ss us os L w) (hb : Below w.heap.size w w') : JJ g0 g1 z qs ss us os L w' :=
  ⟨fun e => (h.1 e).below' hb, fun e => (h.2.1 e).below' hb, h.2.2.1.below' hb, h.2.2.2.below' hb⟩
end Go.Proofs.Ytfmlecjobpdbbaa
