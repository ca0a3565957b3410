/-
  Great structs in blocks known whole: loads and stores of all of them, or of a part, in one step each (no type of the program's is named).
-/
import Derived.Test.YtfmlecjobpdbbaaNewb
import Derived.Deep.MidRow
namespace Go.Proofs.Ytfmlecjobpdbbaa
open Go.RowKit

theorem setCells_put (g : Nat) : ∀ (l : List Value) (o : Nat) (w : World), w.setCells g o l = putBlk g w o l
  | [], _, _ => rfl
  | v :: l, o, w => setCells_put g l (o + 1) (w.setCell ⟨g, o, none⟩ v)
/-- one block was written, and nothing else -/
def Wrote (g : Nat) (w w' : World) : Prop := ∃ o l, w' = putBlk g w o l
theorem putBlk_far {g b : Nat} (hb : b ≠ g) : ∀ (l : List Value) (i : Nat) (w : World), (putBlk g w i l).heap[b]? = w.heap[b]?
  | [], _, _ => rfl
  | _ :: l, i, _ => (putBlk_far hb l (i + 1) _).trans (Below.heap_setCell _ _ _ _ hb)
theorem putBlk_size (g : Nat) : ∀ (l : List Value) (i : Nat) (w : World), (putBlk g w i l).heap.size = w.heap.size
  | [], _, _ => rfl
  | _ :: l, i, _ => (putBlk_size g l (i + 1) _).trans (by simp [World.setCell])
section
variable {w w' W : World} {g b B : Nat} {cs : List Value}
theorem Wrote.far (h : Wrote g w w') (hb : b ≠ g) : w'.heap[b]? = w.heap[b]? := by
  obtain ⟨o, l, rfl⟩ := h
  exact putBlk_far hb l o w
theorem Wrote.size (h : Wrote g w w') : w'.heap.size = w.heap.size := by
  obtain ⟨o, l, rfl⟩ := h
  exact putBlk_size g l o w
theorem Wrote.blk (h : Wrote g w w') (hb : b ≠ g) (hB : Blk w b cs) : Blk w' b cs := hB.stays (h.far hb)
theorem Wrote.below (h : Wrote g w w') (hb : Below B W w) (hg : B ≤ g) : Below B W w' := by
  obtain ⟨o, l, rfl⟩ := h
  exact putBlk_below hg l o hb
end
theorem set_mid (v : Value) : ∀ (cs : List Value) (o : Nat), o < cs.length → cs.set o v = cs.take o ++ v :: cs.drop (o + 1)
  | [], o, h => by simp at h
  | c :: cs, 0, _ => rfl
  | c :: cs, o + 1, h => by
    show c :: cs.set o v = c :: (cs.take o ++ v :: cs.drop (o + 1))
    rw [set_mid v cs o (by simpa using h)]
theorem putBlk_mid {g : Nat} : ∀ (l : List Value) (o : Nat) {w : World} {cs : List Value}, o + l.length ≤ cs.length → Blk w g cs → Blk (putBlk g w o l) g (cs.take o ++ l ++ cs.drop (o + l.length))
  | [], o, w, cs, _, h => by
    have e : cs.take o ++ [] ++ cs.drop (o + ([] : List Value).length) = cs := by simp
    rw [e]
    exact h
  | v :: l, o, w, cs, hl, h => by
    rw [List.length_cons] at hl
    have h2 := putBlk_mid l (o + 1) (by rw [List.length_set]; omega) (h.set o v)
    have e : (cs.set o v).take (o + 1) ++ l ++ (cs.set o v).drop (o + 1 + l.length) = cs.take o ++ (v :: l) ++ cs.drop (o + (v :: l).length) := by
      have e2 : cs.drop (o + (v :: l).length) = (cs.drop (o + 1)).drop l.length := by rw [List.drop_drop, List.length_cons, show o + 1 + l.length = o + (l.length + 1) by omega]
      have hto : (cs.take o).length = o := by rw [List.length_take]; omega
      rw [set_mid v cs o (by omega), e2]
      generalize cs.take o = x at *
      generalize cs.drop (o + 1) = y at *
      clear e2 h2 h hl
      subst hto
      have t1 : (x ++ v :: y).take (x.length + 1) = x ++ [v] := by rw [List.take_append, List.take_of_length_le (by omega), show x.length + 1 - x.length = 1 by omega]; rfl
      have t2 : (x ++ v :: y).drop (x.length + 1 + l.length) = y.drop l.length := by rw [List.drop_append, List.drop_of_length_le (by omega), show x.length + 1 + l.length - x.length = l.length + 1 by omega]; rfl
      rw [t1, t2]
      simp
    rw [e] at h2
    exact h2
theorem Blk.range {w : World} {g : Nat} {cs : List Value} (h : Blk w g cs) (o n : Nat) : w.rangeAt g o ((cs.drop o).take n) := fun j v hj => by
  have h1 : ((cs.drop o).take n)[j]? = cs[o + j]? := by
    have := (List.getElem?_eq_some_iff.1 hj).1
    rw [List.length_take, List.length_drop] at this
    rw [List.getElem?_take, if_pos (by omega), List.getElem?_drop]
  rw [h.cell, ← h1, hj]
theorem Blk.there {w : World} {g : Nat} {cs : List Value} (h : Blk w g cs) {o n : Nat} (hl : o + n ≤ cs.length) : w.there g o n := fun j hj => ⟨by rw [h.cell, List.getElem?_eq_getElem (by omega)]; rfl, h.free _⟩
section
variable {P : Program} {ops : Array Oper} {rest : List Oper} {o : Oper} {a : Act} {Q : Exit → Act → World → Prop} {w : World}
/-- a struct (n cells from offset f of a block known whole) is loaded -/
theorem wpl_take (ty : TypeId) (x : Operand) (ho : o.op = .load ty x) (hgd : Region.wanted o (yielded ops a.tmps) = true) (g f : Nat) (hx : a.eval x = .pointer (some ⟨g, f, none⟩)) (cs : List Value) (hB : Blk w g cs) (ls : List Value) (hls : (cs.drop f).take ls.length = ls)
    (d : TypeDesc) (hu : P.underlying ty = some d) (hd : d.isRow = true) (hi : (P.info? ty).map (·.size) = some ls.length) (h : wpList P ops Q rest (a.put o.dst (.agg ls.toArray)) w) : wpList P ops Q (o :: rest) a w := by
  unfold wpList
  rw [if_pos hgd]
  refine .inl ?_
  have hr : w.rangeAt g f ls := by rw [← hls]; exact hB.range f ls.length
  unfold Oper.wp execOp
  simp only [ho, hx, Instr.loadAt, Instr.sureAddr, Sem.run_bind, Sem.run_pure, Result.andThen_ok, run_loadVar_mid w g f ty ls d hr hu hd hi]
  exact h
/-- a struct is stored from offset f on -/
theorem wpl_stow (ty : TypeId) (x y : Operand) (ho : o.op = .store ty x y) (hgd : Region.wanted o (yielded ops a.tmps) = true) (hd : o.dst = none) (g f : Nat) (hx : a.eval x = .pointer (some ⟨g, f, none⟩)) (ls : List Value) (hy : a.eval y = .agg ls.toArray)
    (cs : List Value) (hB : Blk w g cs) (cs' : List Value) (hc : cs.take f ++ ls ++ cs.drop (f + ls.length) = cs') (hl : f + ls.length ≤ cs.length) (hi : (P.info? ty).map (·.size) = some ls.length) (h1 : ls.all (·.oneCell') = true)
    (h : ∀ w', Hid (Wrote g w w') → Hid (Blk w' g cs') → wpList P ops Q rest a w') : wpList P ops Q (o :: rest) a w := by
  unfold wpList
  rw [if_pos hgd]
  refine .inl ?_
  have h2 := h (w.setCells g f ls) ⟨f, ls, setCells_put g ls f w⟩ (by rw [← hc, setCells_put]; exact putBlk_mid ls f hl hB)
  unfold Oper.wp execOp
  simp only [ho, hx, hy, Instr.storeAt, Instr.sureAddr, Sem.run_bind, Sem.run_pure, Result.andThen_ok, run_storeVar_mid w g f ty ls.toArray (by simpa using hB.there hl) (by simpa using hi) (by simpa using h1)]
  have e : a.put o.dst undef = a := by rw [hd]; rfl
  show wpList P ops Q rest (a.put o.dst undef) (w.setCells g f ls)
  rw [e]
  exact h2
end
end Go.Proofs.Ytfmlecjobpdbbaa
