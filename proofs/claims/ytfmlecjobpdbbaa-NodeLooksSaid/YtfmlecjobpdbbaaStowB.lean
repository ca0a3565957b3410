/-
  Blocks known, and one that is made and written.
-/
import Derived.Test.YtfmlecjobpdbbaaStow
namespace Go.Proofs.Ytfmlecjobpdbbaa
open Go.RowKit

/-- blocks known, and one more, just made and written -/
theorem JBs.wrote {g : Nat} : ∀ {l : List (Nat × List Value)} {w w' : World}, JBs l w → Wrote g w w' → (∀ p ∈ l, p.1 ≠ g) → JBs l w'
  | [], _, _, _, _, _ => trivial
  | x :: _, _, _, h, hW, hl => ⟨hW.blk (hl x List.mem_cons_self) h.1, JBs.wrote h.2 hW fun y hy => hl y (List.mem_cons_of_mem _ hy)⟩
theorem JBs.made {l : List (Nat × List Value)} {w w' : World} {o : Obj} {cs : List Value} (h : JBs l w) (hW : Wrote w.heap.size (w.alloc o) w') (hB : Blk w' w.heap.size cs) : JBs ((w.heap.size, cs) :: l) w' :=
  ⟨hB, (h.alloc o).wrote hW fun p hp => Nat.ne_of_lt (h.lt p hp)⟩
theorem Wrote.made {w W w' : World} {o : Obj} (hW : Wrote W.heap.size (W.alloc o) w') (hB : Below w.heap.size w W) : Below w.heap.size w w' := hW.below (hB.alloc hB.size o) hB.size
/-- a load of a great struct, where one operation stands alone (a drawn region's step) -/
theorem wp_take {P : Program} {op : Oper} {a : Act} {w : World} {K : Act → World → Prop} {Q : Exit → Act → World → Prop} (ty : TypeId) (x : Operand) (ho : op.op = .load ty x) (g f : Nat) (hx : a.eval x = .pointer (some ⟨g, f, none⟩)) (cs : List Value) (hB : Blk w g cs) (ls : List Value) (hls : (cs.drop f).take ls.length = ls)
    (d : TypeDesc) (hu : P.underlying ty = some d) (hd : d.isRow = true) (hi : (P.info? ty).map (·.size) = some ls.length) (h : K (a.put op.dst (.agg ls.toArray)) w) : op.wp P a w K Q :=
  wp_load_mid ty x ho g f hx ls d (by rw [← hls]; exact hB.range f ls.length) hu hd hi h
end Go.Proofs.Ytfmlecjobpdbbaa
