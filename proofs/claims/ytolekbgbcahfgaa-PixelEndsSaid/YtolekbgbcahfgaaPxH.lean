/-
  Layer 9: what stays while new blocks are made.
-/
import Derived.Test.YtolekbgbcahfgaaPxG
namespace Go.Proofs.Ytolekbgbcahfgaa
open Go.RowKit pxm

theorem sz_new {w w' : World} {o : Obj} {N : Nat} (h : N ≤ w.heap.size) (hb : Below (w.alloc o).heap.size (w.alloc o) w') : N ≤ w'.heap.size := by
  have := hb.size
  simp at this
  omega
theorem own_new {w w' : World} {o : Obj} {B : Nat} {v : Value} {l : List P4} (h : POwn w B v l) (hb : Below (w.alloc o).heap.size (w.alloc o) w') : POwn w' B v l := SOwn.below (SOwn.below h ((Below.refl _ _).alloc (Nat.le_refl _) _)) hb
end Go.Proofs.Ytolekbgbcahfgaa
