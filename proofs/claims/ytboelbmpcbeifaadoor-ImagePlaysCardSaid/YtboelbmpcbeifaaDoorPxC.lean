/-
  Layer 9: rows of pixels and parts: Over, Stack, By.
-/
import Derived.Test.YtboelbmpcbeifaaDoorPxB
namespace Go.Proofs.YtboelbmpcbeifaaDoor
open Go.RowKit pxm

def eP (p : P4) : Value := .int .u32 (p.num : Nat)
def eN (q : Nat) : Value := .int .i64 (q : Nat)
theorem foldl_take {α β : Type} (f : β → α → β) (b : β) {l : List α} {k : Nat} (hk : k < l.length) : (l.take (k + 1)).foldl f b = f ((l.take k).foldl f b) l[k] := by
  rw [List.take_succ_eq_append_getElem hk, List.foldl_append]
  rfl
theorem overAll_take {p : P4} {l : List P4} {k : Nat} (hk : k < l.length) : overAll p (l.take (k + 1)) = (overAll p (l.take k)).over l[k] := foldl_take _ _ hk
theorem stack_take {d : P4} {l : List P4} {k : Nat} (hk : k < l.length) : stack d (l.take (k + 1)) = l[k].over (stack d (l.take k)) := foldl_take _ _ hk
theorem timesAll_take {p : P4} {l : List Nat} {k : Nat} (hk : k < l.length) : timesAll p (l.take (k + 1)) = (timesAll p (l.take k)).times l[k] := foldl_take _ _ hk
theorem right_take {l : List P4} (h : ∀ d ∈ l, d.Right) (k : Nat) : ∀ d ∈ l.take k, d.Right := fun d hd => h d (List.mem_of_mem_take hd)

end Go.Proofs.YtboelbmpcbeifaaDoor
