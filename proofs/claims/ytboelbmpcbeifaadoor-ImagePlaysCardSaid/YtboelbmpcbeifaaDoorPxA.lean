/-
  Layer 9: the contracts of pixel's leaves and of the document's own: a part, a part by a part; closures; each.
-/
import Derived.Test.YtboelbmpcbeifaaDoorPxMath
import Derived.Deep.QuietTactic
import Derived.BigQuiet
import Derived.Laws.BitsAllLaws
import Derived.Shelf.Abstract
namespace Go.Proofs.YtboelbmpcbeifaaDoor
open Go.RowKit pxm

/-- a callee that only reads, as go_quiet wants it: `with_reducible exact .. _` -/
theorem quietly {P : Program} {f : FuncId} {args : Array Value} {v : Value} (h : ∀ w, Calls P f args w fun e w' => e = .returned v ∧ Drew w w') (w : World) : ∀ n, Calls P f args (w.drewN n) fun e w'' => e = .returned v ∧ ∃ m, w'' = w.drewN m :=
  fun _ => Calls.quiet_of (h _)
theorem bel_of_drew {P : Program} {f : FuncId} {args : Array Value} {v : Value} {w : World} (h : Calls P f args w fun e w' => e = .returned v ∧ Drew w w') : Calls P f args w fun e w' => e = .returned v ∧ Below w.heap.size w w' :=
  h.mono fun _ _ ⟨he, hd⟩ => ⟨he, hd.below _⟩
set_option maxHeartbeats 400000 in
theorem part_any (p : P4) (hp : p.Bytes) (k : Nat) (hk : k < 4) (w : World) :
    Calls Tryd.prog 49 #[.int .u32 (p.num : Nat), .int .i64 (k : Nat)] w fun e w' => e = .returned (.int .i64 (p.at_ k : Nat)) ∧ Drew w w' := by
  obtain ⟨h1, h2, h3, h4⟩ := hp
  obtain rfl | rfl | rfl | rfl : k = 0 ∨ k = 1 ∨ k = 2 ∨ k = 3 := by omega
  all_goals
    go_enter Tryd.func49, Tryd.ntmps49
    go_wp2_with (fail)
    go_ret
    refine ⟨ret_num ?_, Drew.refl _⟩
    simp only [P4.at_, P4.num]
    omega
/-! ### The three closures: they read what they hold -/
end Go.Proofs.YtboelbmpcbeifaaDoor
