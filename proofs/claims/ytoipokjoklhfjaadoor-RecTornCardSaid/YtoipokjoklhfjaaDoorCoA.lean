/-
  The contracts of the layer's leaves: numbers with a sign, new memory, the number at the beginning of bytes.
-/
import Derived.Test.YtoipokjoklhfjaaDoorCoderMath
import Derived.Test.YtoipokjoklhfjaaDoorByt
import Derived.Deep.QuietTactic
import Derived.BigQuiet
import Derived.WalkLawsBesides
namespace Go.Proofs.YtoipokjoklhfjaaDoor
open Go.RowKit numb

theorem ret_num {k : IntKind} {a b : Int} (h : a = b) : Ending.returned (.int k a) = .returned (.int k b) := by rw [h]
theorem zig_pos {n : Int} (h : 0 ≤ n) : ((zig n : Nat) : Int) = n * 2 := by unfold zig; rw [if_pos h]; omega
theorem zig_neg {n : Int} (h : n < 0) : ((zig n : Nat) : Int) = (-(n + 1)) * 2 + 1 := by unfold zig; rw [if_neg (by omega)]; omega

/-- the same bytes in new memory -/
theorem fresh_any (a : Option Addr) (l : List Nat) (c : Nat) (w : World) (hm : Bs w a l) (hsz : l.length ≤ 1099511627776) :
    Calls Tryd.prog 36 #[.slice a l.length c] w fun e w' => ∃ v', e = .returned v' ∧ Own w' w.heap.size v' l ∧ Below w.heap.size w w' := by
  obtain ⟨v', w', run, own, hg, _⟩ := app_row w w.heap.size (.slice none 0 0) [] (own_nil _ _) a l c hm (by simpa using hsz) (Nat.le_refl _)
  rw [List.nil_append] at own
  have hb : Below w.heap.size w w' := (Below.refl _ _).grown hg (Nat.le_refl _) (fun k hk => by simp [Value.ownBlock] at hk)
  clear hg hsz hm
  go_enter Tryd.func36, Tryd.ntmps36
  go_wp2_with (at_builtin; refine wpList_append_run rfl _ _ 25 25 25 rfl rfl _ _ _ _ rfl rfl run ?_)
  go_ret
  exact ⟨v', rfl, own, hb⟩
end Go.Proofs.YtoipokjoklhfjaaDoor
