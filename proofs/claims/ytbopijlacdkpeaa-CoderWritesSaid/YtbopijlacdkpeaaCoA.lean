/-
  The contracts of the layer's leaves: numbers with a sign, new memory, the number at the beginning of bytes.
-/
import Derived.Test.YtbopijlacdkpeaaCoderMath
import Derived.Test.YtbopijlacdkpeaaByt
import Derived.Deep.QuietTactic
import Derived.BigQuiet
import Derived.WalkLawsBesides
namespace Go.Proofs.Ytbopijlacdkpeaa
open Go.RowKit numb

theorem ret_num {k : IntKind} {a b : Int} (h : a = b) : Ending.returned (.int k a) = .returned (.int k b) := by rw [h]
theorem zig_pos {n : Int} (h : 0 ≤ n) : ((zig n : Nat) : Int) = n * 2 := by unfold zig; rw [if_pos h]; omega
theorem zig_neg {n : Int} (h : n < 0) : ((zig n : Nat) : Int) = (-(n + 1)) * 2 + 1 := by unfold zig; rw [if_neg (by omega)]; omega

theorem unsigned_any (n : Int) (w : World) (h1 : -9223372036854775808 ≤ n) (h2 : n ≤ 9223372036854775807) :
    Calls Try.prog 32 #[.int .i64 n] w fun e w' => e = .returned (.int .u64 (zig n : Nat)) ∧ w = w' := by
  by_cases h : 0 ≤ n
  · have hz := Lib.hid (zig_pos h)
    have t : decide (n < 0) = false := by simpa using h
    go_enter Try.func32, Try.ntmps32
    go_wp2
    go_ret
    exact ⟨ret_num (by rw [hz.out]; omega), rfl⟩
  · have hz := Lib.hid (zig_neg (n := n) (by omega))
    have h' : n < 0 := by omega
    go_enter Try.func32, Try.ntmps32
    go_wp2
    go_ret
    exact ⟨ret_num (by rw [hz.out]; omega), rfl⟩

theorem signed_any (v : Nat) (w : World) (h : U64 v) :
    Calls Try.prog 40 #[.int .u64 v] w fun e w' => e = .returned (.int .i64 (zag v)) ∧ w = w' := by
  have h := h.lt
  rcases Nat.mod_two_eq_zero_or_one v with h2 | h2
  · have hz : Hid (zag v = ((v / 2 : Nat) : Int)) := by unfold zag; rw [if_neg (by omega)]; rfl
    have t2 : ((v : Int) % 2 == 1) = false := by simp; omega
    clear h2
    go_enter Try.func40, Try.ntmps40
    go_wp2
    go_ret
    exact ⟨ret_num (by rw [hz.out]; omega), rfl⟩
  · have hz : Hid (zag v = -((v / 2 : Nat) : Int) - 1) := by unfold zag; rw [if_pos h2]; rfl
    have t2 : ((v : Int) % 2 == 1) = true := by simp; omega
    clear h2
    go_enter Try.func40, Try.ntmps40
    go_wp2
    go_ret
    exact ⟨ret_num (by rw [hz.out]; omega), rfl⟩

/-- the same bytes in new memory -/
theorem fresh_any (a : Option Addr) (l : List Nat) (c : Nat) (w : World) (hm : Bs w a l) (hsz : l.length ≤ 1099511627776) :
    Calls Try.prog 37 #[.slice a l.length c] w fun e w' => ∃ v', e = .returned v' ∧ Own w' w.heap.size v' l ∧ Below w.heap.size w w' := by
  obtain ⟨v', w', run, own, hg, _⟩ := app_row w w.heap.size (.slice none 0 0) [] (own_nil _ _) a l c hm (by simpa using hsz) (Nat.le_refl _)
  rw [List.nil_append] at own
  have hb : Below w.heap.size w w' := (Below.refl _ _).grown hg (Nat.le_refl _) (fun k hk => by simp [Value.ownBlock] at hk)
  clear hg hsz hm
  go_enter Try.func37, Try.ntmps37
  go_wp2_with (at_builtin; refine wpList_append_run rfl _ _ 24 24 24 rfl rfl _ _ _ _ rfl rfl run ?_)
  go_ret
  exact ⟨v', rfl, own, hb⟩
end Go.Proofs.Ytbopijlacdkpeaa
