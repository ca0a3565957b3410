/-
  Layer 12: Within.
-/
import Derived.Test.YtokochkjjlbnkaaTrQ
namespace Go.Proofs.Ytokochkjjlbnkaa
open Go.RowKit trm

section
variable {w : World} {b : Nat} {s : Sh} {t : T}
theorem TreeAt.drewN (h : TreeAt w b s t) (n : Nat) : TreeAt (w.drewN n) b s t := h.below (Below.drewN' (Below.refl _ _) n)
set_option maxRecDepth 100000 in
set_option maxHeartbeats 1000000 in
theorem twithin (h : TreeAt w b s t) (i o : Int) (hi : I64 i) (ho : I64 o) :
    Calls Try.prog 14 #[.pointer (some ⟨b, 0, none⟩), .int .i64 i, .int .i64 o] w fun e w' => e = .returned (.bool (within t i o)) ∧ Below w.heap.size w w' := by
  obtain ⟨c0, bi⟩ := h.raw.top
  have HT := Lib.hid (fun n => h.drewN n)
  by_cases hx : has t i = true
  · have hlk := fun n => (h.drewN n).raw.look_some hi hx
    by_cases hy : has t o = true
    · have hlk2 := fun n => (h.drewN n).raw.look_some ho hy
      have HC := Lib.hid (fun n => nwithin (HT.out n) hx hy)
      clear h hi ho hx hy HT
      generalize within t i o = R at *
      go_enter Try.func14, Try.ntmps14
      go_wp2_with (fail)
      go_quiet (fail)
      go_wp2_with (fail)
      refine (HC.out _).mono ?_
      rintro e w1 ⟨rfl, rfl⟩
      go_wp2_with (fail)
      go_ret
      exact ⟨rfl, Below.drewN' (Below.refl _ _) _⟩
    · have hlk2 := fun n => (h.drewN n).raw.look_none ho hy
      have HQ : Hid (within t i o = false) := by show _ = _; unfold within; simp [hy]
      clear h hi ho hx hy HT
      go_enter Try.func14, Try.ntmps14
      go_wp2_with (fail)
      go_quiet (fail)
      go_wp2_with (fail)
      go_ret
      exact ⟨ret_bool HQ.out.symm, Below.drewN' (Below.refl _ _) _⟩
  · have hlk := fun n => (h.drewN n).raw.look_none hi hx
    have HQ : Hid (within t i o = false) := by show _ = _; unfold within; simp [hx]
    by_cases hy : has t o = true
    · have hlk2 := fun n => (h.drewN n).raw.look_some ho hy
      clear h hi ho hx hy HT
      go_enter Try.func14, Try.ntmps14
      go_wp2_with (fail)
      go_quiet (fail)
      go_wp2_with (fail)
      go_ret
      exact ⟨ret_bool HQ.out.symm, Below.drewN' (Below.refl _ _) _⟩
    · have hlk2 := fun n => (h.drewN n).raw.look_none ho hy
      clear h hi ho hx hy HT
      go_enter Try.func14, Try.ntmps14
      go_wp2_with (fail)
      go_quiet (fail)
      go_wp2_with (fail)
      go_ret
      exact ⟨ret_bool HQ.out.symm, Below.drewN' (Below.refl _ _) _⟩
end
end Go.Proofs.Ytokochkjjlbnkaa
