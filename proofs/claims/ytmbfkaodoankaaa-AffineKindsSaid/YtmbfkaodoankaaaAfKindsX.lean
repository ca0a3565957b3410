/-
  Layer 8: the walk of AffineKinds, whatever the numbers.
-/
import Derived.Test.YtmbfkaodoankaaaAfKindsW
namespace Go.Proofs.Ytmbfkaodoankaaa
open Go.RowKit

set_option maxRecDepth 100000 in
set_option maxHeartbeats 2000000 in
theorem kinds_walk (p b : Pt) (q : Int) (w : World) (_ : -9223372036854775808 ≤ q) (_ : q ≤ 9223372036854775807) : Calls Try.prog 6 #[p.v, b.v, .int .i64 q] w fun e w' => e = .returned (.bool true) ∧ Below w.heap.size w w' := by
  by_cases h : ptR p ∧ ptR b
  · exact kinds_in p b q w h.1 h.2
  have HPX := Lib.hid (fun w => dright_any p.x w)
  have HPY := Lib.hid (fun w => dright_any p.y w)
  have HX := Lib.hid (fun w => dright_any b.x w)
  have HY := Lib.hid (fun w => dright_any b.y w)
  have HNO : Hid ((rightB p.x && (rightB p.y && (rightB b.x && rightB b.y))) = true → False) := by
    intro hh
    simp only [Bool.and_eq_true] at hh
    exact h ⟨⟨rightB_of hh.1, rightB_of hh.2.1⟩, rightB_of hh.2.2.1, rightB_of hh.2.2.2⟩
  clear h
  generalize rightB p.x = t1 at *
  generalize rightB p.y = t2 at *
  generalize rightB b.x = t3 at *
  generalize rightB b.y = t4 at *
  obtain ⟨px, py⟩ := p
  obtain ⟨bx, by_⟩ := b
  unfold Pt.v
  simp only at HPX HPY HX HY ⊢
  go_enter Try.func6, Try.ntmps6
  go_wp2_with (fail)
  go_quiet (fail)
  have HB0 : Hid (Below w.heap.size w (((w.alloc (.cells #[.int .i64 px, .int .i64 py] 25)).alloc (.cells #[.int .i64 bx, .int .i64 by_] 25)).drewN nq)) := Below.drewN' (((Below.refl _ _).alloc (Nat.le_refl _) _).alloc (by simp) _) _
  have bp0 : Hid (Blk (((w.alloc (.cells #[.int .i64 px, .int .i64 py] 25)).alloc (.cells #[.int .i64 bx, .int .i64 by_] 25)).drewN nq) w.heap.size [.int .i64 px, .int .i64 py]) := ((blk_new w [.int .i64 px, .int .i64 py] _).alloc _).drewN _
  generalize (((w.alloc (.cells #[.int .i64 px, .int .i64 py] 25)).alloc (.cells #[.int .i64 bx, .int .i64 by_] 25)).drewN nq) = W0 at *
  obtain ⟨⟨p0, p1⟩, -, pi⟩ := bp0.out.c2
  clear bp0
  go_wp2_with (fail)
  refine (HPX.out _).mono ?_
  rintro e w1 ⟨rfl, rfl⟩
  cases t1 with
  | false =>
    go_wp2_with (fail)
    refine (awake_any _).mono ?_
    rintro e w6 ⟨rfl, hb⟩
    have B6 := Lib.hid (HB0.out.trans (hb.mono HB0.out.size))
    clear hb
    go_wp2_with (fail)
    go_ret
    exact ⟨rfl, B6.out⟩
  | true =>
    go_wp2_with (fail)
    refine (HPY.out _).mono ?_
    rintro e w1 ⟨rfl, rfl⟩
    cases t2 with
    | false =>
      go_wp2_with (fail)
      refine (awake_any _).mono ?_
      rintro e w6 ⟨rfl, hb⟩
      have B6 := Lib.hid (HB0.out.trans (hb.mono HB0.out.size))
      clear hb
      go_wp2_with (fail)
      go_ret
      exact ⟨rfl, B6.out⟩
    | true =>
      go_wp2_with (fail)
      refine (HX.out _).mono ?_
      rintro e w1 ⟨rfl, rfl⟩
      cases t3 with
      | false =>
        go_wp2_with (fail)
        refine (awake_any _).mono ?_
        rintro e w6 ⟨rfl, hb⟩
        have B6 := Lib.hid (HB0.out.trans (hb.mono HB0.out.size))
        clear hb
        go_wp2_with (fail)
        go_ret
        exact ⟨rfl, B6.out⟩
      | true =>
        go_wp2_with (fail)
        refine (HY.out _).mono ?_
        rintro e w1 ⟨rfl, rfl⟩
        cases t4 with
        | false =>
          go_wp2_with (fail)
          refine (awake_any _).mono ?_
          rintro e w6 ⟨rfl, hb⟩
          have B6 := Lib.hid (HB0.out.trans (hb.mono HB0.out.size))
          clear hb
          go_wp2_with (fail)
          go_ret
          exact ⟨rfl, B6.out⟩
        | true =>
          exact (HNO.out rfl).elim
end Go.Proofs.Ytmbfkaodoankaaa
