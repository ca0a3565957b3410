/-
  What an argument of four fields gives: records, where they are cut off, a byte that differs.
-/
import Derived.Test.YtoipokjoklhfjaaDoorRcOpen
import Derived.Lib.SmallJoins
namespace Go.Proofs.YtoipokjoklhfjaaDoor
open Go.RowKit Go.ChangeShapes Go.WideShapes Go.ChangeAt Go.Deep Go.Joins

theorem torn_of {H : Type} {enc : TypeId × Value → H} {w : World} {base b0 : Nat} {held : Bool} {r : Reach} {v : Value} {d : DataW H} {p : List MemPlace}
    (hv : Value.okWide Tryd.prog w r b0 49 v) (h : DataW.Trod enc Tryd.prog w base (fun _ => true) held 49 v d p) :
    ∃ (A : Option Addr) (l : List Rc) (c : Nat) (cut at_ : Int) (flip : Nat), v = .agg #[.slice A l.length c, .int .i64 cut, .int .i64 at_, .int .u8 (flip : Nat)] ∧ RcRow w A l ∧ (∀ x ∈ l, x.p.ok w) ∧ l.length ≤ 9223372036854775807 ∧
      (-9223372036854775808 ≤ cut ∧ cut ≤ 9223372036854775807) ∧ (-9223372036854775808 ≤ at_ ∧ at_ ≤ 9223372036854775807) ∧ flip < 256 := by
  obtain ⟨c0, c1, c2, c3, y0, y1, y2, y3, m, rfl, -, -, hy0, hy1, hy2, hy3⟩ := open_agg4 Tryd.underlying49 (by kernel_rfl) (by kernel_rfl) hv h
  obtain ⟨A, l, c, rfl, h1, h2, h3⟩ := recs_cell hy0
  obtain ⟨x, e1, -, wx⟩ := DataW.trod_int Tryd.underlying3 hy1
  obtain ⟨y, e2, -, wy⟩ := DataW.trod_int Tryd.underlying3 hy2
  obtain ⟨z, e3, -, wz⟩ := DataW.trod_int Tryd.underlying5 hy3
  obtain rfl := List.singleton_inj.1 e1
  obtain rfl := List.singleton_inj.1 e2
  obtain rfl := List.singleton_inj.1 e3
  have bz := bounds_u8 wz
  obtain ⟨f, rfl⟩ := Int.eq_ofNat_of_zero_le bz.1
  exact ⟨A, l, c, x, y, f, rfl, h1, h2, h3, bounds_i64 wx, bounds_i64 wy, by omega⟩
end Go.Proofs.YtoipokjoklhfjaaDoor
