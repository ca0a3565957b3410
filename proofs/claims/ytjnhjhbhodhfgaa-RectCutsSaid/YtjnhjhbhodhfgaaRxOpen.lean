/-
  What an argument that is a rectangle gives.
-/
import Derived.Test.YtjnhjhbhodhfgaaRows
import Derived.Test.YtjnhjhbhodhfgaaRxA
import Derived.ProofKit
import Derived.OpenShut
import Derived.ChangeOld
import Derived.Carry
import Derived.Below
import Derived.Lib.SmallJoins
namespace Go.Proofs.Ytjnhjhbhodhfgaa
open Go.RowKit Go.ChangeShapes Go.WideShapes Go.ChangeAt Go.Deep Go.Joins

theorem own : ownKnob Try.prog.godebug = none := by kernel_rfl
theorem laidOut : laidOutB Try.prog = true := by kernel_rfl
theorem rect_of {H : Type} {enc : TypeId × Value → H} {w : World} {base b0 : Nat} {held : Bool} {r : Reach} {v : Value} {d : DataW H} {p : List MemPlace}
    (hv : Value.okWide Try.prog w r b0 23 v) (h : DataW.Trod enc Try.prog w base (fun _ => true) held 23 v d p) : ∃ x : Bx, v = x.v := by
  obtain ⟨c0, c1, c2, c3, y0, y1, y2, y3, m, rfl, -, -, hy0, hy1, hy2, hy3⟩ := open_agg4 Try.underlying23 (by kernel_rfl) (by kernel_rfl) hv h
  obtain ⟨x, e1, -, wx⟩ := DataW.trod_int Try.underlying3 hy0
  obtain ⟨y, e2, -, wy⟩ := DataW.trod_int Try.underlying3 hy1
  obtain ⟨z, e3, -, wz⟩ := DataW.trod_int Try.underlying3 hy2
  obtain ⟨u, e4, -, wu⟩ := DataW.trod_int Try.underlying3 hy3
  obtain rfl := List.singleton_inj.1 e1
  obtain rfl := List.singleton_inj.1 e2
  obtain rfl := List.singleton_inj.1 e3
  obtain rfl := List.singleton_inj.1 e4
  exact ⟨⟨x, y, z, u⟩, rfl⟩
end Go.Proofs.Ytjnhjhbhodhfgaa
