import Derived.Test.YtehmblcbccceaaaGreatKSdd
namespace Go.Proofs.YtehmblcbccceaaaGreat
open Go.RowKit pxm imm trm Go.Maps
/-! ### Ops of the call's own -/
def op9z : List Value := Op9.o.cs none 0
theorem info_op : (Tryz.prog.info? 77).map (fun i => (i.zero,i.size,i.bytes)) = some (some (.agg op9z.toArray),23,200) := by kernel_rfl
theorem OpR.cs_plain (q : OpR) : ∀ u ∈ q.cs,u.oneCell' = true := fun u hu => List.all_eq_true.1 (Op9.one _ _ _) u hu
abbrev OOwn (w : World) (base : Nat) (v : Value) (l : List OpR) : Prop := SOwn 77 23 OpR.cs w base v l
end Go.Proofs.YtehmblcbccceaaaGreat
