import Derived.Test.YtehmblcbccceaaaGreatLSdd
namespace Go.Proofs.YtehmblcbccceaaaGreat
open Go.RowKit pxm imm trm Go.Maps
theorem set_root (nd : Int → Nd) (ws : Int → Mp) : ∃ ws',setSt ⟨[],nd,ws⟩ = (⟨[],nd,ws'⟩,0) := by
  refine ⟨fun i => (worldOf [] nd i).getD (ws i),?_⟩
  unfold setSt
  rw [if_pos fun i hi => ?_]
  have : i = 0 := by
    rcases has_iff.1 hi with e | e
    · exact e
    · cases e
  rw [this,worldOf_0]
  simp
/-! ### Ops of the call's own -/
theorem OpR.cs_plain (q : OpR) : ∀ u ∈ q.cs,u.oneCell' = true := fun u hu => List.all_eq_true.1 (Op9.one _ _ _) u hu
theorem bs_op1 (q : OpR) (w : World) : (Instr.buildSlice tOps 1 #[(0,.agg q.cs.toArray)]).run Tryz.prog w = .ok (.slice (some ⟨w.heap.size,0,none⟩) 1 1) (w.alloc (.cells q.cs.toArray 77)) := by kernel_rfl
end Go.Proofs.YtehmblcbccceaaaGreat
