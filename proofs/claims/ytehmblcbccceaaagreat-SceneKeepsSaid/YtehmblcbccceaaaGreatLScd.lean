import Derived.Test.YtehmblcbccceaaaGreatLSca
namespace Go.Proofs.YtehmblcbccceaaaGreat
open Go.RowKit pxm imm trm Go.Maps
def eqN (n1 n2 : Nd) : Bool := eqNd n1.m n1.op n1.hi n1.cl n1.r n2.m n2.op n2.hi n2.cl n2.r (eqLk n1.lk.k n1.lk.W n1.lk.H n1.lk.p n1.lk.iw n1.lk.ih n1.lk.l n2.lk.k n2.lk.W n2.lk.H n2.lk.p n2.lk.iw n2.lk.ih n2.lk.l)
set_option maxHeartbeats 2000000 in
set_option maxRecDepth 100000 in
theorem same_node (n1 n2 : Nd) (A1 A2 : Option Addr) (c1 c2 : Nat) (u1 u2 : Mp) (m1 : n1.lk.l.length ≤ 300) (m2 : n2.lk.l.length ≤ 300) (w : World) (h1 : Row eW w A1 n1.lk.l) (h2 : Row eW w A2 n2.lk.l) :
    Calls Tryz.prog 56 #[plv n1 A1 c1 u1,plv n2 A2 c2 u2] w fun e w' => e = .returned (.bool (eqN n1 n2)) ∧ Below w.heap.size w w' := by
  unfold plv
  have HB0 : Hid (Below w.heap.size w ((w.alloc (.cells (plcs n1 A1 c1 u1).toArray 128)).alloc (.cells (plcs n2 A2 c2 u2).toArray 128))) := ((Below.refl _ _).alloc (Nat.le_refl _) _).alloc (by simp) _
  have HK1 : Hid (Blk ((w.alloc (.cells (plcs n1 A1 c1 u1).toArray 128)).alloc (.cells (plcs n2 A2 c2 u2).toArray 128)) w.heap.size (plcs n1 A1 c1 u1)) := (blk_new w (plcs n1 A1 c1 u1) _).alloc _
  have HK2 : Hid (Blk ((w.alloc (.cells (plcs n1 A1 c1 u1).toArray 128)).alloc (.cells (plcs n2 A2 c2 u2).toArray 128)) (w.heap.size + 1) (plcs n2 A2 c2 u2)) := blk_at (w.alloc _) _ (by simp) (plcs n2 A2 c2 u2) _
  have HEQ := Lib.hid (ndequal_any n1.m n1.op n1.hi n1.cl n1.r n1.lk.k n1.lk.W n1.lk.H n1.lk.p n1.lk.iw n1.lk.ih A1 n1.lk.l c1 n2.m n2.op n2.hi n2.cl n2.r n2.lk.k n2.lk.W n2.lk.H n2.lk.p n2.lk.iw n2.lk.ih A2 n2.lk.l c2 (by unfold maxLen; omega) (by unfold maxLen; omega) ((w.alloc (.cells (plcs n1 A1 c1 u1).toArray 128)).alloc (.cells (plcs n2 A2 c2 u2).toArray 128)) (Row.below h1 HB0.out) (Row.below h2 HB0.out))
  rw [← Nd.v_eq n1 A1 c1,← Nd.v_eq n2 A2 c2,show eqNd n1.m n1.op n1.hi n1.cl n1.r n2.m n2.op n2.hi n2.cl n2.r (eqLk n1.lk.k n1.lk.W n1.lk.H n1.lk.p n1.lk.iw n1.lk.ih n1.lk.l n2.lk.k n2.lk.W n2.lk.H n2.lk.p n2.lk.iw n2.lk.ih n2.lk.l) = eqN n1 n2 from rfl] at HEQ
  unfold Nd.v at HEQ
  clear m1 m2 h1 h2
  go_enter Tryz.func56,Tryz.ntmps56
  go_upto_region 1 with (fail)
  generalize ((w.alloc (.cells (plcs n1 A1 c1 u1).toArray 128)).alloc (.cells (plcs n2 A2 c2 u2).toArray 128)) = w0 at *
  have i1 := HK1.out.inside
  have i2 := HK2.out.inside
  go_wp2_with (first | (with_reducible show wpList _ _ _ (Oper.mk _ (Op.load _ _) _ _ _ _ :: _) _ _; first | (refine wpl_take 72 _ rfl rfl _ 0 rfl (plcs n1 A1 c1 u1) HK1.out (n1.cs A1 c1) rfl _ Tryz.underlying72 rfl (by kernel_rfl) ?_) | (refine wpl_take 72 _ rfl rfl _ 0 rfl (plcs n2 A2 c2 u2) HK2.out (n2.cs A2 c2) rfl _ Tryz.underlying72 rfl (by kernel_rfl) ?_)))
  refine HEQ.out.mono ?_
  rintro e w1 ⟨rfl,hb1⟩
  have HB1 := Lib.hid (HB0.out.trans (hb1.mono HB0.out.size))
  clear hb1 HEQ
  go_wp2_with (fail)
  go_ret
  exact ⟨rfl,HB1.out⟩
end Go.Proofs.YtehmblcbccceaaaGreat
