/-
  Layer 19: looks copied, and held against each other.
-/
import Derived.Test.YtgadheamldianaaEvK
namespace Go.Proofs.Ytgadheamldianaa
open Go.RowKit pxm imm

theorem wp_build {P : Program} {op : Oper} {a : Act} {w : World} {K : Act → World → Prop} {Q : Exit → Act → World → Prop} (t : TypeId) (parts : Array (Nat × Operand)) (ho : op.op = .build t parts) {vals : Array (Nat × Value)} (hv : (parts.map fun q => (q.1, a.eval q.2)) = vals) {v : Value} (hrun : (Instr.build t vals).run P w = .ok v w)
    (h : K (a.put op.dst v) w) : op.wp P a w K Q := by
  subst hv
  unfold Oper.wp execOp
  simp only [ho, Sem.run_bind, Result.andThen_ok, hrun]
  exact h
theorem wp_bs {P : Program} {op : Oper} {a : Act} {w w' : World} {K : Act → World → Prop} {Q : Exit → Act → World → Prop} (t : TypeId) (n : Nat) (parts : Array (Nat × Operand)) (ho : op.op = .buildSlice t n parts) {vals : Array (Nat × Value)} (hv : (parts.map fun q => (q.1, a.eval q.2)) = vals) {v : Value} (hrun : (Instr.buildSlice t n vals).run P w = .ok v w')
    (h : K (a.put op.dst v) w') : op.wp P a w K Q := by
  subst hv
  unfold Oper.wp execOp
  simp only [ho, Sem.run_bind, Result.andThen_ok, hrun]
  exact h
theorem wpl_build {P : Program} {ops : Array Oper} {rest : List Oper} {o : Oper} {a : Act} {Q : Exit → Act → World → Prop} {w w' : World} (t : TypeId) (parts : Array (Nat × Operand)) (ho : o.op = .build t parts) (hgd : Region.wanted o (yielded ops a.tmps) = true) {vals : Array (Nat × Value)} (hv : (parts.map fun q => (q.1, a.eval q.2)) = vals) {v : Value} (hrun : (Instr.build t vals).run P w = .ok v w')
    (h : wpList P ops Q rest (a.put o.dst v) w') : wpList P ops Q (o :: rest) a w := by
  subst hv
  unfold wpList
  rw [if_pos hgd]
  refine .inl ?_
  unfold Oper.wp execOp
  simp only [ho, Sem.run_bind, Result.andThen_ok, hrun]
  exact h
theorem wpl_bs {P : Program} {ops : Array Oper} {rest : List Oper} {o : Oper} {a : Act} {Q : Exit → Act → World → Prop} {w w' : World} (t : TypeId) (n : Nat) (parts : Array (Nat × Operand)) (ho : o.op = .buildSlice t n parts) (hgd : Region.wanted o (yielded ops a.tmps) = true) {vals : Array (Nat × Value)} (hv : (parts.map fun q => (q.1, a.eval q.2)) = vals) {v : Value} (hrun : (Instr.buildSlice t n vals).run P w = .ok v w')
    (h : wpList P ops Q rest (a.put o.dst v) w') : wpList P ops Q (o :: rest) a w := by
  subst hv
  unfold wpList
  rw [if_pos hgd]
  refine .inl ?_
  unfold Oper.wp execOp
  simp only [ho, Sem.run_bind, Result.andThen_ok, hrun]
  exact h
/-- a node with nothing but a look -/
def lkNd (q : Lk) : Nd := ⟨Mp.o, 0, false, false, Bx.o, q⟩
theorem build_lkNd (q : Lk) (A : Option Addr) (c : Nat) (w : World) : (Instr.build 68 #[(5, .agg (q.cs A c).toArray)]).run Try.prog w = .ok (.agg ((lkNd q).cs A c).toArray) w := by kernel_rfl
theorem field_lkNd (q : Lk) (A : Option Addr) (c : Nat) (w : World) : (Instr.field 68 (.agg ((lkNd q).cs A c).toArray) 5).run Try.prog w = .ok (.agg (q.cs A c).toArray) w := by kernel_rfl
def LkQ (q : Lk) (w : World) (e : Ending) (w' : World) : Prop := ∃ A9 cap, e = .returned (.agg (q.cs A9 cap).toArray) ∧ Pxs w' w.heap.size A9 q.l cap ∧ Below w.heap.size w w'
set_option maxHeartbeats 2000000 in
theorem copylook_any (q : Lk) (A : Option Addr) (c : Nat) (w : World) (hr : Row eW w A q.l) (hn : q.l.length ≤ 20000000) : Calls Try.prog 23 #[.agg (q.cs A c).toArray] w (LkQ q w) := by
  have HR := Lib.hid hr
  have HC := Lib.hid (fun w hr => ndcopy_any Mp.o 0 false false Bx.o q.k q.W q.H q.p q.iw q.ih A q.l c w hr hn)
  unfold NdCopyQ at HC
  unfold LkQ
  clear hr hn
  have HB0 : Hid (Below w.heap.size w ((w.alloc (.cells (q.cs A c).toArray 50)).alloc (.cells #[.int .i64 0, .int .i64 0, .int .i64 0, .int .u32 0, .int .i64 0, .int .i64 0, .slice none 0 0] 50))) := ((Below.refl _ _).alloc (Nat.le_refl _) _).alloc (by simp) _
  have HK0 : Hid (Blk ((w.alloc (.cells (q.cs A c).toArray 50)).alloc (.cells #[.int .i64 0, .int .i64 0, .int .i64 0, .int .u32 0, .int .i64 0, .int .i64 0, .slice none 0 0] 50)) w.heap.size (q.cs A c)) := (blk_new w (q.cs A c) _).alloc _
  have HKr0 : Hid (Blk ((w.alloc (.cells (q.cs A c).toArray 50)).alloc (.cells #[.int .i64 0, .int .i64 0, .int .i64 0, .int .u32 0, .int .i64 0, .int .i64 0, .slice none 0 0] 50)) (w.heap.size + 1) [.int .i64 0, .int .i64 0, .int .i64 0, .int .u32 0, .int .i64 0, .int .i64 0, .slice none 0 0]) := blk_at (w.alloc _) _ (by simp) [.int .i64 0, .int .i64 0, .int .i64 0, .int .u32 0, .int .i64 0, .int .i64 0, .slice none 0 0] _
  have HSZ : Hid (w.heap.size + 2 ≤ ((w.alloc (.cells (q.cs A c).toArray 50)).alloc (.cells #[.int .i64 0, .int .i64 0, .int .i64 0, .int .u32 0, .int .i64 0, .int .i64 0, .slice none 0 0] 50)).heap.size) := by simp [Hid]
  go_enter Try.func23, Try.ntmps23
  go_wp2_with (first | (with_reducible show wpList _ _ _ (Oper.mk _ (Op.load _ _) _ _ _ _ :: _) _ _; first | (refine wpl_take 50 _ rfl rfl _ 0 rfl _ HK0.out (q.cs A c) rfl _ Try.underlying50 rfl (by kernel_rfl) ?_)) | (with_reducible show wpList _ _ _ (Oper.mk _ (Op.build _ _) _ _ _ _ :: _) _ _; refine wpl_build _ _ rfl rfl (by simp [go_sem]) (build_lkNd q A c _) ?_))
  refine (HC.out _ (HR.out.below HB0.out)).mono ?_
  rintro e w1 ⟨A9, c9, rfl, hx, hb⟩
  have HX := Lib.hid hx
  have HB : Hid (Below w.heap.size w w1) := bel2 HB0.out hb
  have HKr := Lib.hid (HKr0.out.below' hb)
  generalize ((w.alloc (.cells (q.cs A c).toArray 50)).alloc (.cells #[.int .i64 0, .int .i64 0, .int .i64 0, .int .u32 0, .int .i64 0, .int .i64 0, .slice none 0 0] 50)) = wz at *
  clear hb hx HC HB0 HK0 HKr0
  rw [show ndV Mp.o 0 false false Bx.o q.k q.W q.H q.p q.iw q.ih A9 q.l.length c9 = .agg ((lkNd q).cs A9 c9).toArray from rfl]
  have qf := fun w => field_lkNd q A9 c9 w
  go_wp2_with (first | (with_reducible show wpList _ _ _ (Oper.mk _ (Op.store _ _ _) _ _ _ _ :: _) _ _; first | (refine wpl_stow 50 _ _ rfl rfl rfl _ 0 rfl (q.cs A9 c9) rfl ([.int .i64 0, .int .i64 0, .int .i64 0, .int .u32 0, .int .i64 0, .int .i64 0, .slice none 0 0]) HKr.out (q.cs A9 c9) rfl (Nat.le_of_ble_eq_true rfl) (by kernel_rfl) (Lk.one _ _ _) ?_; intro w3 HW3 HK3)))
  refine blk_ret rfl rfl HK3.out Try.underlying50 rfl (by kernel_rfl) ⟨A9, c9, rfl, ⟨HX.out.1.by_block fun b o e => ?_, fun b o e => ?_, HX.out.2.2⟩, HW3.out.below HB.out (by omega)⟩
  · have h1 : b ≠ w.heap.size + 1 := by have := HX.out.2.1 b o e; have := HSZ.out; omega
    exact HW3.out.far h1
  · have h1 : b ≠ w.heap.size + 1 := by have := HX.out.2.1 b o e; have := HSZ.out; omega
    exact ⟨by have := HX.out.2.1 b o e; have := HSZ.out; omega, fun j => (World.frozen?_of_block (HW3.out.far h1)).trans ((HX.out.2.1 b o e).2 j)⟩
theorem eqLk_iff (q r : Lk) : eqNd Mp.o 0 false false Bx.o Mp.o 0 false false Bx.o (eqLk q.k q.W q.H q.p q.iw q.ih q.l r.k r.W r.H r.p r.iw r.ih r.l) = true ↔ q = r := by
  obtain ⟨k1, W1, H1, p1, iw1, ih1, l1⟩ := q
  obtain ⟨k2, W2, H2, p2, iw2, ih2, l2⟩ := r
  simp only [eqNd, eqLk, eqB, Bool.and_eq_true, beq_iff_eq, decide_eq_true_eq, Lk.mk.injEq]
  constructor
  · rintro ⟨-, -, -, -, -, h1, h2, h3, h4, h5, h6, h7⟩
    exact ⟨h1, h2, h3, by omega, h5, h6, h7⟩
  · rintro ⟨rfl, rfl, rfl, rfl, rfl, rfl, rfl⟩
    simp
set_option maxHeartbeats 2000000 in
theorem samelook_any (q r : Lk) (A B : Option Addr) (c d : Nat) (w : World) (h1 : Row eW w A q.l) (h2 : Row eW w B r.l) (n1 : q.l.length ≤ maxLen) (n2 : r.l.length ≤ maxLen) :
    Calls Try.prog 26 #[.agg (q.cs A c).toArray, .agg (r.cs B d).toArray] w fun e w' => ∃ b : Bool, e = .returned (.bool b) ∧ (b = true ↔ q = r) ∧ Below w.heap.size w w' := by
  have HR := Lib.hid (And.intro h1 h2)
  have HC := Lib.hid (fun w h1 h2 => ndequal_any Mp.o 0 false false Bx.o q.k q.W q.H q.p q.iw q.ih A q.l c Mp.o 0 false false Bx.o r.k r.W r.H r.p r.iw r.ih B r.l d n1 n2 w h1 h2)
  have HE := Lib.hid (eqLk_iff q r)
  generalize eqNd Mp.o 0 false false Bx.o Mp.o 0 false false Bx.o (eqLk q.k q.W q.H q.p q.iw q.ih q.l r.k r.W r.H r.p r.iw r.ih r.l) = x at *
  clear h1 h2 n1 n2
  have HB0 : Hid (Below w.heap.size w ((w.alloc (.cells (q.cs A c).toArray 50)).alloc (.cells (r.cs B d).toArray 50))) := ((Below.refl _ _).alloc (Nat.le_refl _) _).alloc (by simp) _
  have HK0 : Hid (Blk ((w.alloc (.cells (q.cs A c).toArray 50)).alloc (.cells (r.cs B d).toArray 50)) w.heap.size (q.cs A c)) := (blk_new w (q.cs A c) _).alloc _
  have HK1 : Hid (Blk ((w.alloc (.cells (q.cs A c).toArray 50)).alloc (.cells (r.cs B d).toArray 50)) (w.heap.size + 1) (r.cs B d)) := blk_at (w.alloc _) _ (by simp) (r.cs B d) _
  go_enter Try.func26, Try.ntmps26
  go_wp2_with (first | (with_reducible show wpList _ _ _ (Oper.mk _ (Op.load _ _) _ _ _ _ :: _) _ _; first | (refine wpl_take 50 _ rfl rfl _ 0 rfl _ HK0.out (q.cs A c) rfl _ Try.underlying50 rfl (by kernel_rfl) ?_) | (refine wpl_take 50 _ rfl rfl _ 0 rfl _ HK1.out (r.cs B d) rfl _ Try.underlying50 rfl (by kernel_rfl) ?_)) | ((with_reducible show wpList _ _ _ (Oper.mk (some 6) (Op.build _ _) _ _ _ _ :: _) _ _); refine wpl_build _ _ rfl rfl (by simp [go_sem]) (build_lkNd q A c _) ?_) | ((with_reducible show wpList _ _ _ (Oper.mk (some 8) (Op.build _ _) _ _ _ _ :: _) _ _); refine wpl_build _ _ rfl rfl (by simp [go_sem]) (build_lkNd r B d _) ?_))
  refine (HC.out _ (HR.out.1.below HB0.out) (HR.out.2.below HB0.out)).mono ?_
  rintro e w1 ⟨rfl, hb⟩
  have HB : Hid (Below w.heap.size w w1) := bel2 HB0.out hb
  generalize ((w.alloc (.cells (q.cs A c).toArray 50)).alloc (.cells (r.cs B d).toArray 50)) = wz at *
  clear hb HC HB0 HK0 HK1
  go_wp2_with (fail)
  go_ret
  exact ⟨_, rfl, HE.out, HB.out⟩
end Go.Proofs.Ytgadheamldianaa
