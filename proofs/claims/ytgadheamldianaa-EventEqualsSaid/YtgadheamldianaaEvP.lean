/-
  Layer 19: ops and events held against each other, by the program.
-/
import Derived.Test.YtgadheamldianaaEvO
namespace Go.Proofs.Ytgadheamldianaa
open Go.RowKit pxm imm

theorem mp_eqc (r s : Mp) (w : World) : (binOp .eql 41 (.agg r.cs.toArray) (.agg s.cs.toArray)).run Try.prog w = .ok (.bool (decide (r = s))) w := mp_eq r s w
theorem bx_eqc (r s : Bx) (w : World) : (binOp .eql 43 (.agg r.cs4.toArray) (.agg s.cs4.toArray)).run Try.prog w = .ok (.bool (decide (r = s))) w := bx_eq r s w
theorem op_ext {a b : Op9} (h1 : a.k = b.k) (h2 : a.i = b.i) (h3 : a.p = b.p) (h4 : a.n = b.n) (h5 : a.m = b.m) (h6 : a.r = b.r) (h7 : a.on = b.on) (h8 : a.N = b.N) (h9 : a.lk = b.lk) : a = b := by
  obtain ⟨a1, a2, a3, a4, a5, a6, a7, a8, a9⟩ := a
  obtain ⟨b1, b2, b3, b4, b5, b6, b7, b8, b9⟩ := b
  simp only at h1 h2 h3 h4 h5 h6 h7 h8 h9
  subst h1 h2 h3 h4 h5 h6 h7 h8 h9
  rfl
def SameQ (p : Prop) (w : World) (e : Ending) (w' : World) : Prop := ∃ b : Bool, e = .returned (.bool b) ∧ (b = true ↔ p) ∧ Below w.heap.size w w'
theorem SameQ.of {p : Prop} {w w' : World} {b : Bool} (h : b = true ↔ p) (hb : Below w.heap.size w w') : SameQ p w (.returned (.bool b)) w' := ⟨b, rfl, h, hb⟩
set_option maxHeartbeats 4000000 in
set_option maxRecDepth 100000 in
theorem sameop_any (o1 o2 : Op9) (A1 A2 : Option Addr) (c1 c2 : Nat) (w : World) (h1 : Row eW w A1 o1.lk.l) (h2 : Row eW w A2 o2.lk.l) (n1 : o1.lk.l.length ≤ maxLen) (n2 : o2.lk.l.length ≤ maxLen) :
    Calls Try.prog 22 #[.agg (o1.cs A1 c1).toArray, .agg (o2.cs A2 c2).toArray] w (SameQ (o1 = o2) w) := by
  have HR := Lib.hid (And.intro h1 h2)
  have HE := Lib.hid (fun w h1 h2 => samelook_any o1.lk o2.lk A1 A2 c1 c2 w h1 h2 n1 n2)
  have q1 := fun w => mp_eqc o1.m o2.m w
  have q2 := fun w => bx_eqc o1.r o2.r w
  clear h1 h2 n1 n2
  have HB : Hid (Below w.heap.size w ((w.alloc (.cells (o1.cs A1 c1).toArray 52)).alloc (.cells (o2.cs A2 c2).toArray 52))) := ((Below.refl _ _).alloc (Nat.le_refl _) _).alloc (by simp) _
  have HK1 : Hid (Blk ((w.alloc (.cells (o1.cs A1 c1).toArray 52)).alloc (.cells (o2.cs A2 c2).toArray 52)) w.heap.size (o1.cs A1 c1)) := (blk_new w (o1.cs A1 c1) _).alloc _
  have HK2 : Hid (Blk ((w.alloc (.cells (o1.cs A1 c1).toArray 52)).alloc (.cells (o2.cs A2 c2).toArray 52)) (w.heap.size + 1) (o2.cs A2 c2)) := blk_at (w.alloc _) _ (by simp) (o2.cs A2 c2) _
  go_enter Try.func22, Try.ntmps22
  go_upto_region 1 with (fail)
  generalize ((w.alloc (.cells (o1.cs A1 c1).toArray 52)).alloc (.cells (o2.cs A2 c2).toArray 52)) = wz at *
  have x0 : wz.cell? ⟨w.heap.size, 0, none⟩ = some (.int .i64 o1.k) := HK1.out.cell 0
  have y0 : wz.cell? ⟨w.heap.size + 1, 0, none⟩ = some (.int .i64 o2.k) := HK2.out.cell 0
  have x1 : wz.cell? ⟨w.heap.size, 1, none⟩ = some (.int .i64 o1.i) := HK1.out.cell 1
  have y1 : wz.cell? ⟨w.heap.size + 1, 1, none⟩ = some (.int .i64 o2.i) := HK2.out.cell 1
  have x2 : wz.cell? ⟨w.heap.size, 2, none⟩ = some (.int .i64 o1.p) := HK1.out.cell 2
  have y2 : wz.cell? ⟨w.heap.size + 1, 2, none⟩ = some (.int .i64 o2.p) := HK2.out.cell 2
  have x3 : wz.cell? ⟨w.heap.size, 3, none⟩ = some (.int .i64 o1.n) := HK1.out.cell 3
  have y3 : wz.cell? ⟨w.heap.size + 1, 3, none⟩ = some (.int .i64 o2.n) := HK2.out.cell 3
  have x14 : wz.cell? ⟨w.heap.size, 14, none⟩ = some (.bool o1.on) := HK1.out.cell 14
  have y14 : wz.cell? ⟨w.heap.size + 1, 14, none⟩ = some (.bool o2.on) := HK2.out.cell 14
  have x15 : wz.cell? ⟨w.heap.size, 15, none⟩ = some (.int .i64 o1.N) := HK1.out.cell 15
  have y15 : wz.cell? ⟨w.heap.size + 1, 15, none⟩ = some (.int .i64 o2.N) := HK2.out.cell 15
  have i1 : w.heap.size < wz.heap.size := HK1.out.inside
  have i2 : w.heap.size + 1 < wz.heap.size := HK2.out.inside
  by_cases ek : ¬ o1.k = o2.k
  · have tk : (o1.k == o2.k) = false := by simpa using ek
    have HNO : Hid (false = true ↔ o1 = o2) := ⟨(fun h => nomatch h), fun h => absurd (by rw [h]) ek⟩
    clear ek
    go_wp2_with (first | (with_reducible show wpList _ _ _ (Oper.mk _ (Op.load _ _) _ _ _ _ :: _) _ _; first | (refine wpl_take 41 _ rfl rfl _ 4 rfl _ HK1.out (o1.m.cs) rfl _ Try.underlying41 rfl (by kernel_rfl) ?_) | (refine wpl_take 41 _ rfl rfl _ 4 rfl _ HK2.out (o2.m.cs) rfl _ Try.underlying41 rfl (by kernel_rfl) ?_) | (refine wpl_take 43 _ rfl rfl _ 10 rfl _ HK1.out (o1.r.cs4) rfl _ Try.underlying43 rfl (by kernel_rfl) ?_) | (refine wpl_take 43 _ rfl rfl _ 10 rfl _ HK2.out (o2.r.cs4) rfl _ Try.underlying43 rfl (by kernel_rfl) ?_) | (refine wpl_take 50 _ rfl rfl _ 16 rfl _ HK1.out (o1.lk.cs A1 c1) rfl _ Try.underlying50 rfl (by kernel_rfl) ?_) | (refine wpl_take 50 _ rfl rfl _ 16 rfl _ HK2.out (o2.lk.cs A2 c2) rfl _ Try.underlying50 rfl (by kernel_rfl) ?_)))
    go_ret
    exact SameQ.of HNO.out HB.out
  have Ek := Lib.hid (Decidable.not_not.1 ek)
  have tk : (o1.k == o2.k) = true := by simpa using Ek.out
  clear ek
  by_cases ei : ¬ o1.i = o2.i
  · have ti : (o1.i == o2.i) = false := by simpa using ei
    have HNO : Hid (false = true ↔ o1 = o2) := ⟨(fun h => nomatch h), fun h => absurd (by rw [h]) ei⟩
    clear Ek ei
    go_wp2_with (first | (with_reducible show wpList _ _ _ (Oper.mk _ (Op.load _ _) _ _ _ _ :: _) _ _; first | (refine wpl_take 41 _ rfl rfl _ 4 rfl _ HK1.out (o1.m.cs) rfl _ Try.underlying41 rfl (by kernel_rfl) ?_) | (refine wpl_take 41 _ rfl rfl _ 4 rfl _ HK2.out (o2.m.cs) rfl _ Try.underlying41 rfl (by kernel_rfl) ?_) | (refine wpl_take 43 _ rfl rfl _ 10 rfl _ HK1.out (o1.r.cs4) rfl _ Try.underlying43 rfl (by kernel_rfl) ?_) | (refine wpl_take 43 _ rfl rfl _ 10 rfl _ HK2.out (o2.r.cs4) rfl _ Try.underlying43 rfl (by kernel_rfl) ?_) | (refine wpl_take 50 _ rfl rfl _ 16 rfl _ HK1.out (o1.lk.cs A1 c1) rfl _ Try.underlying50 rfl (by kernel_rfl) ?_) | (refine wpl_take 50 _ rfl rfl _ 16 rfl _ HK2.out (o2.lk.cs A2 c2) rfl _ Try.underlying50 rfl (by kernel_rfl) ?_)))
    go_ret
    exact SameQ.of HNO.out HB.out
  have Ei := Lib.hid (Decidable.not_not.1 ei)
  have ti : (o1.i == o2.i) = true := by simpa using Ei.out
  clear ei
  by_cases ep : ¬ o1.p = o2.p
  · have tp : (o1.p == o2.p) = false := by simpa using ep
    have HNO : Hid (false = true ↔ o1 = o2) := ⟨(fun h => nomatch h), fun h => absurd (by rw [h]) ep⟩
    clear Ek Ei ep
    go_wp2_with (first | (with_reducible show wpList _ _ _ (Oper.mk _ (Op.load _ _) _ _ _ _ :: _) _ _; first | (refine wpl_take 41 _ rfl rfl _ 4 rfl _ HK1.out (o1.m.cs) rfl _ Try.underlying41 rfl (by kernel_rfl) ?_) | (refine wpl_take 41 _ rfl rfl _ 4 rfl _ HK2.out (o2.m.cs) rfl _ Try.underlying41 rfl (by kernel_rfl) ?_) | (refine wpl_take 43 _ rfl rfl _ 10 rfl _ HK1.out (o1.r.cs4) rfl _ Try.underlying43 rfl (by kernel_rfl) ?_) | (refine wpl_take 43 _ rfl rfl _ 10 rfl _ HK2.out (o2.r.cs4) rfl _ Try.underlying43 rfl (by kernel_rfl) ?_) | (refine wpl_take 50 _ rfl rfl _ 16 rfl _ HK1.out (o1.lk.cs A1 c1) rfl _ Try.underlying50 rfl (by kernel_rfl) ?_) | (refine wpl_take 50 _ rfl rfl _ 16 rfl _ HK2.out (o2.lk.cs A2 c2) rfl _ Try.underlying50 rfl (by kernel_rfl) ?_)))
    go_ret
    exact SameQ.of HNO.out HB.out
  have Ep := Lib.hid (Decidable.not_not.1 ep)
  have tp : (o1.p == o2.p) = true := by simpa using Ep.out
  clear ep
  by_cases en : ¬ o1.n = o2.n
  · have tn : (o1.n == o2.n) = false := by simpa using en
    have HNO : Hid (false = true ↔ o1 = o2) := ⟨(fun h => nomatch h), fun h => absurd (by rw [h]) en⟩
    clear Ek Ei Ep en
    go_wp2_with (first | (with_reducible show wpList _ _ _ (Oper.mk _ (Op.load _ _) _ _ _ _ :: _) _ _; first | (refine wpl_take 41 _ rfl rfl _ 4 rfl _ HK1.out (o1.m.cs) rfl _ Try.underlying41 rfl (by kernel_rfl) ?_) | (refine wpl_take 41 _ rfl rfl _ 4 rfl _ HK2.out (o2.m.cs) rfl _ Try.underlying41 rfl (by kernel_rfl) ?_) | (refine wpl_take 43 _ rfl rfl _ 10 rfl _ HK1.out (o1.r.cs4) rfl _ Try.underlying43 rfl (by kernel_rfl) ?_) | (refine wpl_take 43 _ rfl rfl _ 10 rfl _ HK2.out (o2.r.cs4) rfl _ Try.underlying43 rfl (by kernel_rfl) ?_) | (refine wpl_take 50 _ rfl rfl _ 16 rfl _ HK1.out (o1.lk.cs A1 c1) rfl _ Try.underlying50 rfl (by kernel_rfl) ?_) | (refine wpl_take 50 _ rfl rfl _ 16 rfl _ HK2.out (o2.lk.cs A2 c2) rfl _ Try.underlying50 rfl (by kernel_rfl) ?_)))
    go_ret
    exact SameQ.of HNO.out HB.out
  have En := Lib.hid (Decidable.not_not.1 en)
  have tn : (o1.n == o2.n) = true := by simpa using En.out
  clear en
  by_cases em : ¬ o1.m = o2.m
  · have tm : (decide (o1.m = o2.m)) = false := by simpa using em
    have HNO : Hid (false = true ↔ o1 = o2) := ⟨(fun h => nomatch h), fun h => absurd (by rw [h]) em⟩
    clear Ek Ei Ep En em
    go_wp2_with (first | (with_reducible show wpList _ _ _ (Oper.mk _ (Op.load _ _) _ _ _ _ :: _) _ _; first | (refine wpl_take 41 _ rfl rfl _ 4 rfl _ HK1.out (o1.m.cs) rfl _ Try.underlying41 rfl (by kernel_rfl) ?_) | (refine wpl_take 41 _ rfl rfl _ 4 rfl _ HK2.out (o2.m.cs) rfl _ Try.underlying41 rfl (by kernel_rfl) ?_) | (refine wpl_take 43 _ rfl rfl _ 10 rfl _ HK1.out (o1.r.cs4) rfl _ Try.underlying43 rfl (by kernel_rfl) ?_) | (refine wpl_take 43 _ rfl rfl _ 10 rfl _ HK2.out (o2.r.cs4) rfl _ Try.underlying43 rfl (by kernel_rfl) ?_) | (refine wpl_take 50 _ rfl rfl _ 16 rfl _ HK1.out (o1.lk.cs A1 c1) rfl _ Try.underlying50 rfl (by kernel_rfl) ?_) | (refine wpl_take 50 _ rfl rfl _ 16 rfl _ HK2.out (o2.lk.cs A2 c2) rfl _ Try.underlying50 rfl (by kernel_rfl) ?_)))
    go_ret
    exact SameQ.of HNO.out HB.out
  have Em := Lib.hid (Decidable.not_not.1 em)
  have tm : (decide (o1.m = o2.m)) = true := by simpa using Em.out
  clear em
  by_cases er : ¬ o1.r = o2.r
  · have tr : (decide (o1.r = o2.r)) = false := by simpa using er
    have HNO : Hid (false = true ↔ o1 = o2) := ⟨(fun h => nomatch h), fun h => absurd (by rw [h]) er⟩
    clear Ek Ei Ep En Em er
    go_wp2_with (first | (with_reducible show wpList _ _ _ (Oper.mk _ (Op.load _ _) _ _ _ _ :: _) _ _; first | (refine wpl_take 41 _ rfl rfl _ 4 rfl _ HK1.out (o1.m.cs) rfl _ Try.underlying41 rfl (by kernel_rfl) ?_) | (refine wpl_take 41 _ rfl rfl _ 4 rfl _ HK2.out (o2.m.cs) rfl _ Try.underlying41 rfl (by kernel_rfl) ?_) | (refine wpl_take 43 _ rfl rfl _ 10 rfl _ HK1.out (o1.r.cs4) rfl _ Try.underlying43 rfl (by kernel_rfl) ?_) | (refine wpl_take 43 _ rfl rfl _ 10 rfl _ HK2.out (o2.r.cs4) rfl _ Try.underlying43 rfl (by kernel_rfl) ?_) | (refine wpl_take 50 _ rfl rfl _ 16 rfl _ HK1.out (o1.lk.cs A1 c1) rfl _ Try.underlying50 rfl (by kernel_rfl) ?_) | (refine wpl_take 50 _ rfl rfl _ 16 rfl _ HK2.out (o2.lk.cs A2 c2) rfl _ Try.underlying50 rfl (by kernel_rfl) ?_)))
    go_ret
    exact SameQ.of HNO.out HB.out
  have Er := Lib.hid (Decidable.not_not.1 er)
  have tr : (decide (o1.r = o2.r)) = true := by simpa using Er.out
  clear er
  by_cases eon : ¬ o1.on = o2.on
  · have ton : (o1.on == o2.on) = false := by simpa using eon
    have HNO : Hid (false = true ↔ o1 = o2) := ⟨(fun h => nomatch h), fun h => absurd (by rw [h]) eon⟩
    clear Ek Ei Ep En Em Er eon
    go_wp2_with (first | (with_reducible show wpList _ _ _ (Oper.mk _ (Op.load _ _) _ _ _ _ :: _) _ _; first | (refine wpl_take 41 _ rfl rfl _ 4 rfl _ HK1.out (o1.m.cs) rfl _ Try.underlying41 rfl (by kernel_rfl) ?_) | (refine wpl_take 41 _ rfl rfl _ 4 rfl _ HK2.out (o2.m.cs) rfl _ Try.underlying41 rfl (by kernel_rfl) ?_) | (refine wpl_take 43 _ rfl rfl _ 10 rfl _ HK1.out (o1.r.cs4) rfl _ Try.underlying43 rfl (by kernel_rfl) ?_) | (refine wpl_take 43 _ rfl rfl _ 10 rfl _ HK2.out (o2.r.cs4) rfl _ Try.underlying43 rfl (by kernel_rfl) ?_) | (refine wpl_take 50 _ rfl rfl _ 16 rfl _ HK1.out (o1.lk.cs A1 c1) rfl _ Try.underlying50 rfl (by kernel_rfl) ?_) | (refine wpl_take 50 _ rfl rfl _ 16 rfl _ HK2.out (o2.lk.cs A2 c2) rfl _ Try.underlying50 rfl (by kernel_rfl) ?_)))
    go_ret
    exact SameQ.of HNO.out HB.out
  have Eon := Lib.hid (Decidable.not_not.1 eon)
  have ton : (o1.on == o2.on) = true := by simpa using Eon.out
  clear eon
  by_cases eN : ¬ o1.N = o2.N
  · have tN : (o1.N == o2.N) = false := by simpa using eN
    have HNO : Hid (false = true ↔ o1 = o2) := ⟨(fun h => nomatch h), fun h => absurd (by rw [h]) eN⟩
    clear Ek Ei Ep En Em Er Eon eN
    go_wp2_with (first | (with_reducible show wpList _ _ _ (Oper.mk _ (Op.load _ _) _ _ _ _ :: _) _ _; first | (refine wpl_take 41 _ rfl rfl _ 4 rfl _ HK1.out (o1.m.cs) rfl _ Try.underlying41 rfl (by kernel_rfl) ?_) | (refine wpl_take 41 _ rfl rfl _ 4 rfl _ HK2.out (o2.m.cs) rfl _ Try.underlying41 rfl (by kernel_rfl) ?_) | (refine wpl_take 43 _ rfl rfl _ 10 rfl _ HK1.out (o1.r.cs4) rfl _ Try.underlying43 rfl (by kernel_rfl) ?_) | (refine wpl_take 43 _ rfl rfl _ 10 rfl _ HK2.out (o2.r.cs4) rfl _ Try.underlying43 rfl (by kernel_rfl) ?_) | (refine wpl_take 50 _ rfl rfl _ 16 rfl _ HK1.out (o1.lk.cs A1 c1) rfl _ Try.underlying50 rfl (by kernel_rfl) ?_) | (refine wpl_take 50 _ rfl rfl _ 16 rfl _ HK2.out (o2.lk.cs A2 c2) rfl _ Try.underlying50 rfl (by kernel_rfl) ?_)))
    go_ret
    exact SameQ.of HNO.out HB.out
  have EN := Lib.hid (Decidable.not_not.1 eN)
  have tN : (o1.N == o2.N) = true := by simpa using EN.out
  clear eN
  have HALL : Hid (o1 = o2 ↔ o1.lk = o2.lk) := ⟨fun h => by rw [h], fun h => op_ext Ek.out Ei.out Ep.out En.out Em.out Er.out Eon.out EN.out h⟩
  clear Ek Ei Ep En Em Er Eon EN
  go_wp2_with (first | (with_reducible show wpList _ _ _ (Oper.mk _ (Op.load _ _) _ _ _ _ :: _) _ _; first | (refine wpl_take 41 _ rfl rfl _ 4 rfl _ HK1.out (o1.m.cs) rfl _ Try.underlying41 rfl (by kernel_rfl) ?_) | (refine wpl_take 41 _ rfl rfl _ 4 rfl _ HK2.out (o2.m.cs) rfl _ Try.underlying41 rfl (by kernel_rfl) ?_) | (refine wpl_take 43 _ rfl rfl _ 10 rfl _ HK1.out (o1.r.cs4) rfl _ Try.underlying43 rfl (by kernel_rfl) ?_) | (refine wpl_take 43 _ rfl rfl _ 10 rfl _ HK2.out (o2.r.cs4) rfl _ Try.underlying43 rfl (by kernel_rfl) ?_) | (refine wpl_take 50 _ rfl rfl _ 16 rfl _ HK1.out (o1.lk.cs A1 c1) rfl _ Try.underlying50 rfl (by kernel_rfl) ?_) | (refine wpl_take 50 _ rfl rfl _ 16 rfl _ HK2.out (o2.lk.cs A2 c2) rfl _ Try.underlying50 rfl (by kernel_rfl) ?_)))
  refine (HE.out _ (HR.out.1.below HB.out) (HR.out.2.below HB.out)).mono ?_
  rintro e w2 ⟨b, rfl, hi, hb⟩
  have HB2 : Hid (Below w.heap.size w w2) := bel2 HB.out hb
  have HI : Hid (b = true ↔ o1 = o2) := hi.trans HALL.out.symm
  clear hb hi HE HALL
  go_wp2_with (fail)
  go_ret
  exact SameQ.of HI.out HB2.out
end Go.Proofs.Ytgadheamldianaa
