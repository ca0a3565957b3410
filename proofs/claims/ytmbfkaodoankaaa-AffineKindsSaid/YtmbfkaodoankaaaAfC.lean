/-
  Layer 8: the document's own Take; one map behind another.
-/
import Derived.Test.YtmbfkaodoankaaaAfB
namespace Go.Proofs.Ytmbfkaodoankaaa
open Go.RowKit

set_option maxHeartbeats 1000000 in
theorem mp_dtake (m : Mp) (p : Pt) (w : World) : Calls Try.prog 13 #[m.v, .int .i64 p.x, .int .i64 p.y] w fun e w' => e = .returned (.tuple #[.int .i64 (m.take p).x, .int .i64 (m.take p).y, .bool (m.takes p)]) ∧ Below w.heap.size w w' := by
  obtain ⟨a, b, c, d, e, f⟩ := m
  obtain ⟨x, y⟩ := p
  have HT : Hid (Mp.takes ⟨a, b, c, d, e, f⟩ ⟨x, y⟩ = (dotB [a, x, c, y, e] && dotB [b, x, d, y, f])) := rfl
  have HV : Hid (Mp.take ⟨a, b, c, d, e, f⟩ ⟨x, y⟩ = if (dotB [a, x, c, y, e] && dotB [b, x, d, y, f]) = true then ⟨dotV [a, x, c, y, e], dotV [b, x, d, y, f]⟩ else ⟨0, 0⟩) := rfl
  generalize Mp.takes ⟨a, b, c, d, e, f⟩ ⟨x, y⟩ = rt at *
  generalize Mp.take ⟨a, b, c, d, e, f⟩ ⟨x, y⟩ = rv at *
  obtain ⟨rx, ry⟩ := rv
  have HX := Lib.hid (fun w g (h : g = w.heap.size) => ddot5 a x c y e w h)
  have HY := Lib.hid (fun w g (h : g = w.heap.size) => ddot5 b x d y f w h)
  unfold Mp.v
  simp only
  generalize dotB [a, x, c, y, e] = xb at *
  generalize dotV [a, x, c, y, e] = xv at *
  generalize dotB [b, x, d, y, f] = yb at *
  generalize dotV [b, x, d, y, f] = yv at *
  go_enter Try.func13, Try.ntmps13
  go_wp2_with (fail)
  refine (HX.out _ _ (by simp)).mono ?_
  rintro e w1 ⟨rfl, hb⟩
  have HB1 : Hid (Below w.heap.size w w1) := ((Below.refl _ _).alloc (Nat.le_refl _) _).trans (hb.mono (by simp))
  have bm : Blk w1 w.heap.size [.int .i64 a, .int .i64 b, .int .i64 c, .int .i64 d, .int .i64 e, .int .i64 f] := (blk_new w [.int .i64 a, .int .i64 b, .int .i64 c, .int .i64 d, .int .i64 e, .int .i64 f] _).below hb (by simp)
  clear hb
  obtain ⟨⟨-, m1, -, m3, -, m5⟩, -, mi⟩ := bm.c6
  clear bm
  go_wp2_with (fail)
  refine (HY.out _ _ rfl).mono ?_
  rintro e w2 ⟨rfl, hb⟩
  have HB2 : Hid (Below w.heap.size w w2) := HB1.out.trans (hb.mono HB1.out.size)
  clear hb m1 m3 m5 mi HB1
  cases xb with
  | true =>
    cases yb with
    | true =>
      have hv := HV.out.trans (if_pos rfl)
      injection hv with e0 e1
      subst e0; subst e1
      obtain rfl := HT.out
      clear HV HT
      go_wp2_with (fail)
      go_ret3
      exact ⟨rfl, HB2.out⟩
    | false =>
      have hv := HV.out.trans (if_neg (by decide))
      injection hv with e0 e1
      subst e0; subst e1
      obtain rfl := HT.out
      clear HV HT
      go_wp2_with (fail)
      go_ret3
      exact ⟨rfl, HB2.out⟩
  | false =>
    have hv := HV.out.trans (if_neg (by simp))
    injection hv with e0 e1
    subst e0; subst e1
    obtain rfl : rt = false := by rw [HT.out]; rfl
    clear HV HT
    go_wp2_with (fail)
    go_ret3
    exact ⟨rfl, HB2.out⟩

/-! ### One map behind another -/
def Mp.still (n : Mp) : Mp := ⟨n.a, n.b, n.c, n.d, 0, 0⟩
def Mp.thenB (m n : Mp) : Bool := (n.still.takes ⟨m.a, m.b⟩ && n.still.takes ⟨m.c, m.d⟩) && n.takes ⟨m.e, m.f⟩
def Mp.then1 (m n : Mp) : Mp := ⟨(n.still.take ⟨m.a, m.b⟩).x, (n.still.take ⟨m.a, m.b⟩).y, (n.still.take ⟨m.c, m.d⟩).x, (n.still.take ⟨m.c, m.d⟩).y, (n.take ⟨m.e, m.f⟩).x, (n.take ⟨m.e, m.f⟩).y⟩
set_option maxHeartbeats 2000000 in
theorem mp_then (m n : Mp) (w : World) : Calls Try.prog 28 #[m.v, n.v] w fun e w' => e = .returned (.tuple #[(m.then1 n).v, .bool (m.thenB n)]) ∧ Below w.heap.size w w' := by
  obtain ⟨a, b, c, d, e, f⟩ := m
  obtain ⟨a', b', c', d', e', f'⟩ := n
  have H1 := Lib.hid (fun w => mp_take ⟨a', b', c', d', 0, 0⟩ ⟨a, b⟩ w)
  have H2 := Lib.hid (fun w => mp_take ⟨a', b', c', d', 0, 0⟩ ⟨c, d⟩ w)
  have H3 := Lib.hid (fun w => mp_take ⟨a', b', c', d', e', f'⟩ ⟨e, f⟩ w)
  unfold Mp.thenB Mp.then1 Mp.still
  simp only
  generalize Mp.take ⟨a', b', c', d', 0, 0⟩ ⟨a, b⟩ = p1 at *
  generalize Mp.take ⟨a', b', c', d', 0, 0⟩ ⟨c, d⟩ = p2 at *
  generalize Mp.take ⟨a', b', c', d', e', f'⟩ ⟨e, f⟩ = p3 at *
  generalize Mp.takes ⟨a', b', c', d', 0, 0⟩ ⟨a, b⟩ = t1 at *
  generalize Mp.takes ⟨a', b', c', d', 0, 0⟩ ⟨c, d⟩ = t2 at *
  generalize Mp.takes ⟨a', b', c', d', e', f'⟩ ⟨e, f⟩ = t3 at *
  obtain ⟨x1, y1⟩ := p1
  obtain ⟨x2, y2⟩ := p2
  obtain ⟨x3, y3⟩ := p3
  unfold Mp.v Pt.v at *
  simp only at H1 H2 H3 ⊢
  go_enter Try.func28, Try.ntmps28
  go_wp2_with (fail)
  have B0 : Hid (Below w.heap.size w ((((w.alloc (.cells #[.int .i64 a, .int .i64 b, .int .i64 c, .int .i64 d, .int .i64 e, .int .i64 f] 23)).alloc (.cells #[.int .i64 a', .int .i64 b', .int .i64 c', .int .i64 d', .int .i64 e', .int .i64 f'] 23)).alloc (.cells #[.int .i64 0, .int .i64 0, .int .i64 0, .int .i64 0, .int .i64 0, .int .i64 0] 23)).alloc (.cells #[.int .i64 a', .int .i64 b', .int .i64 c', .int .i64 d', .int .i64 0, .int .i64 0] 23))) :=
    ((((Below.refl _ _).alloc (Nat.le_refl _) _).alloc (by simp) _).alloc (by simp; omega) _).alloc (by simp; omega) _
  have bm0 : Blk ((((w.alloc (.cells #[.int .i64 a, .int .i64 b, .int .i64 c, .int .i64 d, .int .i64 e, .int .i64 f] 23)).alloc (.cells #[.int .i64 a', .int .i64 b', .int .i64 c', .int .i64 d', .int .i64 e', .int .i64 f'] 23)).alloc (.cells #[.int .i64 0, .int .i64 0, .int .i64 0, .int .i64 0, .int .i64 0, .int .i64 0] 23)).alloc (.cells #[.int .i64 a', .int .i64 b', .int .i64 c', .int .i64 d', .int .i64 0, .int .i64 0] 23)) w.heap.size [.int .i64 a, .int .i64 b, .int .i64 c, .int .i64 d, .int .i64 e, .int .i64 f] :=
    (((blk_new w [.int .i64 a, .int .i64 b, .int .i64 c, .int .i64 d, .int .i64 e, .int .i64 f] _).alloc _).alloc _).alloc _
  have bn0 : Blk ((((w.alloc (.cells #[.int .i64 a, .int .i64 b, .int .i64 c, .int .i64 d, .int .i64 e, .int .i64 f] 23)).alloc (.cells #[.int .i64 a', .int .i64 b', .int .i64 c', .int .i64 d', .int .i64 e', .int .i64 f'] 23)).alloc (.cells #[.int .i64 0, .int .i64 0, .int .i64 0, .int .i64 0, .int .i64 0, .int .i64 0] 23)).alloc (.cells #[.int .i64 a', .int .i64 b', .int .i64 c', .int .i64 d', .int .i64 0, .int .i64 0] 23)) (w.heap.size + 1) [.int .i64 a', .int .i64 b', .int .i64 c', .int .i64 d', .int .i64 e', .int .i64 f'] :=
    ((blk_at (w.alloc _) _ (by simp) [.int .i64 a', .int .i64 b', .int .i64 c', .int .i64 d', .int .i64 e', .int .i64 f'] _).alloc _).alloc _
  have br0 : Blk ((((w.alloc (.cells #[.int .i64 a, .int .i64 b, .int .i64 c, .int .i64 d, .int .i64 e, .int .i64 f] 23)).alloc (.cells #[.int .i64 a', .int .i64 b', .int .i64 c', .int .i64 d', .int .i64 e', .int .i64 f'] 23)).alloc (.cells #[.int .i64 0, .int .i64 0, .int .i64 0, .int .i64 0, .int .i64 0, .int .i64 0] 23)).alloc (.cells #[.int .i64 a', .int .i64 b', .int .i64 c', .int .i64 d', .int .i64 0, .int .i64 0] 23)) (w.heap.size + 1 + 1) [.int .i64 0, .int .i64 0, .int .i64 0, .int .i64 0, .int .i64 0, .int .i64 0] :=
    (blk_at ((w.alloc _).alloc _) _ (by simp) [.int .i64 0, .int .i64 0, .int .i64 0, .int .i64 0, .int .i64 0, .int .i64 0] _).alloc _
  have bs0 : Blk ((((w.alloc (.cells #[.int .i64 a, .int .i64 b, .int .i64 c, .int .i64 d, .int .i64 e, .int .i64 f] 23)).alloc (.cells #[.int .i64 a', .int .i64 b', .int .i64 c', .int .i64 d', .int .i64 e', .int .i64 f'] 23)).alloc (.cells #[.int .i64 0, .int .i64 0, .int .i64 0, .int .i64 0, .int .i64 0, .int .i64 0] 23)).alloc (.cells #[.int .i64 a', .int .i64 b', .int .i64 c', .int .i64 d', .int .i64 0, .int .i64 0] 23)) (w.heap.size + 1 + 1 + 1) [.int .i64 a', .int .i64 b', .int .i64 c', .int .i64 d', .int .i64 0, .int .i64 0] :=
    blk_at (((w.alloc _).alloc _).alloc _) _ (by simp) [.int .i64 a', .int .i64 b', .int .i64 c', .int .i64 d', .int .i64 0, .int .i64 0] _
  generalize ((((w.alloc (.cells #[.int .i64 a, .int .i64 b, .int .i64 c, .int .i64 d, .int .i64 e, .int .i64 f] 23)).alloc (.cells #[.int .i64 a', .int .i64 b', .int .i64 c', .int .i64 d', .int .i64 e', .int .i64 f'] 23)).alloc (.cells #[.int .i64 0, .int .i64 0, .int .i64 0, .int .i64 0, .int .i64 0, .int .i64 0] 23)).alloc (.cells #[.int .i64 a', .int .i64 b', .int .i64 c', .int .i64 d', .int .i64 0, .int .i64 0] 23)) = W0 at *
  refine (H1.out _).mono ?_
  rintro e1 w1 ⟨rfl, hb⟩
  have B1 : Hid (Below w.heap.size w w1) := B0.out.trans (hb.mono B0.out.size)
  have bm1 := Lib.hid (bm0.below' hb)
  have bn1 := Lib.hid (bn0.below' hb)
  have br1 := Lib.hid (br0.below' hb)
  have bs1 := Lib.hid (bs0.below' hb)
  clear hb bm0 bn0 br0 bs0
  obtain ⟨⟨-, -, m2, m3, -, -⟩, -, mi⟩ := bm1.out.c6
  obtain ⟨⟨s0, s1, s2, s3, s4, s5⟩, -, si⟩ := bs1.out.c6
  go_wp2_with (fail)
  refine (H2.out _).mono ?_
  rintro e2 w2 ⟨rfl, hb⟩
  have B2 : Hid (Below w.heap.size w w2) := (B1.out.alloc B1.out.size _).trans (hb.mono (by have := B1.out.size; simp; omega))
  have bm2 := Lib.hid ((bm1.out.alloc _).below' hb)
  have bn2 := Lib.hid ((bn1.out.alloc _).below' hb)
  have br2 := Lib.hid ((br1.out.alloc _).below' hb)
  have bp2 : Hid (Blk w2 w1.heap.size [.int .i64 x1, .int .i64 y1]) := (blk_new w1 [.int .i64 x1, .int .i64 y1] _).below' hb
  clear hb m2 m3 mi s0 s1 s2 s3 s4 s5 si bm1 bn1 br1 bs1
  generalize w1.heap.size = g1 at *
  obtain ⟨⟨-, -, -, -, m4, m5⟩, -, mi⟩ := bm2.out.c6
  obtain ⟨⟨n0, n1, n2, n3, n4, n5⟩, -, ni⟩ := bn2.out.c6
  go_wp2_with (fail)
  refine (H3.out _).mono ?_
  rintro e3 w3 ⟨rfl, hb⟩
  have B3 : Hid (Below w.heap.size w w3) := (B2.out.alloc B2.out.size _).trans (hb.mono (by have := B2.out.size; simp; omega))
  have br3 := Lib.hid ((br2.out.alloc _).below' hb)
  have bp3 := Lib.hid ((bp2.out.alloc _).below' hb)
  have bq3 : Hid (Blk w3 w2.heap.size [.int .i64 x2, .int .i64 y2]) := (blk_new w2 [.int .i64 x2, .int .i64 y2] _).below' hb
  clear hb m4 m5 mi n0 n1 n2 n3 n4 n5 ni bm2 bn2 br2 bp2
  generalize w2.heap.size = g2 at *
  obtain ⟨⟨p0, p1⟩, -, pi⟩ := bp3.out.c2
  obtain ⟨⟨q0, q1⟩, -, qi⟩ := bq3.out.c2
  obtain ⟨⟨r0, r1, r2, r3, r4, r5⟩, ⟨f0, f1, f2, f3, f4, f5⟩, ri⟩ := br3.out.c6
  have HR := Lib.hid br3.out
  clear br3 bp3 bq3
  cases t1 with
  | true =>
    cases t2 with
    | true =>
      go_wp2_with (fail)
      exact blk_ret2 rfl rfl rfl ((Blk.put6 HR.out _ _ _ _ _ _).alloc _) Try.underlying23 rfl (by kernel_rfl) ⟨rfl, (below6 B3.out (by omega) _ _ _ _ _ _).alloc (by have := B3.out.size; simp [World.setCell]; omega) _⟩
    | false =>
      go_wp2_with (fail)
      exact blk_ret2 rfl rfl rfl ((Blk.put6 HR.out _ _ _ _ _ _).alloc _) Try.underlying23 rfl (by kernel_rfl) ⟨rfl, (below6 B3.out (by omega) _ _ _ _ _ _).alloc (by have := B3.out.size; simp [World.setCell]; omega) _⟩
  | false =>
    go_wp2_with (fail)
    exact blk_ret2 rfl rfl rfl ((Blk.put6 HR.out _ _ _ _ _ _).alloc _) Try.underlying23 rfl (by kernel_rfl) ⟨rfl, (below6 B3.out (by omega) _ _ _ _ _ _).alloc (by have := B3.out.size; simp [World.setCell]; omega) _⟩
end Go.Proofs.Ytmbfkaodoankaaa
