/-
  Layer 8: maps and points: plain; the contracts of Right, Take, Shift, Scale, One, Turn, and of the document's own Right, Take.
-/
import Derived.Test.YtmbfkaodoankaaaKit
import Derived.Test.YtmbfkaodoankaaaFxD
namespace Go.Proofs.Ytmbfkaodoankaaa
open Go.RowKit

structure Mp where
  a : Int
  b : Int
  c : Int
  d : Int
  e : Int
  f : Int
deriving DecidableEq
structure Pt where
  x : Int
  y : Int
deriving DecidableEq
def Mp.v (m : Mp) : Value := .agg #[.int .i64 m.a, .int .i64 m.b, .int .i64 m.c, .int .i64 m.d, .int .i64 m.e, .int .i64 m.f]
def Mp.cs (m : Mp) : List Value := [.int .i64 m.a, .int .i64 m.b, .int .i64 m.c, .int .i64 m.d, .int .i64 m.e, .int .i64 m.f]
def Mp.l (m : Mp) : List Int := [m.a, m.b, m.c, m.d, m.e, m.f]
def Mp.o : Mp := ⟨0, 0, 0, 0, 0, 0⟩
def Mp.right (m : Mp) : Bool := allR m.l
def Pt.v (p : Pt) : Value := .agg #[.int .i64 p.x, .int .i64 p.y]
def Pt.cs (p : Pt) : List Value := [.int .i64 p.x, .int .i64 p.y]
def Mp.dx (m : Mp) (p : Pt) : List Int := [m.a, p.x, m.c, p.y, m.e]
def Mp.dy (m : Mp) (p : Pt) : List Int := [m.b, p.x, m.d, p.y, m.f]
def Mp.takes (m : Mp) (p : Pt) : Bool := dotB (m.dx p) && dotB (m.dy p)
def Mp.take (m : Mp) (p : Pt) : Pt := if m.takes p = true then ⟨dotV (m.dx p), dotV (m.dy p)⟩ else ⟨0, 0⟩

theorem Blk.put2 {w : World} {g : Nat} {p q : Value} (h : Blk w g [p, q]) (p' q' : Value) : Blk ((w.setCell ⟨g, 0, none⟩ p').setCell ⟨g, 1, none⟩ q') g [p', q'] := (h.set 0 p').set 1 q'
theorem Blk.off2 {w : World} {g k : Nat} {cs : List Value} (h : Blk w k cs) (hg : k ≠ g) (p' q' : Value) : Blk ((w.setCell ⟨g, 0, none⟩ p').setCell ⟨g, 1, none⟩ q') k cs := (h.other hg 0 p').other hg 1 q'
theorem below2 {w W : World} {B g : Nat} (h : Below B w W) (hg : B ≤ g) (p' q' : Value) : Below B w ((W.setCell ⟨g, 0, none⟩ p').setCell ⟨g, 1, none⟩ q') := below_set (below_set h hg) hg
theorem Blk.c6 {w : World} {g : Nat} {p q r s t u : Value} (h : Blk w g [p, q, r, s, t, u]) : (w.cell? ⟨g, 0, none⟩ = some p ∧ w.cell? ⟨g, 1, none⟩ = some q ∧ w.cell? ⟨g, 2, none⟩ = some r ∧ w.cell? ⟨g, 3, none⟩ = some s ∧ w.cell? ⟨g, 4, none⟩ = some t ∧ w.cell? ⟨g, 5, none⟩ = some u) ∧
    (w.frozen? ⟨g, 0, none⟩ = false ∧ w.frozen? ⟨g, 1, none⟩ = false ∧ w.frozen? ⟨g, 2, none⟩ = false ∧ w.frozen? ⟨g, 3, none⟩ = false ∧ w.frozen? ⟨g, 4, none⟩ = false ∧ w.frozen? ⟨g, 5, none⟩ = false) ∧ g < w.heap.size :=
  ⟨⟨h.cell 0, h.cell 1, h.cell 2, h.cell 3, h.cell 4, h.cell 5⟩, ⟨h.free 0, h.free 1, h.free 2, h.free 3, h.free 4, h.free 5⟩, h.inside⟩
/-- six cells written -/
def put6 (w : World) (g : Nat) (p q r s t u : Value) : World := (((((w.setCell ⟨g, 0, none⟩ p).setCell ⟨g, 1, none⟩ q).setCell ⟨g, 2, none⟩ r).setCell ⟨g, 3, none⟩ s).setCell ⟨g, 4, none⟩ t).setCell ⟨g, 5, none⟩ u
theorem Blk.put6 {w : World} {g : Nat} {p q r s t u : Value} (h : Blk w g [p, q, r, s, t, u]) (p' q' r' s' t' u' : Value) : Blk ((((((w.setCell ⟨g, 0, none⟩ p').setCell ⟨g, 1, none⟩ q').setCell ⟨g, 2, none⟩ r').setCell ⟨g, 3, none⟩ s').setCell ⟨g, 4, none⟩ t').setCell ⟨g, 5, none⟩ u') g [p', q', r', s', t', u'] :=
  (((((h.set 0 p').set 1 q').set 2 r').set 3 s').set 4 t').set 5 u'
theorem Blk.off6 {w : World} {g k : Nat} {cs : List Value} (h : Blk w k cs) (hg : k ≠ g) (p' q' r' s' t' u' : Value) : Blk ((((((w.setCell ⟨g, 0, none⟩ p').setCell ⟨g, 1, none⟩ q').setCell ⟨g, 2, none⟩ r').setCell ⟨g, 3, none⟩ s').setCell ⟨g, 4, none⟩ t').setCell ⟨g, 5, none⟩ u') k cs :=
  (((((h.other hg 0 p').other hg 1 q').other hg 2 r').other hg 3 s').other hg 4 t').other hg 5 u'
theorem below6 {w W : World} {B g : Nat} (h : Below B w W) (hg : B ≤ g) (p' q' r' s' t' u' : Value) : Below B w ((((((W.setCell ⟨g, 0, none⟩ p').setCell ⟨g, 1, none⟩ q').setCell ⟨g, 2, none⟩ r').setCell ⟨g, 3, none⟩ s').setCell ⟨g, 4, none⟩ t').setCell ⟨g, 5, none⟩ u') :=
  below_set (below_set (below_set (below_set (below_set (below_set h hg) hg) hg) hg) hg) hg
/-- two results, the first of which stands in a cell -/
theorem blk_ret2 {P : Program} {fn : Func} {p q : Tmp} {ty : TypeId} {tmps : Array Value} {w : World} {g : Nat} {cs : List Value} {d : TypeDesc} {v : Value} {Q : Ending → World → Prop} (hfn : fn.results = #[.cell p ty, .tmp q])
    (hp : tmps.getD p undef = .pointer (some ⟨g, 0, none⟩)) (hq : tmps.getD q undef = v) (hB : Blk w g cs) (hu : P.underlying ty = some d) (hd : (match d with | .struct _ | .array _ _ => true | _ => false) = true) (hi : (P.info? ty).map (·.size) = some cs.length)
    (h : Q (.returned (.tuple #[.agg cs.toArray, v])) w) : bodyPost P fn Q Exit.ret { tmps := tmps, defers := [] } w := by
  obtain ⟨T, hg⟩ := hB
  refine bodyPost_ret_by (v := .tuple #[.agg cs.toArray, v]) ?_ rfl h
  have hp' : tmps[p]?.getD undef = .pointer (some ⟨g, 0, none⟩) := by simpa using hp
  have hq' : tmps[q]?.getD undef = v := by simpa using hq
  simp [results, hfn, hp', hq', asAddr, run_loadVar_row w g T ty _ _ d hg hu hd (by simpa using hi)]

theorem mp_right (m : Mp) (w : World) : Calls Try.prog 9 #[m.v] w fun e w' => e = .returned (.bool m.right) ∧ Below w.heap.size w w' := by
  have HR : Hid (allR [m.a, m.b, m.c, m.d, m.e, m.f] = m.right) := rfl
  generalize m.right = y at *
  obtain ⟨a, b, c, d, e, f⟩ := m
  unfold Mp.v
  simp only at HR ⊢
  go_enter Try.func9, Try.ntmps9
  go_wp2_with (fail)
  refine (right_any _ [a, b, c, d, e, f] 6 _ (row_new' _ [a, b, c, d, e, f] 2 (by simp)) (Nat.le_refl 6) (by decide)).mono ?_
  rw [HR.out]
  rintro e w' ⟨rfl, rfl⟩
  go_wp2_with (fail)
  go_ret
  exact ⟨rfl, ((Below.refl _ _).alloc (Nat.le_refl _) _).alloc (by simp) _⟩

theorem dot5 (x1 x2 x3 x4 x5 : Int) (w : World) {g : Nat} (hg : g = w.heap.size) : Calls Try.prog 26 #[.slice (some ⟨g, 0, none⟩) 5 5] (w.alloc (.cells #[.int .i64 x1, .int .i64 x2, .int .i64 x3, .int .i64 x4, .int .i64 x5] 2))
    fun e w' => e = .returned (.tuple #[.int .i64 (dotV [x1, x2, x3, x4, x5]), .bool (dotB [x1, x2, x3, x4, x5])]) ∧ Below w.heap.size w w' :=
  (dot_any _ [x1, x2, x3, x4, x5] 5 _ (row_new' w [x1, x2, x3, x4, x5] 2 hg) (Nat.le_refl 5) (by decide)).mono fun _ _ h => ⟨h.1, ((Below.refl _ _).alloc (Nat.le_refl _) _).trans (h.2.mono (by simp))⟩
theorem ddot5 (x1 x2 x3 x4 x5 : Int) (w : World) {g : Nat} (hg : g = w.heap.size) : Calls Try.prog 27 #[.slice (some ⟨g, 0, none⟩) 5 5] (w.alloc (.cells #[.int .i64 x1, .int .i64 x2, .int .i64 x3, .int .i64 x4, .int .i64 x5] 2))
    fun e w' => e = .returned (.tuple #[.int .i64 (dotV [x1, x2, x3, x4, x5]), .bool (dotB [x1, x2, x3, x4, x5])]) ∧ Below w.heap.size w w' :=
  (ddot_any _ [x1, x2, x3, x4, x5] 5 _ (row_new' w [x1, x2, x3, x4, x5] 2 hg) (Nat.le_refl 5) (by decide)).mono fun _ _ h => ⟨h.1, ((Below.refl _ _).alloc (Nat.le_refl _) _).trans (h.2.below _)⟩

set_option maxHeartbeats 1000000 in
theorem mp_take (m : Mp) (p : Pt) (w : World) : Calls Try.prog 12 #[m.v, p.v] w fun e w' => e = .returned (.tuple #[(m.take p).v, .bool (m.takes p)]) ∧ Below w.heap.size w w' := by
  obtain ⟨a, b, c, d, e, f⟩ := m
  obtain ⟨x, y⟩ := p
  have HT : Hid (Mp.takes ⟨a, b, c, d, e, f⟩ ⟨x, y⟩ = (dotB [a, x, c, y, e] && dotB [b, x, d, y, f])) := rfl
  have HV : Hid (Mp.take ⟨a, b, c, d, e, f⟩ ⟨x, y⟩ = if (dotB [a, x, c, y, e] && dotB [b, x, d, y, f]) = true then ⟨dotV [a, x, c, y, e], dotV [b, x, d, y, f]⟩ else ⟨0, 0⟩) := rfl
  generalize Mp.takes ⟨a, b, c, d, e, f⟩ ⟨x, y⟩ = rt at *
  generalize Mp.take ⟨a, b, c, d, e, f⟩ ⟨x, y⟩ = rv at *
  obtain ⟨rx, ry⟩ := rv
  have HX := Lib.hid (fun w g (h : g = w.heap.size) => dot5 a x c y e w h)
  have HY := Lib.hid (fun w g (h : g = w.heap.size) => dot5 b x d y f w h)
  unfold Mp.v Pt.v
  simp only
  generalize dotB [a, x, c, y, e] = xb at *
  generalize dotV [a, x, c, y, e] = xv at *
  generalize dotB [b, x, d, y, f] = yb at *
  generalize dotV [b, x, d, y, f] = yv at *
  go_enter Try.func12, Try.ntmps12
  go_wp2_with (fail)
  refine (HX.out _ _ (by simp)).mono ?_
  rintro e w1 ⟨rfl, hb⟩
  have HB1 : Hid (Below w.heap.size w w1) := ((((Below.refl _ _).alloc (Nat.le_refl _) _).alloc (by simp) _).alloc (by simp; omega) _).trans (hb.mono (by simp; omega))
  have bm : Blk w1 w.heap.size [.int .i64 a, .int .i64 b, .int .i64 c, .int .i64 d, .int .i64 e, .int .i64 f] := (((blk_new w [.int .i64 a, .int .i64 b, .int .i64 c, .int .i64 d, .int .i64 e, .int .i64 f] _).alloc _).alloc _).below hb (by simp; omega)
  have bp : Blk w1 (w.heap.size + 1) [.int .i64 x, .int .i64 y] := ((blk_at (w.alloc _) _ (by simp) [.int .i64 x, .int .i64 y] _).alloc _).below hb (by simp)
  have br : Blk w1 (w.heap.size + 1 + 1) [.int .i64 0, .int .i64 0] := (blk_at ((w.alloc _).alloc _) _ (by simp) [.int .i64 0, .int .i64 0] _).below hb (by simp)
  clear hb
  have HR := Lib.hid br
  obtain ⟨⟨-, m1, -, m3, -, m5⟩, -, mi⟩ := bm.c6
  obtain ⟨⟨p0, p1⟩, -, pi⟩ := bp.c2
  clear bm bp br
  go_wp2_with (fail)
  refine (HY.out _ _ rfl).mono ?_
  rintro e w2 ⟨rfl, hb⟩
  have HB2 : Hid (Below w.heap.size w w2) := HB1.out.trans (hb.mono HB1.out.size)
  have HR2 : Hid (Blk w2 (w.heap.size + 1 + 1) [.int .i64 0, .int .i64 0]) := HR.out.below hb HR.out.inside
  clear hb m1 m3 m5 mi p0 p1 pi HB1 HR
  obtain ⟨⟨r0, r1⟩, ⟨f0, f1⟩, ri⟩ := HR2.out.c2
  have HF : Hid (∀ Q : Ending → World → Prop, ∀ tmps, tmps.getD 4 undef = .pointer (some ⟨w.heap.size + 1 + 1, 0, none⟩) → tmps.getD 5 undef = .bool rt → ∀ W, Blk W (w.heap.size + 1 + 1) [.int .i64 rx, .int .i64 ry] → Q (.returned (.tuple #[.agg #[.int .i64 rx, .int .i64 ry], .bool rt])) W → bodyPost Try.prog Try.f12 Q Exit.ret { tmps := tmps, defers := [] } W) := fun Q tmps h4 h5 W hB hQ =>
    blk_ret2 rfl h4 h5 hB Try.underlying25 rfl (by kernel_rfl) hQ
  cases xb with
  | true =>
    cases yb with
    | true =>
      have hv := HV.out.trans (if_pos rfl)
      injection hv with e0 e1
      subst e0; subst e1
      obtain rfl := HT.out
      clear HV HT
      go_wp2_with (fail)
      exact HF.out _ _ rfl rfl _ (HR2.out.put2 _ _) ⟨rfl, below2 HB2.out (by omega) _ _⟩
    | false =>
      have hv := HV.out.trans (if_neg (by decide))
      injection hv with e0 e1
      subst e0; subst e1
      obtain rfl := HT.out
      clear HV HT
      go_wp2_with (fail)
      exact HF.out _ _ rfl rfl _ (HR2.out.put2 _ _) ⟨rfl, below2 HB2.out (by omega) _ _⟩
  | false =>
    have hv := HV.out.trans (if_neg (by simp))
    injection hv with e0 e1
    subst e0; subst e1
    obtain rfl : rt = false := by rw [HT.out]; rfl
    clear HV HT
    go_wp2_with (fail)
    exact HF.out _ _ rfl rfl _ (HR2.out.put2 _ _) ⟨rfl, below2 HB2.out (by omega) _ _⟩
end Go.Proofs.Ytmbfkaodoankaaa
