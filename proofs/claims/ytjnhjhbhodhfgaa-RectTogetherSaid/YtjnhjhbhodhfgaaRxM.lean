/-
  Layer 6: RectTogether's walk.
-/
import Derived.Test.YtjnhjhbhodhfgaaRxL
import Derived.Test.YtjnhjhbhodhfgaaRegx
import Derived.Deep.Cut
namespace Go.Proofs.Ytjnhjhbhodhfgaa
open Go.RowKit

theorem wp_app {P : Program} {o : Oper} {a : Act} {w : World} {K : Act → World → Prop} {Q : Exit → Act → World → Prop} (s x : Operand) (t t2 ty : TypeId)
    (ho : o.op = .call { callee := .builtin .append, args := #[s, x], argTypes := #[t, t2] }) (hty : o.type = ty) {sv xv v' : Value} {w' : World} (hs : a.eval s = sv) (hx : a.eval x = xv)
    (hrun : (Builtin.append_ #[t, t2] ty #[sv, xv]).run P w = .ok v' w') (h : K (a.put o.dst v') w') : o.wp P a w K Q := by
  subst hty
  unfold Oper.wp execOp
  simp only [ho, resolve, invoke, builtin, Sem.run_bind, Sem.run_pure, Result.andThen_ok, List.map_toArray, List.map_cons, List.map_nil, hs, hx, hrun]
  exact h
theorem less_len (r s : Bx) : (r.less s).length ≤ 4 := by
  unfold Bx.less
  split
  · simp
  · split
    · simp
    · exact Nat.le_trans (List.length_filter_le _ _) (by simp [Bx.pts])
/-- how the world stands while all parts are joined: slot 28 the parts (3), 31 the row of s (6, till 7), 33 the row of q (8, till 9), 34 all (9, till 10), 7 the new block (11, written by 12) -/
def JT (B : Nat) (old : List (Nat × List Value)) (zs az : List Value) (lb : List Bx) (s q : Bx) (i3 i6 i7 i8 i9 i10 i11 i12 : Bool) (v28 v31 v33 v34 v7 : Value) (w : World) : Prop :=
  (JBs old w ∧ B ≤ w.heap.size ∧ ∀ p ∈ old, p.1 < B) ∧ (i3 = true → i9 = false → BOwn w B v28 lb) ∧ (i6 = true → i7 = false → isRow [s] v31 w) ∧
  (i8 = true → i9 = false → ∃ g, v33 = .slice (some ⟨g, 0, none⟩) 1 1 ∧ BRow w (some ⟨g, 0, none⟩) [q]) ∧ (i9 = true → i10 = false → BOwn w B v34 (lb ++ [q])) ∧ (i11 = true → isNew B (bif i12 then az else zs) v7 w) ∧
  (i3 = true → i11 = true → i9 = false → ∀ g, v28.ownBlock = some g → v7 ≠ .pointer (some ⟨g, 0, none⟩)) ∧ (i12 = true → i9 = true ∧ i10 = true ∧ i11 = true) ∧ (i9 = true → i7 = true) ∧ (i10 = true → i9 = true) ∧ (i8 = true → i7 = true)
section
variable {B : Nat} {old : List (Nat × List Value)} {zs az : List Value} {lb : List Bx} {s q : Bx} {i3 i6 i7 i8 i9 i10 i11 i12 : Bool} {v28 v31 v33 v34 v7 : Value} {w w' : World}
theorem JT.below (h : JT B old zs az lb s q i3 i6 i7 i8 i9 i10 i11 i12 v28 v31 v33 v34 v7 w) (hb : Below w.heap.size w w') : JT B old zs az lb s q i3 i6 i7 i8 i9 i10 i11 i12 v28 v31 v33 v34 v7 w' := by
  obtain ⟨⟨h1, h2, h3⟩, k1, k2, k3, k4, k5, k6⟩ := h
  refine ⟨⟨h1.below hb, Nat.le_trans h2 hb.size, h3⟩, fun e f => (k1 e f).below' hb, fun e f => (k2 e f).below hb, fun e f => ?_, fun e f => (k4 e f).below' hb, fun e => (k5 e).below hb, k6⟩
  obtain ⟨g, e1, e2⟩ := k3 e f
  exact ⟨g, e1, e2.below hb⟩
theorem JT.slots {u28 u31 u33 u34 u7 : Value} (h : JT B old zs az lb s q i3 i6 i7 i8 i9 i10 i11 i12 v28 v31 v33 v34 v7 w) (e1 : u28 = v28) (e2 : u31 = v31) (e3 : u33 = v33) (e4 : u34 = v34) (e5 : u7 = v7) : JT B old zs az lb s q i3 i6 i7 i8 i9 i10 i11 i12 u28 u31 u33 u34 u7 w := by
  rw [e1, e2, e3, e4, e5]
  exact h
theorem JT.set28 {u : Value} (h : JT B old zs az lb s q i3 i6 i7 i8 i9 i10 i11 i12 v28 v31 v33 v34 v7 w) (hb : Below w.heap.size w w') (ho : BOwn w' w.heap.size u lb) : JT B old zs az lb s q true i6 i7 i8 i9 i10 i11 i12 u v31 v33 v34 v7 w' := by
  have h' := h.below hb
  refine ⟨h'.1, fun _ _ => SOwn.weaken ho h.1.2.1, h'.2.2.1, h'.2.2.2.1, h'.2.2.2.2.1, h'.2.2.2.2.2.1, fun _ e _ g hg e2 => ?_, h'.2.2.2.2.2.2.2⟩
  obtain ⟨g7, e7, _, hB⟩ := h.2.2.2.2.2.1 e
  have h1 := (SOwn.block ho hg).1
  have h2 := hB.inside
  rw [e7] at e2
  simp only [Value.pointer.injEq, Option.some.injEq, Addr.mk.injEq, and_true] at e2
  omega
theorem JT.set31 {u : Value} (h : JT B old zs az lb s q i3 i6 i7 i8 i9 i10 i11 i12 v28 v31 v33 v34 v7 w) (hr : isRow [s] u w) : JT B old zs az lb s q i3 true i7 i8 i9 i10 i11 i12 v28 u v33 v34 v7 w :=
  ⟨h.1, h.2.1, fun _ _ => hr, h.2.2.2⟩
theorem JT.done7 (h : JT B old zs az lb s q i3 i6 i7 i8 i9 i10 i11 i12 v28 v31 v33 v34 v7 w) : JT B old zs az lb s q i3 i6 true i8 i9 i10 i11 i12 v28 v31 v33 v34 v7 w :=
  ⟨h.1, h.2.1, fun _ e => (nomatch e), h.2.2.2.1, h.2.2.2.2.1, h.2.2.2.2.2.1, h.2.2.2.2.2.2.1, h.2.2.2.2.2.2.2.1, fun _ => rfl, h.2.2.2.2.2.2.2.2.2.1, fun _ => rfl⟩
theorem JT.set33 {g : Nat} (h : JT B old zs az lb s q i3 i6 i7 i8 i9 i10 i11 i12 v28 v31 v33 v34 v7 w) (e7 : i7 = true) (hr : BRow w (some ⟨g, 0, none⟩) [q]) : JT B old zs az lb s q i3 i6 i7 true i9 i10 i11 i12 v28 v31 (.slice (some ⟨g, 0, none⟩) 1 1) v34 v7 w :=
  ⟨h.1, h.2.1, h.2.2.1, fun _ _ => ⟨g, rfl, hr⟩, h.2.2.2.2.1, h.2.2.2.2.2.1, h.2.2.2.2.2.2.1, h.2.2.2.2.2.2.2.1, h.2.2.2.2.2.2.2.2.1, h.2.2.2.2.2.2.2.2.2.1, fun _ => e7⟩
theorem JT.app {u : Value} (h : JT B old zs az lb s q i3 i6 i7 i8 i9 i10 i11 i12 v28 v31 v33 v34 v7 w) (e3 : i3 = true) (e7 : i7 = true) (e9 : i9 = false) (hg : w.grownBy w' v28.ownBlock) (ho : BOwn w' B u (lb ++ [q])) : JT B old zs az lb s q i3 i6 i7 i8 true i10 i11 i12 v28 v31 v33 u v7 w' := by
  subst e3 e7 e9
  obtain ⟨⟨h1, h2, h3⟩, k1, k2, k3, k4, k5, k6, k7, k8, k9, k10⟩ := h
  have hown := k1 rfl rfl
  have hbel : Below B w w' := (Below.refl B w).grown hg h2 (fun j hj => (SOwn.block hown hj).1)
  have hold : ∀ {l : List (Nat × List Value)}, JBs l w → (∀ p ∈ l, p.1 < B) → JBs l w' := by
    intro l
    induction l with
    | nil => intro _ _; trivial
    | cons x l ih => intro a b; exact ⟨a.1.below hbel (b x List.mem_cons_self), ih a.2 fun p hp => b p (List.mem_cons_of_mem _ hp)⟩
  refine ⟨⟨hold h1 h3, Nat.le_trans h2 hbel.size, h3⟩, fun _ e => (nomatch e), fun _ e => (nomatch e), fun _ e => (nomatch e), fun _ _ => ho, fun e => ?_, fun _ _ e => (nomatch e), fun e => ⟨rfl, (k7 e).2⟩, fun _ => rfl, fun _ => rfl, k10⟩
  obtain ⟨g7, e7, hg7, hB⟩ := k5 e
  refine ⟨g7, e7, hg7, hB.stays (hg.block _ hB.inside fun e2 => ?_)⟩
  exact k6 rfl e rfl g7 e2.symm e7
theorem JT.done10 (h : JT B old zs az lb s q i3 i6 i7 i8 i9 i10 i11 i12 v28 v31 v33 v34 v7 w) (e9 : i9 = true) : JT B old zs az lb s q i3 i6 i7 i8 i9 true i11 i12 v28 v31 v33 v34 v7 w :=
  ⟨h.1, h.2.1, h.2.2.1, h.2.2.2.1, fun _ e => (nomatch e), h.2.2.2.2.2.1, h.2.2.2.2.2.2.1, fun e => ⟨e9, rfl, (h.2.2.2.2.2.2.2.1 e).2.2⟩, h.2.2.2.2.2.2.2.2.1, fun _ => e9, h.2.2.2.2.2.2.2.2.2.2⟩
theorem JT.new7 {T : TypeId} (h : JT B old zs az lb s q i3 i6 i7 i8 i9 i10 i11 i12 v28 v31 v33 v34 v7 w) (e11 : i11 = false) : JT B old zs az lb s q i3 i6 i7 i8 i9 i10 true i12 v28 v31 v33 v34 (.pointer (some ⟨w.heap.size, 0, none⟩)) (w.alloc (.cells zs.toArray T)) := by
  have hb : Below w.heap.size w (w.alloc (.cells zs.toArray T)) := (Below.refl _ _).alloc (Nat.le_refl _) _
  have h' := h.below hb
  subst e11
  have e12 : i12 = false := by
    cases hi : i12 with
    | false => rfl
    | true => exact absurd (h.2.2.2.2.2.2.2.1 hi).2.2 (by decide)
  subst e12
  refine ⟨h'.1, h'.2.1, h'.2.2.1, h'.2.2.2.1, h'.2.2.2.2.1, fun _ => ⟨_, rfl, h.1.2.1, blk_new w zs T⟩, fun e _ f g hg e2 => ?_, fun e => (nomatch e), h'.2.2.2.2.2.2.2.2.1, h'.2.2.2.2.2.2.2.2.2⟩
  have := (SOwn.block (h.2.1 e f) hg).2
  simp only [Value.pointer.injEq, Option.some.injEq, Addr.mk.injEq, and_true] at e2
  omega
theorem JT.put7 {g : Nat} {z1 z2 z3 z4 a b c d : Value} (h : JT B old [z1, z2, z3, z4] [a, b, c, d] lb s q i3 i6 i7 i8 i9 i10 i11 i12 v28 v31 v33 v34 v7 w) (e9 : i9 = true) (e10 : i10 = true) (e11 : i11 = true) (e12 : i12 = false) (e7 : v7 = .pointer (some ⟨g, 0, none⟩)) :
    JT B old [z1, z2, z3, z4] [a, b, c, d] lb s q i3 i6 i7 i8 i9 i10 i11 true v28 v31 v33 v34 v7 ((((w.setCell ⟨g, 0, none⟩ a).setCell ⟨g, 1, none⟩ b).setCell ⟨g, 2, none⟩ c).setCell ⟨g, 3, none⟩ d) := by
  subst e9 e10 e11 e12 e7
  obtain ⟨⟨h1, h2, h3⟩, k1, k2, k3, k4, k5, k6, k7, k8, k9, k10⟩ := h
  obtain ⟨g', e, hg, hB⟩ := k5 rfl
  simp only [Value.pointer.injEq, Option.some.injEq, Addr.mk.injEq, and_true] at e
  subst e
  obtain rfl := k8 rfl
  exact ⟨⟨h1.off4 h3 hg _ _ _ _, by simpa [World.setCell] using h2, h3⟩, fun _ e => (nomatch e), fun _ e => (nomatch e), fun _ e => (nomatch e), fun _ e => (nomatch e), fun _ => ⟨g, rfl, hg, hB.put4 _ _ _ _⟩, fun _ _ e => (nomatch e), fun _ => ⟨rfl, rfl, rfl⟩, fun _ => rfl, fun _ => rfl, fun _ => rfl⟩
end
set_option maxRecDepth 100000 in
set_option maxHeartbeats 1000000 in
theorem rectTogether_no (r s t : Bx) (w : World) (h : (r.rt && (s.rt && t.rt)) = false) : Calls Try.prog 6 #[r.v, s.v, t.v] w fun e w' => e = .returned (.bool true) ∧ Below w.heap.size w w' := by
  have HR := Lib.hid (fun w => right_any r w)
  have HS := Lib.hid (fun w => right_any s w)
  have HT := Lib.hid (fun w => right_any t w)
  generalize r.rt = x1 at *
  generalize s.rt = x2 at *
  generalize t.rt = x3 at *
  obtain ⟨ra, rb, rc, rd⟩ := r
  obtain ⟨sa, sb, sc, sd⟩ := s
  obtain ⟨ta, tb, tc, td⟩ := t
  unfold Bx.v at *
  simp only at HR HS HT ⊢
  cases x1 with
  | false =>
    clear h
    go_enter Try.func6, Try.ntmps6
    go_wp2_with (fail)
    refine (HR.out _).mono ?_
    rintro e w1 ⟨rfl, hb⟩
    have B1 : Hid (Below w.heap.size w w1) := (below3 _ _ _).trans (hb.mono (by simp; try omega))
    have K1 : Hid (JBs [(w.heap.size + 1, [.int .i64 sa, .int .i64 sb, .int .i64 sc, .int .i64 sd]), (w.heap.size + 2, [.int .i64 ta, .int .i64 tb, .int .i64 tc, .int .i64 td])] w1) := ⟨((blk_at (w.alloc _) _ (by simp) [.int .i64 sa, .int .i64 sb, .int .i64 sc, .int .i64 sd] _).alloc _).below hb (by simp; try omega), (blk_at ((w.alloc _).alloc _) _ (by simp) [.int .i64 ta, .int .i64 tb, .int .i64 tc, .int .i64 td] _).below hb (by simp), trivial⟩
    clear hb
    go_wp2_with (fail)
    refine (awake_any _).mono ?_
    rintro e w9 ⟨rfl, hb⟩
    have B9 : Hid (Below w.heap.size w w9) := B1.out.trans (hb.mono B1.out.size)
    clear hb
    go_wp2_with (fail)
    go_ret
    exact ⟨rfl, B9.out⟩
  | true =>
    cases x2 with
    | false =>
      clear h
      go_enter Try.func6, Try.ntmps6
      go_wp2_with (fail)
      refine (HR.out _).mono ?_
      rintro e w1 ⟨rfl, hb⟩
      have B1 : Hid (Below w.heap.size w w1) := (below3 _ _ _).trans (hb.mono (by simp; try omega))
      have K1 : Hid (JBs [(w.heap.size + 1, [.int .i64 sa, .int .i64 sb, .int .i64 sc, .int .i64 sd]), (w.heap.size + 2, [.int .i64 ta, .int .i64 tb, .int .i64 tc, .int .i64 td])] w1) := ⟨((blk_at (w.alloc _) _ (by simp) [.int .i64 sa, .int .i64 sb, .int .i64 sc, .int .i64 sd] _).alloc _).below hb (by simp; try omega), (blk_at ((w.alloc _).alloc _) _ (by simp) [.int .i64 ta, .int .i64 tb, .int .i64 tc, .int .i64 td] _).below hb (by simp), trivial⟩
      clear hb
      obtain ⟨⟨c0, c1, c2, c3⟩, -, i0⟩ := K1.out.1.c4
      go_wp2_with (fail)
      refine (HS.out _).mono ?_
      rintro e w2 ⟨rfl, hb⟩
      have B2 : Hid (Below w.heap.size w w2) := B1.out.trans (hb.mono B1.out.size)
      have K2 := Lib.hid (K1.out.below hb)
      clear hb c0 c1 c2 c3 i0 K1
      go_wp2_with (fail)
      refine (awake_any _).mono ?_
      rintro e w9 ⟨rfl, hb⟩
      have B9 : Hid (Below w.heap.size w w9) := B2.out.trans (hb.mono B2.out.size)
      clear hb
      go_wp2_with (fail)
      go_ret
      exact ⟨rfl, B9.out⟩
    | true =>
      have h3 : x3 = false := by simpa using h
      subst h3
      go_enter Try.func6, Try.ntmps6
      go_wp2_with (fail)
      refine (HR.out _).mono ?_
      rintro e w1 ⟨rfl, hb⟩
      have B1 : Hid (Below w.heap.size w w1) := (below3 _ _ _).trans (hb.mono (by simp; try omega))
      have K1 : Hid (JBs [(w.heap.size + 1, [.int .i64 sa, .int .i64 sb, .int .i64 sc, .int .i64 sd]), (w.heap.size + 2, [.int .i64 ta, .int .i64 tb, .int .i64 tc, .int .i64 td])] w1) := ⟨((blk_at (w.alloc _) _ (by simp) [.int .i64 sa, .int .i64 sb, .int .i64 sc, .int .i64 sd] _).alloc _).below hb (by simp; try omega), (blk_at ((w.alloc _).alloc _) _ (by simp) [.int .i64 ta, .int .i64 tb, .int .i64 tc, .int .i64 td] _).below hb (by simp), trivial⟩
      clear hb
      obtain ⟨⟨c0, c1, c2, c3⟩, -, i0⟩ := K1.out.1.c4
      go_wp2_with (fail)
      refine (HS.out _).mono ?_
      rintro e w2 ⟨rfl, hb⟩
      have B2 : Hid (Below w.heap.size w w2) := B1.out.trans (hb.mono B1.out.size)
      have K2 := Lib.hid (K1.out.below hb)
      clear hb c0 c1 c2 c3 i0 K1
      obtain ⟨⟨c0, c1, c2, c3⟩, -, i0⟩ := K2.out.2.1.c4
      go_wp2_with (fail)
      refine (HT.out _).mono ?_
      rintro e w3 ⟨rfl, hb⟩
      have B3 : Hid (Below w.heap.size w w3) := B2.out.trans (hb.mono B2.out.size)
      have K3 := Lib.hid (K2.out.below hb)
      clear hb c0 c1 c2 c3 i0 K2
      go_wp2_with (fail)
      refine (awake_any _).mono ?_
      rintro e w9 ⟨rfl, hb⟩
      have B9 : Hid (Below w.heap.size w w9) := B3.out.trans (hb.mono B3.out.size)
      clear hb
      go_wp2_with (fail)
      go_ret
      exact ⟨rfl, B9.out⟩
/-- the world behind 'all := ..' -/
def TogAt (w : World) (r s t a : Bx) (g7 : Nat) (wx : World) : Prop := JBs [(w.heap.size, r.cs), (w.heap.size + 1, s.cs), (w.heap.size + 2, t.cs), (g7, a.cs)] wx ∧ Below w.heap.size w wx
theorem TogAt.below {w wx wy : World} {r s t a : Bx} {g7 : Nat} (h : TogAt w r s t a g7 wx) (hb : Below wx.heap.size wx wy) : TogAt w r s t a g7 wy := ⟨h.1.below hb, h.2.trans (hb.mono h.2.size)⟩
set_option maxRecDepth 100000 in
set_option maxHeartbeats 4000000 in
theorem rectTogether_yes (r s t : Bx) (w : World) (h1 : r.rt = true) (h2 : s.rt = true) (h3 : t.rt = true) : Calls Try.prog 6 #[r.v, s.v, t.v] w fun e w' => e = .returned (.bool true) ∧ Below w.heap.size w w' := by
  have HR := Lib.hid (fun w => right_any r w)
  have HS := Lib.hid (fun w => right_any s w)
  have HT := Lib.hid (fun w => right_any t w)
  have HRT := Lib.hid (And.intro h1 (And.intro h2 h3))
  rw [h1] at HR
  rw [h2] at HS
  rw [h3] at HT
  clear h1 h2 h3
  obtain ⟨lb, hlb⟩ : ∃ l, r.less s = l := ⟨_, rfl⟩
  have hlen := less_len r s
  obtain ⟨⟨qa, qb, qc, qd⟩, hq⟩ : ∃ c, r.cut [s] = c := ⟨_, rfl⟩
  have hall := less_join r s
  obtain ⟨⟨aa, ab, ac, ad⟩, ha⟩ : ∃ c, r.cut [] = c := ⟨_, rfl⟩
  rw [ha, hlb, hq] at hall
  rw [hlb] at hlen
  have HLB := Lib.hid hlb
  have HLEN := Lib.hid hlen
  have HQ := Lib.hid hq
  have HA := Lib.hid ha
  have HALL := Lib.hid hall
  clear hlb hlen hq ha hall
  obtain ⟨ra, rb, rc, rd⟩ := r
  obtain ⟨sa, sb, sc, sd⟩ := s
  obtain ⟨ta, tb, tc, td⟩ := t
  unfold Bx.v
  unfold Bx.v at HR HS HT
  simp only at HR HS HT ⊢
  go_enter Try.func6, Try.ntmps6
  go_wp2_with (fail)
  refine (HR.out _).mono ?_
  rintro e w1 ⟨rfl, hb⟩
  have B1 : Hid (Below w.heap.size w w1 ∧ w.heap.size + 3 ≤ w1.heap.size) := ⟨(below3 _ _ _).trans (hb.mono (by simp; try omega)), by have := hb.size; simp at this; omega⟩
  have K1 : Hid (JBs [(w.heap.size, [.int .i64 ra, .int .i64 rb, .int .i64 rc, .int .i64 rd]), (w.heap.size + 1, [.int .i64 sa, .int .i64 sb, .int .i64 sc, .int .i64 sd]), (w.heap.size + 2, [.int .i64 ta, .int .i64 tb, .int .i64 tc, .int .i64 td])] w1) := ⟨(((blk_new w [.int .i64 ra, .int .i64 rb, .int .i64 rc, .int .i64 rd] _).alloc _).alloc _).below hb (by simp; try omega), ((blk_at (w.alloc _) _ (by simp) [.int .i64 sa, .int .i64 sb, .int .i64 sc, .int .i64 sd] _).alloc _).below hb (by simp; try omega), (blk_at ((w.alloc _).alloc _) _ (by simp) [.int .i64 ta, .int .i64 tb, .int .i64 tc, .int .i64 td] _).below hb (by simp), trivial⟩
  clear hb
  obtain ⟨⟨c0, c1, c2, c3⟩, -, i0⟩ := K1.out.2.1.c4
  go_wp2_with (fail)
  refine (HS.out _).mono ?_
  rintro e w2 ⟨rfl, hb⟩
  have B2 : Hid (Below w.heap.size w w2 ∧ w.heap.size + 3 ≤ w2.heap.size) := ⟨B1.out.1.trans (hb.mono B1.out.1.size), Nat.le_trans B1.out.2 hb.size⟩
  have K2 := Lib.hid (K1.out.below hb)
  clear hb c0 c1 c2 c3 i0 K1 B1
  obtain ⟨⟨c0, c1, c2, c3⟩, -, i0⟩ := K2.out.2.2.1.c4
  go_wp2_with (fail)
  refine (HT.out _).mono ?_
  rintro e w3 ⟨rfl, hb⟩
  have B3 : Hid (Below w.heap.size w w3 ∧ w.heap.size + 3 ≤ w3.heap.size) := ⟨B2.out.1.trans (hb.mono B2.out.1.size), Nat.le_trans B2.out.2 hb.size⟩
  have K3 := Lib.hid (K2.out.below hb)
  clear hb c0 c1 c2 c3 i0 K2 B2
  go_upto_region 3 with fail
  refine regv.wp_region_put (Below w3.heap.size) (fun L V wx => JT w3.heap.size [(w.heap.size, [.int .i64 ra, .int .i64 rb, .int .i64 rc, .int .i64 rd]), (w.heap.size + 1, [.int .i64 sa, .int .i64 sb, .int .i64 sc, .int .i64 sd]), (w.heap.size + 2, [.int .i64 ta, .int .i64 tb, .int .i64 tc, .int .i64 td])] [.int .i64 0, .int .i64 0, .int .i64 0, .int .i64 0] [.int .i64 aa, .int .i64 ab, .int .i64 ac, .int .i64 ad] lb (⟨sa, sb, sc, sd⟩ : Bx) (⟨qa, qb, qc, qd⟩ : Bx) (L 3) (L 6) (L 7) (L 8) (L 9) (L 10) (L 11) (L 12) (V 28) (V 31) (V 33) (V 34) (V 7) wx) [25, 26, 27, 28, 29, 30, 31, 32, 33, 34, 35, 7] (by kernel_rfl) (by kernel_rfl) (fun _ => Below.refl _ _) (fun _ _ _ h k => h.trans k) (fun i => (match i with
    | 0 => regs.Say.val _ (.agg #[.int .i64 0, .int .i64 0, .int .i64 0, .int .i64 0])
    | 1 => regs.Say.val _ (.agg #[.int .i64 ra, .int .i64 rb, .int .i64 rc, .int .i64 rd])
    | 2 => regs.Say.val _ (.agg #[.int .i64 sa, .int .i64 sb, .int .i64 sc, .int .i64 sd])
    | 3 => regs.Say.any _
    | 4 => regs.Say.val _ (.agg #[.int .i64 ra, .int .i64 rb, .int .i64 rc, .int .i64 rd])
    | 5 => regs.Say.val _ (.agg #[.int .i64 sa, .int .i64 sb, .int .i64 sc, .int .i64 sd])
    | 6 => regs.Say.any _
    | 7 => regs.Say.val _ (.agg #[.int .i64 qa, .int .i64 qb, .int .i64 qc, .int .i64 qd])
    | 8 => regs.Say.any _
    | 9 => regs.Say.any _
    | 10 => regs.Say.val _ (.agg #[.int .i64 aa, .int .i64 ab, .int .i64 ac, .int .i64 ad])
    | 11 => regs.Say.any _
    | 12 => regs.Say.any _
    | _ => regs.Say.any _ : regs.Say (Below w3.heap.size)).p) (fun _ => regs.Say.mono _) (by kernel_rfl) ((Below.refl _ _).drew) (⟨⟨K3.out, Nat.le_refl _, fun p hp => by have := B3.out.2; simp at hp; rcases hp with rfl | rfl | rfl <;> simp <;> omega⟩, fun e => (nomatch e), fun e => (nomatch e), fun e => (nomatch e), fun e => (nomatch e), fun e => (nomatch e), fun e => (nomatch e), fun e => (nomatch e), fun e => (nomatch e), fun e => (nomatch e), fun e => (nomatch e)⟩) ⟨?_, ?_, ?_, ?_, ?_, ?_, ?_, ?_, ?_, ?_, ?_, ?_, ?_, trivial⟩ ?_
  · refine regv.StepOK.plain rfl fun L a w1 hh => ?_
    have hJ := Lib.hid hh.st
    clear hh
    go_simp
    exact ⟨_, rfl, Below.refl _ _, rfl, JT.slots hJ.out (regv.sl_ne (by decide)) (regv.sl_ne (by decide)) (regv.sl_ne (by decide)) (regv.sl_ne (by decide)) (regv.sl_ne (by decide))⟩
  · refine regv.StepOK.plain rfl fun L a w1 hh => ?_
    have h3 : a.tmps[3]?.getD undef = .pointer (some ⟨w.heap.size, 0, none⟩) := hh.kp 3 rfl rfl
    obtain ⟨⟨c0, c1, c2, c3⟩, -, -⟩ := hh.st.1.1.1.c4
    have hJ := Lib.hid hh.st
    clear hh
    go_simp
    exact ⟨_, rfl, Below.refl _ _, rfl, JT.slots hJ.out (regv.sl_ne (by decide)) (regv.sl_ne (by decide)) (regv.sl_ne (by decide)) (regv.sl_ne (by decide)) (regv.sl_ne (by decide))⟩
  · refine regv.StepOK.plain rfl fun L a w1 hh => ?_
    have h4 : a.tmps[4]?.getD undef = .pointer (some ⟨w.heap.size + 1, 0, none⟩) := hh.kp 4 rfl rfl
    obtain ⟨⟨c0, c1, c2, c3⟩, -, -⟩ := hh.st.1.1.2.1.c4
    have hJ := Lib.hid hh.st
    clear hh
    go_simp
    exact ⟨_, rfl, Below.refl _ _, rfl, JT.slots hJ.out (regv.sl_ne (by decide)) (regv.sl_ne (by decide)) (regv.sl_ne (by decide)) (regv.sl_ne (by decide)) (regv.sl_ne (by decide))⟩
  · refine regv.StepOK.plain rfl fun L a w1 hh => ?_
    have h26 := hh.v 1 26 rfl (by kernel_rfl) (by kernel_rfl)
    have h27 := hh.v 2 27 rfl (by kernel_rfl) (by kernel_rfl)
    have hJ := Lib.hid hh.st
    have hsz := Lib.hid hh.size
    clear hh
    go_simp
    refine (bx_less (⟨ra, rb, rc, rd⟩ : Bx) (⟨sa, sb, sc, sd⟩ : Bx) w1).mono ?_
    rintro e w9 ⟨v9, rfl, ho9, hb9⟩
    rw [HLB.out] at ho9
    exact ⟨_, rfl, hb9.mono hJ.out.1.2.1, trivial, JT.slots (JT.set28 hJ.out hb9 ho9) (regv.sl_same (by rw [hsz.out]; simp)) (regv.sl_ne (by decide)) (regv.sl_ne (by decide)) (regv.sl_ne (by decide)) (regv.sl_ne (by decide))⟩
  · refine regv.StepOK.plain rfl fun L a w1 hh => ?_
    have h3 : a.tmps[3]?.getD undef = .pointer (some ⟨w.heap.size, 0, none⟩) := hh.kp 3 rfl rfl
    obtain ⟨⟨c0, c1, c2, c3⟩, -, -⟩ := hh.st.1.1.1.c4
    have hJ := Lib.hid hh.st
    clear hh
    go_simp
    exact ⟨_, rfl, Below.refl _ _, rfl, JT.slots hJ.out (regv.sl_ne (by decide)) (regv.sl_ne (by decide)) (regv.sl_ne (by decide)) (regv.sl_ne (by decide)) (regv.sl_ne (by decide))⟩
  · refine regv.StepOK.plain rfl fun L a w1 hh => ?_
    have h4 : a.tmps[4]?.getD undef = .pointer (some ⟨w.heap.size + 1, 0, none⟩) := hh.kp 4 rfl rfl
    obtain ⟨⟨c0, c1, c2, c3⟩, -, -⟩ := hh.st.1.1.2.1.c4
    have hJ := Lib.hid hh.st
    clear hh
    go_simp
    exact ⟨_, rfl, Below.refl _ _, rfl, JT.slots hJ.out (regv.sl_ne (by decide)) (regv.sl_ne (by decide)) (regv.sl_ne (by decide)) (regv.sl_ne (by decide)) (regv.sl_ne (by decide))⟩
  · refine regv.StepOK.plain rfl fun L a w1 hh => ?_
    have h30 := hh.v 5 30 rfl (by kernel_rfl) (by kernel_rfl)
    have hJ := Lib.hid hh.st
    have hsz := Lib.hid hh.size
    clear hh
    go_simp
    exact ⟨_, rfl, (Below.refl _ _).alloc hJ.out.1.2.1 _, trivial, JT.slots (JT.set31 (hJ.out.below ((Below.refl _ _).alloc (Nat.le_refl _) _)) ⟨_, _, rfl, brow_new w1 [(⟨sa, sb, sc, sd⟩ : Bx)] rfl, Nat.le_refl _, by simp [maxLen]⟩) (regv.sl_ne (by decide)) (regv.sl_same (by rw [hsz.out]; simp)) (regv.sl_ne (by decide)) (regv.sl_ne (by decide)) (regv.sl_ne (by decide))⟩
  · refine regv.StepOK.plain rfl fun L a w1 hh => ?_
    have h29 := hh.v 4 29 rfl (by kernel_rfl) (by kernel_rfl)
    obtain ⟨A, cc_, h0, hrow, hc, hm⟩ := hh.st.2.2.1 (hh.up 6 (by kernel_rfl)) hh.un
    have h31 : a.tmps[31]?.getD undef = .slice A 1 cc_ := by rw [← Array.getD_eq_getD_getElem?]; exact h0
    have hJ := Lib.hid hh.st
    clear hh h0
    go_simp
    refine (bx_cut (⟨ra, rb, rc, rd⟩ : Bx) A [(⟨sa, sb, sc, sd⟩ : Bx)] cc_ w1 hrow (by simp)).mono ?_
    rintro e w9 ⟨rfl, hb9⟩
    exact ⟨_, rfl, hb9.mono hJ.out.1.2.1, congrArg Bx.v HQ.out, JT.slots (JT.done7 (hJ.out.below hb9)) (regv.sl_ne (by decide)) (regv.sl_ne (by decide)) (regv.sl_ne (by decide)) (regv.sl_ne (by decide)) (regv.sl_ne (by decide))⟩
  · refine regv.StepOK.plain rfl fun L a w1 hh => ?_
    have h32 := hh.v 7 32 rfl (by kernel_rfl) (by kernel_rfl)
    have hJ := Lib.hid hh.st
    have hsz := Lib.hid hh.size
    have hU7 := Lib.hid (hh.up 7 (by kernel_rfl))
    clear hh
    go_simp
    exact ⟨_, rfl, (Below.refl _ _).alloc hJ.out.1.2.1 _, trivial, JT.slots (JT.set33 (hJ.out.below ((Below.refl _ _).alloc (Nat.le_refl _) _)) hU7.out (brow_new w1 [(⟨qa, qb, qc, qd⟩ : Bx)] rfl)) (regv.sl_ne (by decide)) (regv.sl_ne (by decide)) (regv.sl_same (by rw [hsz.out]; simp)) (regv.sl_ne (by decide)) (regv.sl_ne (by decide))⟩
  · refine regv.StepOK.plain rfl fun L a w1 hh => ?_
    have hJ := Lib.hid hh.st
    have hsz := Lib.hid hh.size
    obtain ⟨g, h33, hrow⟩ := hh.st.2.2.2.1 (hh.up 8 (by kernel_rfl)) hh.un
    have hown := hh.st.2.1 (hh.up 3 (by kernel_rfl)) hh.un
    obtain ⟨v9, w9, hrun, own9, hgr, -⟩ := app_bx (c := 1) hown (xs := [(⟨qa, qb, qc, qd⟩ : Bx)]) (fun _ => hrow) (by have := HLEN.out; simp; omega) hJ.out.1.2.1
    exact wp_app (.tmp 28) (.tmp 33) 33 33 33 rfl rfl rfl h33 hrun ⟨v9, rfl, (Below.refl _ _).grown hgr hJ.out.1.2.1 (fun j hj => (SOwn.block hown hj).1), trivial, JT.slots (JT.app hJ.out (hh.up 3 (by kernel_rfl)) (hJ.out.2.2.2.2.2.2.2.2.2.2 (hh.up 8 (by kernel_rfl))) hh.un hgr own9) (regv.sl_ne (by decide)) (regv.sl_ne (by decide)) (regv.sl_ne (by decide)) (regv.sl_same (by rw [hsz.out]; simp)) (regv.sl_ne (by decide))⟩
  · refine regv.StepOK.plain rfl fun L a w1 hh => ?_
    have h25 := hh.v 0 25 rfl (by kernel_rfl) (by kernel_rfl)
    obtain ⟨A, cc_, h0, hc, hm, hrow⟩ := SOwn.row (hh.st.2.2.2.2.1 (hh.up 9 (by kernel_rfl)) hh.un) bcs_len
    have h34 : a.tmps[34]?.getD undef = .slice A (lb ++ [(⟨qa, qb, qc, qd⟩ : Bx)]).length cc_ := by rw [← Array.getD_eq_getD_getElem?]; exact h0
    have hJ := Lib.hid hh.st
    have hU := Lib.hid (hh.up 9 (by kernel_rfl))
    obtain ⟨nn, hnn⟩ : ∃ n, (lb ++ [(⟨qa, qb, qc, qd⟩ : Bx)]).length = n := ⟨_, rfl⟩
    rw [hnn] at h34
    have HNN := Lib.hid hnn
    clear hh h0 hnn
    go_simp
    rw [← HNN.out]
    refine (bx_join Bx.o A (lb ++ [(⟨qa, qb, qc, qd⟩ : Bx)]) cc_ w1 hrow (by have := HLEN.out; simp; omega)).mono ?_
    rintro e w9 ⟨rfl, hb9⟩
    exact ⟨_, rfl, hb9.mono hJ.out.1.2.1, congrArg Bx.v HALL.out, JT.slots (JT.done10 (hJ.out.below hb9) hU.out) (regv.sl_ne (by decide)) (regv.sl_ne (by decide)) (regv.sl_ne (by decide)) (regv.sl_ne (by decide)) (regv.sl_ne (by decide))⟩
  · refine regv.StepOK.plain rfl fun L a w1 hh => ?_
    have hJ := Lib.hid hh.st
    have hsz := Lib.hid hh.size
    have hun := Lib.hid hh.un
    clear hh
    go_simp
    exact ⟨_, rfl, (Below.refl _ _).alloc hJ.out.1.2.1 _, trivial, JT.slots (JT.new7 hJ.out hun.out) (regv.sl_ne (by decide)) (regv.sl_ne (by decide)) (regv.sl_ne (by decide)) (regv.sl_ne (by decide)) (regv.sl_same (by rw [hsz.out]; simp))⟩
  · refine regv.StepOK.plain rfl fun L a w1 hh => ?_
    have h35 := hh.v 10 35 rfl (by kernel_rfl) (by kernel_rfl)
    obtain ⟨g, h0, hg, hB⟩ := hh.st.2.2.2.2.2.1 (hh.up 11 (by kernel_rfl))
    have h7 : a.tmps[7]?.getD undef = .pointer (some ⟨g, 0, none⟩) := by rw [← Array.getD_eq_getD_getElem?]; exact h0
    rw [hh.un] at hB
    obtain ⟨⟨c0, c1, c2, c3⟩, ⟨f0, f1, f2, f3⟩, -⟩ := (show Blk w1 g [.int .i64 0, .int .i64 0, .int .i64 0, .int .i64 0] from hB).c4
    have hJ := Lib.hid hh.st
    have hU := Lib.hid (And.intro (hh.up 10 (by kernel_rfl)) (And.intro (hh.up 11 (by kernel_rfl)) hh.un))
    have H0 := Lib.hid h0
    clear hh h0 hB
    go_simp
    exact ⟨below4 (Below.refl _ _) hg _ _ _ _, ⟨undef, trivial⟩, JT.put7 hJ.out (hJ.out.2.2.2.2.2.2.2.2.2.1 hU.out.1) hU.out.1 hU.out.2.1 hU.out.2.2 H0.out⟩
  intro L w4 val hL hJ hR hv
  obtain ⟨g7, e7, hg7, hB7⟩ := hJ.2.2.2.2.2.1 (hL 11 (by decide))
  rw [hL 12 (by decide)] at hB7
  have HX : Hid (TogAt w ⟨ra, rb, rc, rd⟩ ⟨sa, sb, sc, sd⟩ ⟨ta, tb, tc, td⟩ ⟨aa, ab, ac, ad⟩ g7 w4) := ⟨⟨hJ.1.1.1, hJ.1.1.2.1, hJ.1.1.2.2.1, hB7, trivial⟩, B3.out.1.trans (hR.mono B3.out.1.size)⟩
  clear hv hL hJ hR hg7 hB7
  simp only [regs.putAll, List.map_cons, List.map_nil]
  rw [e7]
  simp only [Act.put, List.setIfInBounds_toArray, List.set_cons_zero, List.set_cons_succ]
  clear e7 K3 B3 HR HS HT
  go_wp2_with (fail)
  refine regs.wp_region_put (regs.bl) (fun _ wx => TogAt w (⟨ra, rb, rc, rd⟩ : Bx) (⟨sa, sb, sc, sd⟩ : Bx) (⟨ta, tb, tc, td⟩ : Bx) (⟨aa, ab, ac, ad⟩ : Bx) g7 wx) [36, 37, 38, 39] (by kernel_rfl) (by kernel_rfl) (fun _ => regs.bl_refl _) (regs.bl_trans) (fun i => (match i with
    | 0 => regs.Say.val _ (.agg #[.int .i64 aa, .int .i64 ab, .int .i64 ac, .int .i64 ad])
    | 1 => regs.Say.val _ (.agg #[.int .i64 ra, .int .i64 rb, .int .i64 rc, .int .i64 rd])
    | 2 => regs.Say.val _ (.agg #[.int .i64 aa, .int .i64 ab, .int .i64 ac, .int .i64 ad])
    | 3 => regs.Say.val _ (.bool false)
    | _ => regs.Say.any _ : regs.Say (regs.bl)).p) (fun _ => regs.Say.mono _) (by kernel_rfl) ((Below.refl _ _).drew) (HX.out.below ((Below.refl _ _).drew)) ⟨?_, ?_, ?_, ?_, trivial⟩ ?_
  · refine regs.StepOK.plain rfl fun L a w1 hh => ?_
    have h7 : a.tmps[7]?.getD undef = .pointer (some ⟨g7, 0, none⟩) := hh.kp 7 rfl rfl
    obtain ⟨⟨c0, c1, c2, c3⟩, -, -⟩ := (hh.st.1.2.2.2.1).c4
    have hJ := Lib.hid hh.st
    clear hh
    go_simp
    exact ⟨_, rfl, regs.bl_refl _, rfl, hJ.out⟩
  · refine regs.StepOK.plain rfl fun L a w1 hh => ?_
    have h3 : a.tmps[3]?.getD undef = .pointer (some ⟨w.heap.size, 0, none⟩) := hh.kp 3 rfl rfl
    obtain ⟨⟨c0, c1, c2, c3⟩, -, -⟩ := (hh.st.1.1).c4
    have hJ := Lib.hid hh.st
    clear hh
    go_simp
    exact ⟨_, rfl, regs.bl_refl _, rfl, hJ.out⟩
  · refine regs.StepOK.plain rfl fun L a w1 hh => ?_
    have h37 := hh.v 1 37 rfl (by kernel_rfl) (by kernel_rfl)
    have := True.intro
    have hJ := Lib.hid hh.st
    clear hh
    go_simp
    refine (bx_cut (⟨ra, rb, rc, rd⟩ : Bx) none [] 0 w1 (SRow.none_ rfl) (by simp)).mono ?_
    rintro e w9 ⟨rfl, hb9⟩
    exact ⟨_, rfl, hb9, congrArg Bx.v (HA.out), TogAt.below hJ.out hb9⟩
  · refine regs.StepOK.plain rfl fun L a w1 hh => ?_
    have h36 := hh.v 0 36 rfl (by kernel_rfl) (by kernel_rfl)
    have h38 := hh.v 2 38 rfl (by kernel_rfl) (by kernel_rfl)
    have eqst := fun w => bx_neq (⟨aa, ab, ac, ad⟩ : Bx) (⟨aa, ab, ac, ad⟩ : Bx) w
    rw [show (!decide ((⟨aa, ab, ac, ad⟩ : Bx) = (⟨aa, ab, ac, ad⟩ : Bx))) = false from by simp] at eqst
    unfold Bx.v at eqst
    simp only at eqst
    have hJ := Lib.hid hh.st
    clear hh
    go_simp
    exact ⟨_, rfl, regs.bl_refl _, rfl, hJ.out⟩
  intro L w5 val hL hJ hR hv
  have h39 : val 39 = .bool false := hv 3 39 (by kernel_rfl)
  have HJ5 := Lib.hid hJ
  have HR5 := Lib.hid hR
  clear hv hL hJ hR
  simp only [regs.putAll, List.map_cons, List.map_nil]
  rw [h39]
  generalize val 36 = v36
  generalize val 37 = v37
  generalize val 38 = v38
  simp only [Act.put, List.setIfInBounds_toArray, List.set_cons_zero, List.set_cons_succ]
  clear h39
  clear HR5 HX
  obtain ⟨⟨a0, a1, a2, a3⟩, -, i0⟩ := (show Blk w5 w.heap.size [.int .i64 ra, .int .i64 rb, .int .i64 rc, .int .i64 rd] from HJ5.out.1.1).c4
  obtain ⟨⟨b0, b1, b2, b3⟩, -, i1⟩ := (show Blk w5 (w.heap.size + 1) [.int .i64 sa, .int .i64 sb, .int .i64 sc, .int .i64 sd] from HJ5.out.1.2.1).c4
  have HLS := Lib.hid (fun w => bx_less ⟨ra, rb, rc, rd⟩ ⟨sa, sb, sc, sd⟩ w)
  unfold Bx.v at HLS
  simp only at HLS
  go_wp2_with (fail)
  refine (HLS.out _).mono ?_
  rintro e w6 ⟨v6, rfl, ho6, hb⟩
  have HX6 := Lib.hid (HJ5.out.below hb)
  rw [HLB.out] at ho6
  obtain ⟨A6, c6, rfl, hc6, hm6, hr6⟩ := SOwn.row ho6 bcs_len
  have HB6 : Hid (BRow w6 A6 lb) := hr6
  clear hb ho6 hr6 hc6 hm6 a0 a1 a2 a3 b0 b1 b2 b3 i0 i1 HJ5 HLS
  have hlen5 : (lb.length : Int) ≤ 4 := by have := HLEN.out; omega
  go_wp2_with (fail)
  go_loopw [8, 44] (fun x i wr => ∃ (k : Nat) (S : Int), k ≤ lb.length ∧ i = .int .i64 k ∧ x = .int .i64 S ∧ Hid (S = arS (lb.take k) ⟨ta, tb, tc, td⟩) ∧ Hid (TogAt w ⟨ra, rb, rc, rd⟩ ⟨sa, sb, sc, sd⟩ ⟨ta, tb, tc, td⟩ ⟨aa, ab, ac, ad⟩ g7 wr) ∧ Hid (BRow wr A6 lb)) (fun _ i _ => lb.length - (intOf i).toNat)
  case atStart => exact ⟨0, 0, Nat.zero_le _, rfl, rfl, rfl, HX6, HB6⟩
  case round =>
    clear HX6 HB6
    obtain ⟨k, S, hk, rfl, rfl, HS, HX, HB⟩ := hrel
    have hsum := less_sum ⟨ra, rb, rc, rd⟩ ⟨sa, sb, sc, sd⟩ ⟨ta, tb, tc, td⟩
    have hbd1 := area_bd (rt_cut2 HRT.out.1 HRT.out.2.1 HRT.out.2.2)
    have hbd2 := area_bd (rt_cut HRT.out.1 HRT.out.2.2)
    rw [HLB.out] at hsum
    by_cases hlt : k < lb.length
    · obtain ⟨g, off, rA, q0, q1, q2, q3⟩ := BRow.at_ HB.out hlt
      subst rA
      have hrt := rt_less HRT.out.1 HRT.out.2.1 lb[k] (by rw [HLB.out]; exact List.getElem_mem hlt)
      have hnx : arS (lb.take (k + 1)) ⟨ta, tb, tc, td⟩ = S + ar lb[k] ⟨ta, tb, tc, td⟩ := by
        rw [List.take_succ_eq_append_getElem hlt, arS_append, ← HS.out]
        simp [arS]
      have hle := arS_take lb ⟨ta, tb, tc, td⟩ (k + 1)
      have hnn := arS_nn (lb.take (k + 1)) ⟨ta, tb, tc, td⟩
      have har := ar_cut lb[k] ⟨ta, tb, tc, td⟩
      generalize lb[k] = p at *
      obtain ⟨X, hX⟩ : ∃ X, ar p ⟨ta, tb, tc, td⟩ = X := ⟨_, rfl⟩
      rw [hX] at hnx har
      obtain ⟨T, hT⟩ : ∃ T, S + X = T := ⟨_, rfl⟩
      rw [hT] at hnx
      have hTb : 0 ≤ T ∧ T ≤ 4611686018427387904 := by omega
      have hw1 : wrap64 (S + X) = T := by rw [hT]; exact IntWalk.wrap64_in _ (by omega)
      have HW := Lib.hid hw1
      have HNX : Hid (T = arS (lb.take (k + 1)) ⟨ta, tb, tc, td⟩) := hnx.symm
      have hut := rt_cut hrt HRT.out.2.2
      obtain ⟨⟨ua, ub, uc, ud⟩, hu⟩ : ∃ u, p.cut [⟨ta, tb, tc, td⟩] = u := ⟨_, rfl⟩
      rw [hu] at har hut
      have HCU := Lib.hid (fun g w h => bx_cut p (some ⟨g, 0, none⟩) [⟨ta, tb, tc, td⟩] 1 w h (by simp))
      rw [hu] at HCU
      have HAR := Lib.hid (fun w => bx_area ⟨ua, ub, uc, ud⟩ w hut)
      rw [har] at HAR
      obtain ⟨pa, pb, pc, pd⟩ := p
      unfold Bx.v at HCU HAR
      simp only at q0 q1 q2 q3 HCU HAR
      have hg : g < wr.heap.size := World.block_lt_of_cell? wr ⟨g, _, none⟩ q0
      clear hrt hnx hle hnn har hX hT hTb hut hu hsum hbd1 hbd2 hw1 HS
      obtain ⟨⟨t0, t1, t2, t3⟩, -, i2⟩ := (show Blk wr (w.heap.size + 2) [.int .i64 ta, .int .i64 tb, .int .i64 tc, .int .i64 td] from HX.out.1.2.2.1).c4
      go_wp2_with (fail)
      refine (HCU.out _ _ (brow_new _ [⟨ta, tb, tc, td⟩] (by simp))).mono ?_
      rintro e w7 ⟨rfl, hb⟩
      have HX7 := Lib.hid (((HX.out.below ((Below.refl _ _).alloc (Nat.le_refl _) (.cells #[.int .i64 pa, .int .i64 pb, .int .i64 pc, .int .i64 pd] 23))).below ((Below.refl _ _).alloc (Nat.le_refl _) (.cells ([(⟨ta, tb, tc, td⟩ : Bx)].flatMap Bx.cs).toArray 23))).below hb)
      have HB7 : Hid (BRow w7 (some ⟨g, off, none⟩) lb) := ((HB.out.below ((Below.refl _ _).alloc (Nat.le_refl _) (.cells #[.int .i64 pa, .int .i64 pb, .int .i64 pc, .int .i64 pd] 23))).below ((Below.refl _ _).alloc (Nat.le_refl _) (.cells ([(⟨ta, tb, tc, td⟩ : Bx)].flatMap Bx.cs).toArray 23))).below hb
      clear hb t0 t1 t2 t3 i2 q0 q1 q2 q3 hg HX HB HCU
      go_wp2_with (fail)
      refine (HAR.out _).mono ?_
      rintro e w8 ⟨rfl, hb⟩
      have HX8 := Lib.hid (HX7.out.below hb)
      have HB8 : Hid (BRow w8 (some ⟨g, off, none⟩) lb) := HB7.out.below hb
      clear hb HX7 HB7 HAR
      have hw1 := HW.out
      go_wp2_with (fail)
      go_roundw
      case rel => exact ⟨k + 1, T, by omega, by go_num, by rw [HW.out], HNX, HX8, HB8⟩
      case measure => simp [intOf]; omega
    · obtain rfl : k = lb.length := by omega
      rw [List.take_length] at HS
      have hS := HS.out
      rw [← hS] at hsum
      obtain ⟨XA, hXA⟩ : ∃ X, (Bx.cut ⟨ra, rb, rc, rd⟩ [⟨sa, sb, sc, sd⟩, ⟨ta, tb, tc, td⟩]).area = X := ⟨_, rfl⟩
      obtain ⟨XT, hXT⟩ : ∃ X, (Bx.cut ⟨ra, rb, rc, rd⟩ [⟨ta, tb, tc, td⟩]).area = X := ⟨_, rfl⟩
      rw [hXA, hXT] at hsum
      rw [hXA] at hbd1
      rw [hXT] at hbd2
      have HW : Hid (IntKind.i64.wrap (S + XA) = XT) := by show _ = _; rw [hsum]; exact IntWalk.i64_in _ (by omega)
      have hr1 := rt_cut2 HRT.out.1 HRT.out.2.1 HRT.out.2.2
      have hr2 := rt_cut HRT.out.1 HRT.out.2.2
      obtain ⟨⟨va, vb, vc, vd⟩, hv⟩ : ∃ q, Bx.cut ⟨ra, rb, rc, rd⟩ [⟨sa, sb, sc, sd⟩, ⟨ta, tb, tc, td⟩] = q := ⟨_, rfl⟩
      obtain ⟨⟨ua, ub, uc, ud⟩, hu⟩ : ∃ q, Bx.cut ⟨ra, rb, rc, rd⟩ [⟨ta, tb, tc, td⟩] = q := ⟨_, rfl⟩
      obtain ⟨⟨xa, xb, xc, xd⟩, hx⟩ : ∃ q, Bx.join ⟨ra, rb, rc, rd⟩ [⟨sa, sb, sc, sd⟩] = q := ⟨_, rfl⟩
      have hjc := join_cut ⟨ra, rb, rc, rd⟩ ⟨sa, sb, sc, sd⟩
      rw [hx, HA.out] at hjc
      rw [hv] at hXA hr1
      rw [hu] at hXT hr2
      have HV := Lib.hid (And.intro hv (And.intro hXA hr1))
      have HU := Lib.hid (And.intro hu (And.intro hXT hr2))
      have HXJ := Lib.hid (And.intro hx hjc)
      clear hv hXA hr1 hu hXT hr2 hx hjc hsum hbd1 hbd2 hS HS hk hlt
      go_wp2_with (fail)
      refine regs.wp_region_put (regs.bl) (fun _ wx => TogAt w (⟨ra, rb, rc, rd⟩ : Bx) (⟨sa, sb, sc, sd⟩ : Bx) (⟨ta, tb, tc, td⟩ : Bx) (⟨aa, ab, ac, ad⟩ : Bx) g7 wx) [56, 57, 58, 59, 60, 61, 62, 63, 64, 65, 66, 67, 68, 69, 70, 71, 72, 73, 74, 75, 76, 77, 78, 79, 80, 81, 82, 83, 84, 6] (by kernel_rfl) (by kernel_rfl) (fun _ => regs.bl_refl _) (regs.bl_trans) (fun i => (match i with
        | 0 => regs.Say.val _ (.int .i64 S)
        | 1 => regs.Say.val _ (.agg #[.int .i64 ra, .int .i64 rb, .int .i64 rc, .int .i64 rd])
        | 2 => regs.Say.val _ (.agg #[.int .i64 sa, .int .i64 sb, .int .i64 sc, .int .i64 sd])
        | 3 => regs.Say.val _ (.agg #[.int .i64 ta, .int .i64 tb, .int .i64 tc, .int .i64 td])
        | 4 => sayB [(⟨sa, sb, sc, sd⟩ : Bx), (⟨ta, tb, tc, td⟩ : Bx)]
        | 5 => regs.Say.val _ (.agg #[.int .i64 va, .int .i64 vb, .int .i64 vc, .int .i64 vd])
        | 6 => regs.Say.val _ (.int .i64 XA)
        | 7 => regs.Say.val _ (.int .i64 XT)
        | 8 => regs.Say.val _ (.agg #[.int .i64 ra, .int .i64 rb, .int .i64 rc, .int .i64 rd])
        | 9 => regs.Say.val _ (.agg #[.int .i64 ta, .int .i64 tb, .int .i64 tc, .int .i64 td])
        | 10 => sayB [(⟨ta, tb, tc, td⟩ : Bx)]
        | 11 => regs.Say.val _ (.agg #[.int .i64 ua, .int .i64 ub, .int .i64 uc, .int .i64 ud])
        | 12 => regs.Say.val _ (.int .i64 XT)
        | 13 => regs.Say.val _ (.bool true)
        | 14 => regs.Say.val _ (.bool true)
        | 15 => regs.Say.val _ (.agg #[.int .i64 ra, .int .i64 rb, .int .i64 rc, .int .i64 rd])
        | 16 => regs.Say.val _ (.agg #[.int .i64 sa, .int .i64 sb, .int .i64 sc, .int .i64 sd])
        | 17 => sayB [(⟨sa, sb, sc, sd⟩ : Bx)]
        | 18 => regs.Say.val _ (.agg #[.int .i64 xa, .int .i64 xb, .int .i64 xc, .int .i64 xd])
        | 19 => regs.Say.val _ (.agg #[.int .i64 ra, .int .i64 rb, .int .i64 rc, .int .i64 rd])
        | 20 => sayB [(⟨ra, rb, rc, rd⟩ : Bx)]
        | 21 => regs.Say.val _ (.agg #[.int .i64 aa, .int .i64 ab, .int .i64 ac, .int .i64 ad])
        | 22 => regs.Say.val _ (.agg #[.int .i64 ra, .int .i64 rb, .int .i64 rc, .int .i64 rd])
        | 23 => regs.Say.val _ (.agg #[.int .i64 aa, .int .i64 ab, .int .i64 ac, .int .i64 ad])
        | 24 => regs.Say.val _ (.bool true)
        | 25 => regs.Say.val _ (.bool true)
        | 26 => regs.Say.val _ (.bool true)
        | 27 => regs.Say.val _ (.bool true)
        | 28 => regs.Say.val _ (.bool true)
        | 29 => regs.Say.val _ (.bool true)
        | _ => regs.Say.any _ : regs.Say (regs.bl)).p) (fun _ => regs.Say.mono _) (by kernel_rfl) ((Below.refl _ _).drew) (HX.out.below ((Below.refl _ _).drew)) ⟨?_, ?_, ?_, ?_, ?_, ?_, ?_, ?_, ?_, ?_, ?_, ?_, ?_, ?_, ?_, ?_, ?_, ?_, ?_, ?_, ?_, ?_, ?_, ?_, ?_, ?_, ?_, ?_, ?_, ?_, trivial⟩ ?_
      · refine regs.StepOK.plain rfl fun L a w1 hh => ?_
        have h8 : a.tmps[8]?.getD undef = .int .i64 S := hh.kp 8 rfl rfl
        have hJ := Lib.hid hh.st
        clear hh
        go_simp
        exact ⟨_, rfl, regs.bl_refl _, rfl, hJ.out⟩
      · refine regs.StepOK.plain rfl fun L a w1 hh => ?_
        have h3 : a.tmps[3]?.getD undef = .pointer (some ⟨w.heap.size, 0, none⟩) := hh.kp 3 rfl rfl
        obtain ⟨⟨c0, c1, c2, c3⟩, -, -⟩ := (hh.st.1.1).c4
        have hJ := Lib.hid hh.st
        clear hh
        go_simp
        exact ⟨_, rfl, regs.bl_refl _, rfl, hJ.out⟩
      · refine regs.StepOK.plain rfl fun L a w1 hh => ?_
        have h4 : a.tmps[4]?.getD undef = .pointer (some ⟨(w.heap.size + 1), 0, none⟩) := hh.kp 4 rfl rfl
        obtain ⟨⟨c0, c1, c2, c3⟩, -, -⟩ := (hh.st.1.2.1).c4
        have hJ := Lib.hid hh.st
        clear hh
        go_simp
        exact ⟨_, rfl, regs.bl_refl _, rfl, hJ.out⟩
      · refine regs.StepOK.plain rfl fun L a w1 hh => ?_
        have h5 : a.tmps[5]?.getD undef = .pointer (some ⟨(w.heap.size + 2), 0, none⟩) := hh.kp 5 rfl rfl
        obtain ⟨⟨c0, c1, c2, c3⟩, -, -⟩ := (hh.st.1.2.2.1).c4
        have hJ := Lib.hid hh.st
        clear hh
        go_simp
        exact ⟨_, rfl, regs.bl_refl _, rfl, hJ.out⟩
      · refine regs.StepOK.plain rfl fun L a w1 hh => ?_
        have h58 := hh.v 2 58 rfl (by kernel_rfl) (by kernel_rfl)
        have h59 := hh.v 3 59 rfl (by kernel_rfl) (by kernel_rfl)
        have hJ := Lib.hid hh.st
        clear hh
        go_simp
        exact ⟨_, rfl, (Below.refl _ _).alloc (Nat.le_refl _) _, ⟨_, _, rfl, brow_new w1 [(⟨sa, sb, sc, sd⟩ : Bx), (⟨ta, tb, tc, td⟩ : Bx)] rfl, Nat.le_refl _, by simp [maxLen]⟩, TogAt.below hJ.out ((Below.refl _ _).alloc (Nat.le_refl _) _)⟩
      · refine regs.StepOK.plain rfl fun L a w1 hh => ?_
        have h57 := hh.v 1 57 rfl (by kernel_rfl) (by kernel_rfl)
        obtain ⟨A60, c60, h60, hrow60, hc60, hm60⟩ : ∃ A c, a.tmps[60]?.getD undef = .slice A 2 c ∧ BRow w1 A [(⟨sa, sb, sc, sd⟩ : Bx), (⟨ta, tb, tc, td⟩ : Bx)] ∧ 2 ≤ c ∧ c ≤ maxLen := by rw [← Array.getD_eq_getD_getElem?]; exact hh.dep 4 60 (by kernel_rfl) (by kernel_rfl)
        have hJ := Lib.hid hh.st
        clear hh
        go_simp
        refine (bx_cut (⟨ra, rb, rc, rd⟩ : Bx) A60 [(⟨sa, sb, sc, sd⟩ : Bx), (⟨ta, tb, tc, td⟩ : Bx)] c60 w1 hrow60 (by simp)).mono ?_
        rintro e w9 ⟨rfl, hb9⟩
        exact ⟨_, rfl, hb9, congrArg Bx.v (HV.out.1), TogAt.below hJ.out hb9⟩
      · refine regs.StepOK.plain rfl fun L a w1 hh => ?_
        have h61 := hh.v 5 61 rfl (by kernel_rfl) (by kernel_rfl)
        have := True.intro
        have hJ := Lib.hid hh.st
        clear hh
        go_simp
        refine (bx_area (⟨va, vb, vc, vd⟩ : Bx) w1 HV.out.2.2).mono ?_
        rintro e w9 ⟨rfl, hb9⟩
        exact ⟨_, rfl, hb9, congrArg (Value.int .i64) HV.out.2.1, TogAt.below hJ.out hb9⟩
      · refine regs.StepOK.plain rfl fun L a w1 hh => ?_
        have h56 := hh.v 0 56 rfl (by kernel_rfl) (by kernel_rfl)
        have h62 := hh.v 6 62 rfl (by kernel_rfl) (by kernel_rfl)
        have hw1 := HW.out
        have hJ := Lib.hid hh.st
        clear hh
        go_simp
        exact ⟨_, rfl, regs.bl_refl _, rfl, hJ.out⟩
      · refine regs.StepOK.plain rfl fun L a w1 hh => ?_
        have h3 : a.tmps[3]?.getD undef = .pointer (some ⟨w.heap.size, 0, none⟩) := hh.kp 3 rfl rfl
        obtain ⟨⟨c0, c1, c2, c3⟩, -, -⟩ := (hh.st.1.1).c4
        have hJ := Lib.hid hh.st
        clear hh
        go_simp
        exact ⟨_, rfl, regs.bl_refl _, rfl, hJ.out⟩
      · refine regs.StepOK.plain rfl fun L a w1 hh => ?_
        have h5 : a.tmps[5]?.getD undef = .pointer (some ⟨(w.heap.size + 2), 0, none⟩) := hh.kp 5 rfl rfl
        obtain ⟨⟨c0, c1, c2, c3⟩, -, -⟩ := (hh.st.1.2.2.1).c4
        have hJ := Lib.hid hh.st
        clear hh
        go_simp
        exact ⟨_, rfl, regs.bl_refl _, rfl, hJ.out⟩
      · refine regs.StepOK.plain rfl fun L a w1 hh => ?_
        have h65 := hh.v 9 65 rfl (by kernel_rfl) (by kernel_rfl)
        have hJ := Lib.hid hh.st
        clear hh
        go_simp
        exact ⟨_, rfl, (Below.refl _ _).alloc (Nat.le_refl _) _, ⟨_, _, rfl, brow_new w1 [(⟨ta, tb, tc, td⟩ : Bx)] rfl, Nat.le_refl _, by simp [maxLen]⟩, TogAt.below hJ.out ((Below.refl _ _).alloc (Nat.le_refl _) _)⟩
      · refine regs.StepOK.plain rfl fun L a w1 hh => ?_
        have h64 := hh.v 8 64 rfl (by kernel_rfl) (by kernel_rfl)
        obtain ⟨A66, c66, h66, hrow66, hc66, hm66⟩ : ∃ A c, a.tmps[66]?.getD undef = .slice A 1 c ∧ BRow w1 A [(⟨ta, tb, tc, td⟩ : Bx)] ∧ 1 ≤ c ∧ c ≤ maxLen := by rw [← Array.getD_eq_getD_getElem?]; exact hh.dep 10 66 (by kernel_rfl) (by kernel_rfl)
        have hJ := Lib.hid hh.st
        clear hh
        go_simp
        refine (bx_cut (⟨ra, rb, rc, rd⟩ : Bx) A66 [(⟨ta, tb, tc, td⟩ : Bx)] c66 w1 hrow66 (by simp)).mono ?_
        rintro e w9 ⟨rfl, hb9⟩
        exact ⟨_, rfl, hb9, congrArg Bx.v (HU.out.1), TogAt.below hJ.out hb9⟩
      · refine regs.StepOK.plain rfl fun L a w1 hh => ?_
        have h67 := hh.v 11 67 rfl (by kernel_rfl) (by kernel_rfl)
        have := True.intro
        have hJ := Lib.hid hh.st
        clear hh
        go_simp
        refine (bx_area (⟨ua, ub, uc, ud⟩ : Bx) w1 HU.out.2.2).mono ?_
        rintro e w9 ⟨rfl, hb9⟩
        exact ⟨_, rfl, hb9, congrArg (Value.int .i64) HU.out.2.1, TogAt.below hJ.out hb9⟩
      · refine regs.StepOK.plain rfl fun L a w1 hh => ?_
        have h63 := hh.v 7 63 rfl (by kernel_rfl) (by kernel_rfl)
        have h68 := hh.v 12 68 rfl (by kernel_rfl) (by kernel_rfl)
        have hJ := Lib.hid hh.st
        clear hh
        go_simp
        exact ⟨_, rfl, regs.bl_refl _, rfl, hJ.out⟩
      · refine regs.StepOK.plain rfl fun L a w1 hh => ?_
        have h69 := hh.v 13 69 rfl (by kernel_rfl) (by kernel_rfl)
        have hJ := Lib.hid hh.st
        clear hh
        go_simp
        exact ⟨_, rfl, regs.bl_refl _, rfl, hJ.out⟩
      · refine regs.StepOK.yes 14 true 70 rfl rfl (fun L a w1 hh => hh.dep 14 70 (by kernel_rfl) (by kernel_rfl)) fun L a w1 hh => ?_
        have h3 : a.tmps[3]?.getD undef = .pointer (some ⟨w.heap.size, 0, none⟩) := hh.kp 3 rfl rfl
        obtain ⟨⟨c0, c1, c2, c3⟩, -, -⟩ := (hh.st.1.1).c4
        have hJ := Lib.hid hh.st
        clear hh
        go_simp
        exact ⟨_, rfl, regs.bl_refl _, rfl, hJ.out⟩
      · refine regs.StepOK.yes 14 true 70 rfl rfl (fun L a w1 hh => hh.dep 14 70 (by kernel_rfl) (by kernel_rfl)) fun L a w1 hh => ?_
        have h4 : a.tmps[4]?.getD undef = .pointer (some ⟨(w.heap.size + 1), 0, none⟩) := hh.kp 4 rfl rfl
        obtain ⟨⟨c0, c1, c2, c3⟩, -, -⟩ := (hh.st.1.2.1).c4
        have hJ := Lib.hid hh.st
        clear hh
        go_simp
        exact ⟨_, rfl, regs.bl_refl _, rfl, hJ.out⟩
      · refine regs.StepOK.yes 14 true 70 rfl rfl (fun L a w1 hh => hh.dep 14 70 (by kernel_rfl) (by kernel_rfl)) fun L a w1 hh => ?_
        have h72 := hh.v 16 72 rfl (by kernel_rfl) (by kernel_rfl)
        have hJ := Lib.hid hh.st
        clear hh
        go_simp
        exact ⟨_, rfl, (Below.refl _ _).alloc (Nat.le_refl _) _, ⟨_, _, rfl, brow_new w1 [(⟨sa, sb, sc, sd⟩ : Bx)] rfl, Nat.le_refl _, by simp [maxLen]⟩, TogAt.below hJ.out ((Below.refl _ _).alloc (Nat.le_refl _) _)⟩
      · refine regs.StepOK.yes 14 true 70 rfl rfl (fun L a w1 hh => hh.dep 14 70 (by kernel_rfl) (by kernel_rfl)) fun L a w1 hh => ?_
        have h71 := hh.v 15 71 rfl (by kernel_rfl) (by kernel_rfl)
        obtain ⟨A73, c73, h73, hrow73, hc73, hm73⟩ : ∃ A c, a.tmps[73]?.getD undef = .slice A 1 c ∧ BRow w1 A [(⟨sa, sb, sc, sd⟩ : Bx)] ∧ 1 ≤ c ∧ c ≤ maxLen := by rw [← Array.getD_eq_getD_getElem?]; exact hh.dep 17 73 (by kernel_rfl) (by kernel_rfl)
        have hJ := Lib.hid hh.st
        clear hh
        go_simp
        refine (bx_join (⟨ra, rb, rc, rd⟩ : Bx) A73 [(⟨sa, sb, sc, sd⟩ : Bx)] c73 w1 hrow73 (by simp)).mono ?_
        rintro e w9 ⟨rfl, hb9⟩
        exact ⟨_, rfl, hb9, congrArg Bx.v (HXJ.out.1), TogAt.below hJ.out hb9⟩
      · refine regs.StepOK.yes 14 true 70 rfl rfl (fun L a w1 hh => hh.dep 14 70 (by kernel_rfl) (by kernel_rfl)) fun L a w1 hh => ?_
        have h3 : a.tmps[3]?.getD undef = .pointer (some ⟨w.heap.size, 0, none⟩) := hh.kp 3 rfl rfl
        obtain ⟨⟨c0, c1, c2, c3⟩, -, -⟩ := (hh.st.1.1).c4
        have hJ := Lib.hid hh.st
        clear hh
        go_simp
        exact ⟨_, rfl, regs.bl_refl _, rfl, hJ.out⟩
      · refine regs.StepOK.yes 14 true 70 rfl rfl (fun L a w1 hh => hh.dep 14 70 (by kernel_rfl) (by kernel_rfl)) fun L a w1 hh => ?_
        have h75 := hh.v 19 75 rfl (by kernel_rfl) (by kernel_rfl)
        have hJ := Lib.hid hh.st
        clear hh
        go_simp
        exact ⟨_, rfl, (Below.refl _ _).alloc (Nat.le_refl _) _, ⟨_, _, rfl, brow_new w1 [(⟨ra, rb, rc, rd⟩ : Bx)] rfl, Nat.le_refl _, by simp [maxLen]⟩, TogAt.below hJ.out ((Below.refl _ _).alloc (Nat.le_refl _) _)⟩
      · refine regs.StepOK.yes 14 true 70 rfl rfl (fun L a w1 hh => hh.dep 14 70 (by kernel_rfl) (by kernel_rfl)) fun L a w1 hh => ?_
        have h74 := hh.v 18 74 rfl (by kernel_rfl) (by kernel_rfl)
        obtain ⟨A76, c76, h76, hrow76, hc76, hm76⟩ : ∃ A c, a.tmps[76]?.getD undef = .slice A 1 c ∧ BRow w1 A [(⟨ra, rb, rc, rd⟩ : Bx)] ∧ 1 ≤ c ∧ c ≤ maxLen := by rw [← Array.getD_eq_getD_getElem?]; exact hh.dep 20 76 (by kernel_rfl) (by kernel_rfl)
        have hJ := Lib.hid hh.st
        clear hh
        go_simp
        refine (bx_cut (⟨xa, xb, xc, xd⟩ : Bx) A76 [(⟨ra, rb, rc, rd⟩ : Bx)] c76 w1 hrow76 (by simp)).mono ?_
        rintro e w9 ⟨rfl, hb9⟩
        exact ⟨_, rfl, hb9, congrArg Bx.v (HXJ.out.2), TogAt.below hJ.out hb9⟩
      · refine regs.StepOK.yes 14 true 70 rfl rfl (fun L a w1 hh => hh.dep 14 70 (by kernel_rfl) (by kernel_rfl)) fun L a w1 hh => ?_
        have h3 : a.tmps[3]?.getD undef = .pointer (some ⟨w.heap.size, 0, none⟩) := hh.kp 3 rfl rfl
        obtain ⟨⟨c0, c1, c2, c3⟩, -, -⟩ := (hh.st.1.1).c4
        have hJ := Lib.hid hh.st
        clear hh
        go_simp
        exact ⟨_, rfl, regs.bl_refl _, rfl, hJ.out⟩
      · refine regs.StepOK.yes 14 true 70 rfl rfl (fun L a w1 hh => hh.dep 14 70 (by kernel_rfl) (by kernel_rfl)) fun L a w1 hh => ?_
        have h78 := hh.v 22 78 rfl (by kernel_rfl) (by kernel_rfl)
        have := True.intro
        have hJ := Lib.hid hh.st
        clear hh
        go_simp
        refine (bx_cut (⟨ra, rb, rc, rd⟩ : Bx) none [] 0 w1 (SRow.none_ rfl) (by simp)).mono ?_
        rintro e w9 ⟨rfl, hb9⟩
        exact ⟨_, rfl, hb9, congrArg Bx.v (HA.out), TogAt.below hJ.out hb9⟩
      · refine regs.StepOK.yes 14 true 70 rfl rfl (fun L a w1 hh => hh.dep 14 70 (by kernel_rfl) (by kernel_rfl)) fun L a w1 hh => ?_
        have h77 := hh.v 21 77 rfl (by kernel_rfl) (by kernel_rfl)
        have h79 := hh.v 23 79 rfl (by kernel_rfl) (by kernel_rfl)
        have eqst := fun w => bx_eq (⟨aa, ab, ac, ad⟩ : Bx) (⟨aa, ab, ac, ad⟩ : Bx) w
        rw [show (decide ((⟨aa, ab, ac, ad⟩ : Bx) = (⟨aa, ab, ac, ad⟩ : Bx))) = true from by simp] at eqst
        unfold Bx.v at eqst
        simp only at eqst
        have hJ := Lib.hid hh.st
        clear hh
        go_simp
        exact ⟨_, rfl, regs.bl_refl _, rfl, hJ.out⟩
      · refine regs.StepOK.plain rfl fun L a w1 hh => ?_
        have h70 := hh.v 14 70 rfl (by kernel_rfl) (by kernel_rfl)
        have h80 := hh.v 24 80 rfl (by kernel_rfl) (by kernel_rfl)
        have hJ := Lib.hid hh.st
        clear hh
        go_simp
        exact ⟨_, rfl, regs.bl_refl _, rfl, hJ.out⟩
      · refine regs.StepOK.plain rfl fun L a w1 hh => ?_
        have h81 := hh.v 25 81 rfl (by kernel_rfl) (by kernel_rfl)
        have hJ := Lib.hid hh.st
        clear hh
        go_simp
        exact ⟨_, rfl, regs.bl_refl _, rfl, hJ.out⟩
      · refine regs.StepOK.yes 26 true 82 rfl rfl (fun L a w1 hh => hh.dep 26 82 (by kernel_rfl) (by kernel_rfl)) fun L a w1 hh => ?_
        have := True.intro
        have hJ := Lib.hid hh.st
        clear hh
        go_simp
        refine (awake_any w1).mono ?_
        rintro e w9 ⟨rfl, hb9⟩
        exact ⟨_, rfl, hb9, rfl, TogAt.below hJ.out hb9⟩
      · refine regs.StepOK.plain rfl fun L a w1 hh => ?_
        have h82 := hh.v 26 82 rfl (by kernel_rfl) (by kernel_rfl)
        have h83 := hh.v 27 83 rfl (by kernel_rfl) (by kernel_rfl)
        have hJ := Lib.hid hh.st
        clear hh
        go_simp
        exact ⟨_, rfl, regs.bl_refl _, rfl, hJ.out⟩
      · refine regs.StepOK.plain rfl fun L a w1 hh => ?_
        have h84 := hh.v 28 84 rfl (by kernel_rfl) (by kernel_rfl)
        have hJ := Lib.hid hh.st
        clear hh
        go_simp
        exact ⟨_, rfl, regs.bl_refl _, rfl, hJ.out⟩
      intro L w9 val hL hJ hR hv
      have h84 : val 84 = .bool true := hv 28 84 (by kernel_rfl)
      have h6 : val 6 = .bool true := hv 29 6 (by kernel_rfl)
      have HJ9 := Lib.hid hJ
      have HR9 := Lib.hid hR
      clear hv hL hJ hR
      simp only [regs.putAll, List.map_cons, List.map_nil]
      rw [h84, h6]
      generalize val 56 = v56
      generalize val 57 = v57
      generalize val 58 = v58
      generalize val 59 = v59
      generalize val 60 = v60
      generalize val 61 = v61
      generalize val 62 = v62
      generalize val 63 = v63
      generalize val 64 = v64
      generalize val 65 = v65
      generalize val 66 = v66
      generalize val 67 = v67
      generalize val 68 = v68
      generalize val 69 = v69
      generalize val 70 = v70
      generalize val 71 = v71
      generalize val 72 = v72
      generalize val 73 = v73
      generalize val 74 = v74
      generalize val 75 = v75
      generalize val 76 = v76
      generalize val 77 = v77
      generalize val 78 = v78
      generalize val 79 = v79
      generalize val 80 = v80
      generalize val 81 = v81
      generalize val 82 = v82
      generalize val 83 = v83
      simp only [Act.put, List.setIfInBounds_toArray, List.set_cons_zero, List.set_cons_succ]
      clear h84 h6
      go_wp2_with (fail)
      go_ret
      exact ⟨rfl, HJ9.out.2⟩
theorem rectTogether_walk (r s t : Bx) (w : World) : Calls Try.prog 6 #[r.v, s.v, t.v] w fun e w' => e = .returned (.bool true) ∧ Below w.heap.size w w' := by
  cases h : (r.rt && (s.rt && t.rt)) with
  | false => exact rectTogether_no r s t w h
  | true =>
    rw [Bool.and_eq_true, Bool.and_eq_true] at h
    exact rectTogether_yes r s t w h.1 h.2.1 h.2.2
end Go.Proofs.Ytjnhjhbhodhfgaa
