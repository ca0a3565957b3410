/-
  Layer 6: about, Less.
-/
import Derived.Test.YtjnhjhbhodhfgaaRxC
namespace Go.Proofs.Ytjnhjhbhodhfgaa
open Go.RowKit

def Bx.v16 (p q s t : Bx) : Value := .agg #[.int .i64 p.a, .int .i64 p.b, .int .i64 p.c, .int .i64 p.d, .int .i64 q.a, .int .i64 q.b, .int .i64 q.c, .int .i64 q.d, .int .i64 s.a, .int .i64 s.b, .int .i64 s.c, .int .i64 s.d, .int .i64 t.a, .int .i64 t.b, .int .i64 t.c, .int .i64 t.d]
set_option maxRecDepth 100000 in
set_option maxHeartbeats 1000000 in
theorem bx_about (r h : Bx) (w : World) : Calls Try.prog 23 #[r.v, h.v] w fun e w' => e = .returned (Bx.v16 ⟨r.a, r.b, r.c, h.b⟩ ⟨r.a, h.b, h.a, h.d⟩ ⟨h.c, h.b, r.c, h.d⟩ ⟨r.a, h.d, r.c, r.d⟩) ∧ Below w.heap.size w w' := by
  obtain ⟨ra, rb, rc, rd⟩ := r
  obtain ⟨ha, hb, hc, hd⟩ := h
  unfold Bx.v Bx.v16
  simp only
  go_enter Try.func23, Try.ntmps23
  go_wp2_with (fail)
  exact blk_ret rfl rfl (blk_at _ _ (by simp) [.int .i64 ra, .int .i64 rb, .int .i64 rc, .int .i64 hb, .int .i64 ra, .int .i64 hb, .int .i64 ha, .int .i64 hd, .int .i64 hc, .int .i64 hb, .int .i64 rc, .int .i64 hd, .int .i64 ra, .int .i64 hd, .int .i64 rc, .int .i64 rd] _) Try.underlying44 rfl (by kernel_rfl) ⟨rfl, below3 _ _ _⟩
def Bx.pts (r h : Bx) : List Bx := [⟨r.a, r.b, r.c, h.b⟩, ⟨r.a, h.b, h.a, h.d⟩, ⟨h.c, h.b, r.c, h.d⟩, ⟨r.a, h.d, r.c, r.d⟩]
def Bx.full (p : Bx) : Bool := !p.emp
def Bx.less (r s : Bx) : List Bx := if r.emp = true then [] else if r.cut [s] = Bx.o then [r] else (r.pts (r.cut [s])).filter Bx.full
abbrev BOwn (w : World) (base : Nat) (v : Value) (l : List Bx) : Prop := SOwn 23 4 Bx.cs w base v l
theorem info_rect : (Try.prog.info? 23).map (fun i => (i.zero, i.size, i.bytes)) = some (some (.agg #[.int .i64 0, .int .i64 0, .int .i64 0, .int .i64 0]), 4, 32) := by kernel_rfl
theorem bcs_plain (x : Bx) : ∀ u ∈ Bx.cs x, u.oneCell' = true := by
  intro u hu
  simp only [Bx.cs, List.mem_cons, List.not_mem_nil, or_false] at hu
  rcases hu with rfl | rfl | rfl | rfl <;> rfl
theorem app_bx {w : World} {base : Nat} {v : Value} {l xs : List Bx} (h : BOwn w base v l) {g o c : Nat} (hx : xs ≠ [] → BRow w (some ⟨g, o, none⟩) xs) (hn : l.length + xs.length ≤ 1000000000) (hbase : base ≤ w.heap.size) :
    ∃ v' w', (Builtin.append_ #[33, 33] 33 #[v, .slice (some ⟨g, o, none⟩) xs.length c]).run Try.prog w = .ok v' w' ∧ BOwn w' base v' (l ++ xs) ∧ w.grownBy w' v.ownBlock ∧ (v'.ownBlock = v.ownBlock ∨ v'.ownBlock = some w.heap.size) :=
  SOwn.app Try.underlying33 info_rect rfl (by decide) (by decide) bcs_len bcs_plain h hx hn hbase
theorem filter_snoc {α : Type} (p : α → Bool) (l : List α) {k : Nat} (hk : k < l.length) : (l.take (k + 1)).filter p = (l.take k).filter p ++ (if p l[k] = true then [l[k]] else []) := by
  rw [List.take_succ_eq_append_getElem hk, List.filter_append]
  congr 1
  by_cases h : p l[k] = true
  · rw [if_pos h, List.filter_cons_of_pos h]; rfl
  · rw [if_neg h, List.filter_cons_of_neg h]; rfl
theorem bx_idx0 (x0 x1 x2 x3 x4 x5 x6 x7 x8 x9 x10 x11 x12 x13 x14 x15 : Value) (w : World) : (Instr.index 44 (.agg #[x0, x1, x2, x3, x4, x5, x6, x7, x8, x9, x10, x11, x12, x13, x14, x15]) (.int .i64 0)).run Try.prog w = .ok (.agg #[x0, x1, x2, x3]) w := by
  obtain ⟨i, hi, -, hs, -⟩ := info_parts info_rect
  simp [Instr.index, run_underlying Try.underlying44, asIntOf, go_sem, sizeOf, typeInfo, hi, hs]
theorem bx_idx1 (x0 x1 x2 x3 x4 x5 x6 x7 x8 x9 x10 x11 x12 x13 x14 x15 : Value) (w : World) : (Instr.index 44 (.agg #[x0, x1, x2, x3, x4, x5, x6, x7, x8, x9, x10, x11, x12, x13, x14, x15]) (.int .i64 1)).run Try.prog w = .ok (.agg #[x4, x5, x6, x7]) w := by
  obtain ⟨i, hi, -, hs, -⟩ := info_parts info_rect
  simp [Instr.index, run_underlying Try.underlying44, asIntOf, go_sem, sizeOf, typeInfo, hi, hs]
theorem bx_idx2 (x0 x1 x2 x3 x4 x5 x6 x7 x8 x9 x10 x11 x12 x13 x14 x15 : Value) (w : World) : (Instr.index 44 (.agg #[x0, x1, x2, x3, x4, x5, x6, x7, x8, x9, x10, x11, x12, x13, x14, x15]) (.int .i64 2)).run Try.prog w = .ok (.agg #[x8, x9, x10, x11]) w := by
  obtain ⟨i, hi, -, hs, -⟩ := info_parts info_rect
  simp [Instr.index, run_underlying Try.underlying44, asIntOf, go_sem, sizeOf, typeInfo, hi, hs]
theorem bx_idx3 (x0 x1 x2 x3 x4 x5 x6 x7 x8 x9 x10 x11 x12 x13 x14 x15 : Value) (w : World) : (Instr.index 44 (.agg #[x0, x1, x2, x3, x4, x5, x6, x7, x8, x9, x10, x11, x12, x13, x14, x15]) (.int .i64 3)).run Try.prog w = .ok (.agg #[x12, x13, x14, x15]) w := by
  obtain ⟨i, hi, -, hs, -⟩ := info_parts info_rect
  simp [Instr.index, run_underlying Try.underlying44, asIntOf, go_sem, sizeOf, typeInfo, hi, hs]
def LessQ (r s : Bx) (w : World) (e : Ending) (w' : World) : Prop := ∃ v, e = .returned v ∧ BOwn w' w.heap.size v (r.less s) ∧ Below w.heap.size w w'
theorem BOwn.below' {w w' : World} {base : Nat} {v : Value} {l : List Bx} (h : BOwn w base v l) (hb : Below w.heap.size w w') : BOwn w' base v l := SOwn.below h hb

set_option maxRecDepth 100000 in
set_option maxHeartbeats 4000000 in
theorem bx_less (r s : Bx) (w : World) : Calls Try.prog 20 #[r.v, s.v] w (LessQ r s w) := by
  have HE := Lib.hid (fun w => bx_empty r w)
  have HC := Lib.hid (fun g w h => bx_cut r (some ⟨g, 0, none⟩) [s] 1 w h (by simp))
  have HD : Hid (r.less s = if r.emp = true then [] else if r.cut [s] = Bx.o then [r] else (r.pts (r.cut [s])).filter Bx.full) := rfl
  have HQ := fun w => bx_eq (r.cut [s]) Bx.o w
  have HAB := Lib.hid (fun w => bx_about r (r.cut [s]) w)
  obtain ⟨R, hR⟩ : ∃ R, r.less s = R := ⟨_, rfl⟩
  have HLQ : Hid (∀ e w', (∃ v, e = .returned v ∧ BOwn w' w.heap.size v R ∧ Below w.heap.size w w') → LessQ r s w e w') := fun e w' h => by
    unfold LessQ
    rw [hR]
    exact h
  rw [hR] at HD
  clear hR
  generalize hy : r.emp = y at *
  generalize r.cut [s] = q at *
  have HRR := Lib.hid (fun w g h => brow_new w [r] (g := g) h)
  have HRS := Lib.hid (fun w g h => brow_new w [s] (g := g) h)
  have HOO : Hid (∀ w : World, BOwn (w.alloc (.cells ([r].flatMap Bx.cs).toArray 23)) w.heap.size (.slice (some ⟨w.heap.size, 0, none⟩) [r].length [r].length) [r]) := fun w => SOwn.lit bcs_len w [r] (Nat.le_refl _) (by simp [maxLen])
  generalize LessQ r s w = LQ at *
  obtain ⟨ra, rb, rc, rd⟩ := r
  obtain ⟨sa, sb, sc, sd⟩ := s
  obtain ⟨qa, qb, qc, qd⟩ := q
  unfold Bx.v Bx.o at HQ
  unfold Bx.v at HE HC HAB ⊢
  simp only at HE HC HAB HQ ⊢
  simp only [List.length_cons, List.length_nil, Nat.zero_add] at HC HOO
  go_enter Try.func20, Try.ntmps20
  go_wp2_with (fail)
  refine (HE.out _).mono ?_
  rintro e w1 ⟨rfl, hb⟩
  have B1 : Hid (Below w.heap.size w w1) := (((Below.refl _ _).alloc (Nat.le_refl _) _).alloc (by simp) _).trans (hb.mono (by simp; try omega))
  have K0 : Hid (Blk w1 w.heap.size [.int .i64 ra, .int .i64 rb, .int .i64 rc, .int .i64 rd]) := ((blk_new w [.int .i64 ra, .int .i64 rb, .int .i64 rc, .int .i64 rd] _).alloc _).below hb (by simp; omega)
  have K1 : Hid (Blk w1 (w.heap.size + 1) [.int .i64 sa, .int .i64 sb, .int .i64 sc, .int .i64 sd]) := (blk_at (w.alloc _) _ (by simp) [.int .i64 sa, .int .i64 sb, .int .i64 sc, .int .i64 sd] _).below hb (by simp)
  clear hb HE
  cases y with
  | true =>
    rw [if_pos rfl] at HD
    clear HQ
    go_wp2_with (fail)
    exact HLQ.out _ _ ⟨_, rfl, by rw [HD.out]; exact SOwn.nil _ _, B1.out⟩
  | false =>
    rw [if_neg (by decide)] at HD
    obtain ⟨⟨c0, c1, c2, c3⟩, -, i0⟩ := K0.out.c4
    obtain ⟨⟨d0, d1, d2, d3⟩, -, i1⟩ := K1.out.c4
    go_wp2_with (fail)
    refine (HC.out _ _ (HRS.out _ _ rfl)).mono ?_
    rintro e w2 ⟨rfl, hb⟩
    have B2 : Hid (Below w.heap.size w w2) := (B1.out.alloc B1.out.size _).trans (hb.mono (by have := B1.out.size; simp; omega))
    have K2 : Hid (Blk w2 w.heap.size [.int .i64 ra, .int .i64 rb, .int .i64 rc, .int .i64 rd]) := (K0.out.alloc _).below' hb
    clear hb c0 c1 c2 c3 i0 d0 d1 d2 d3 i1 K0 K1
    obtain ⟨⟨c0, c1, c2, c3⟩, -, i0⟩ := K2.out.c4
    by_cases hq : (⟨qa, qb, qc, qd⟩ : Bx) = ⟨0, 0, 0, 0⟩
    · rw [decide_eq_true hq] at HQ
      rw [if_pos (show (⟨qa, qb, qc, qd⟩ : Bx) = Bx.o from hq)] at HD
      clear hq
      go_wp2_with (fail)
      have hz : (w2.alloc (.cells #[.int .i64 qa, .int .i64 qb, .int .i64 qc, .int .i64 qd] 23)).heap.size = w2.heap.size + 1 := by simp
      have hO := HOO.out (w2.alloc (.cells #[.int .i64 qa, .int .i64 qb, .int .i64 qc, .int .i64 qd] 23))
      rw [hz] at hO
      exact HLQ.out _ _ ⟨_, rfl, by rw [HD.out]; exact SOwn.weaken hO (by have := B2.out.size; omega), (B2.out.alloc B2.out.size _).alloc (by rw [hz]; have := B2.out.size; omega) _⟩
    · rw [decide_eq_false hq] at HQ
      rw [if_neg (show ¬ (⟨qa, qb, qc, qd⟩ : Bx) = Bx.o from hq)] at HD
      clear hq
      go_wp2_with (fail)
      refine (HAB.out _).mono ?_
      rintro e w3 ⟨rfl, hb⟩
      have B3 : Hid (Below w.heap.size w w3) := (B2.out.alloc B2.out.size _).trans (hb.mono (by have := B2.out.size; simp; omega))
      clear hb c0 c1 c2 c3 i0 K2 HQ HAB HC
      unfold Bx.v16
      simp only
      obtain ⟨ps, hps⟩ : ∃ ps, ps = Bx.pts ⟨ra, rb, rc, rd⟩ ⟨qa, qb, qc, qd⟩ := ⟨_, rfl⟩
      rw [← hps] at HD
      have HPS := Lib.hid hps
      clear hps
      go_wp2_with (fail)
      go_loopw [6, 23] (fun v i wr => ∃ (k : Nat), k ≤ 4 ∧ i = .int .i64 k ∧ Hid (BOwn wr w.heap.size v ((ps.take k).filter Bx.full)) ∧ Hid (Below w.heap.size w wr)) (fun _ i _ => 4 - (intOf i).toNat)
      case atStart => exact ⟨0, by omega, rfl, SOwn.nil _ _, B3.out⟩
      case round =>
        obtain ⟨k, hk, rfl, HO, hbr⟩ := hrel
        by_cases hlt : k < 4
        · obtain ⟨p, hp, hpe⟩ : ∃ p : Bx, p.v = p.v ∧ ∃ h : k < ps.length, ps[k] = p := ⟨ps[k]'(by rw [HPS.out]; exact hlt), rfl, by rw [HPS.out]; exact hlt, rfl⟩
          obtain ⟨hpl, hpe⟩ := hpe
          have HSN := Lib.hid (filter_snoc Bx.full ps hpl)
          rw [hpe] at HSN
          have HE := Lib.hid (fun w => bx_empty p w)
          have HF : Hid (Bx.full p = !p.emp) := rfl
          have HBW := Lib.hid (fun w g h => brow_new w [p] (g := g) h)
          have hcase : k = 0 ∨ k = 1 ∨ k = 2 ∨ k = 3 := by omega
          have HL4 : Hid (((ps.take k).filter Bx.full).length ≤ 4) := Nat.le_trans (List.length_filter_le _ _) (by rw [List.length_take]; omega)
          clear hp hlt
          rcases hcase with rfl | rfl | rfl | rfl
          · obtain rfl : p = ⟨ra, rb, rc, qb⟩ := by rw [← hpe]; have := HPS.out; subst this; rfl
            generalize (ps.take 0).filter Bx.full = l at *
            clear hpe
            generalize Bx.emp ⟨ra, rb, rc, qb⟩ = y at *
            unfold Bx.v at HE
            simp only at HE
            have hix := fun w => bx_idx0 (.int .i64 ra) (.int .i64 rb) (.int .i64 rc) (.int .i64 qb) (.int .i64 ra) (.int .i64 qb) (.int .i64 qa) (.int .i64 qd) (.int .i64 qc) (.int .i64 qb) (.int .i64 rc) (.int .i64 qd) (.int .i64 ra) (.int .i64 qd) (.int .i64 rc) (.int .i64 rd) w
            go_wp2_with (fail)
            refine (HE.out _).mono ?_
            rintro e w5 ⟨rfl, hb5⟩
            have B5 : Hid (Below w.heap.size w w5) := (hbr.out.alloc hbr.out.size _).trans (hb5.mono (by have := hbr.out.size; simp; omega))
            have K5 : Hid (Blk w5 wr.heap.size [.int .i64 ra, .int .i64 rb, .int .i64 rc, .int .i64 qb]) := (blk_new wr [.int .i64 ra, .int .i64 rb, .int .i64 rc, .int .i64 qb] _).below' hb5
            have HO5 : Hid (BOwn w5 w.heap.size u6 l) := SOwn.below (SOwn.below HO.out ((Below.refl _ _).alloc (Nat.le_refl _) _)) hb5
            clear hb5 HE
            cases y with
            | true =>
              have HS2 : Hid ((ps.take (0 + 1)).filter Bx.full = l) := by show _ = _; rw [HSN.out, HF.out]; simp
              clear HSN
              go_wp2_with (fail)
              exact ⟨⟨1, by omega, by go_num, by rw [show 1 = 0 + 1 from rfl, HS2.out]; exact HO5.out, B5.out⟩, by simp [intOf]⟩
            | false =>
              have HS2 : Hid ((ps.take (0 + 1)).filter Bx.full = l ++ [⟨ra, rb, rc, qb⟩]) := by show _ = _; rw [HSN.out, HF.out]; simp
              clear HSN
              obtain ⟨⟨c0, c1, c2, c3⟩, -, hin⟩ := K5.out.c4
              obtain ⟨v', w6, hrun, own6, hgr, -⟩ := app_bx (c := 1) (HO5.out.below' ((Below.refl _ _).alloc (Nat.le_refl _) (.cells ([(⟨ra, rb, rc, qb⟩ : Bx)].flatMap Bx.cs).toArray 23))) (xs := [⟨ra, rb, rc, qb⟩]) (fun _ => HBW.out w5 _ rfl) (by have := HL4.out; simp; omega) (by have := B5.out.size; simp; omega)
              have B6 : Hid (Below w.heap.size w w6) := (B5.out.alloc B5.out.size _).grown hgr (by have := B5.out.size; simp; omega) (fun j hj => (HO5.out.block hj).1)
              have HO6 : Hid (BOwn w6 w.heap.size v' ((ps.take (0 + 1)).filter Bx.full)) := by rw [HS2.out]; exact own6
              clear own6 hgr HS2
              go_wp2_with (at_builtin; refine wpl_append rfl _ _ 33 33 33 rfl rfl _ _ _ _ rfl rfl hrun ?_)
              clear hrun
              go_roundw
              case rel => exact ⟨1, by omega, by go_num, HO6.out, B6.out⟩
              case measure => simp [intOf]
          · obtain rfl : p = ⟨ra, qb, qa, qd⟩ := by rw [← hpe]; have := HPS.out; subst this; rfl
            generalize (ps.take 1).filter Bx.full = l at *
            clear hpe
            generalize Bx.emp ⟨ra, qb, qa, qd⟩ = y at *
            unfold Bx.v at HE
            simp only at HE
            have hix := fun w => bx_idx1 (.int .i64 ra) (.int .i64 rb) (.int .i64 rc) (.int .i64 qb) (.int .i64 ra) (.int .i64 qb) (.int .i64 qa) (.int .i64 qd) (.int .i64 qc) (.int .i64 qb) (.int .i64 rc) (.int .i64 qd) (.int .i64 ra) (.int .i64 qd) (.int .i64 rc) (.int .i64 rd) w
            go_wp2_with (fail)
            refine (HE.out _).mono ?_
            rintro e w5 ⟨rfl, hb5⟩
            have B5 : Hid (Below w.heap.size w w5) := (hbr.out.alloc hbr.out.size _).trans (hb5.mono (by have := hbr.out.size; simp; omega))
            have K5 : Hid (Blk w5 wr.heap.size [.int .i64 ra, .int .i64 qb, .int .i64 qa, .int .i64 qd]) := (blk_new wr [.int .i64 ra, .int .i64 qb, .int .i64 qa, .int .i64 qd] _).below' hb5
            have HO5 : Hid (BOwn w5 w.heap.size u6 l) := SOwn.below (SOwn.below HO.out ((Below.refl _ _).alloc (Nat.le_refl _) _)) hb5
            clear hb5 HE
            cases y with
            | true =>
              have HS2 : Hid ((ps.take (1 + 1)).filter Bx.full = l) := by show _ = _; rw [HSN.out, HF.out]; simp
              clear HSN
              go_wp2_with (fail)
              exact ⟨⟨2, by omega, by go_num, by rw [show 2 = 1 + 1 from rfl, HS2.out]; exact HO5.out, B5.out⟩, by simp [intOf]⟩
            | false =>
              have HS2 : Hid ((ps.take (1 + 1)).filter Bx.full = l ++ [⟨ra, qb, qa, qd⟩]) := by show _ = _; rw [HSN.out, HF.out]; simp
              clear HSN
              obtain ⟨⟨c0, c1, c2, c3⟩, -, hin⟩ := K5.out.c4
              obtain ⟨v', w6, hrun, own6, hgr, -⟩ := app_bx (c := 1) (HO5.out.below' ((Below.refl _ _).alloc (Nat.le_refl _) (.cells ([(⟨ra, qb, qa, qd⟩ : Bx)].flatMap Bx.cs).toArray 23))) (xs := [⟨ra, qb, qa, qd⟩]) (fun _ => HBW.out w5 _ rfl) (by have := HL4.out; simp; omega) (by have := B5.out.size; simp; omega)
              have B6 : Hid (Below w.heap.size w w6) := (B5.out.alloc B5.out.size _).grown hgr (by have := B5.out.size; simp; omega) (fun j hj => (HO5.out.block hj).1)
              have HO6 : Hid (BOwn w6 w.heap.size v' ((ps.take (1 + 1)).filter Bx.full)) := by rw [HS2.out]; exact own6
              clear own6 hgr HS2
              go_wp2_with (at_builtin; refine wpl_append rfl _ _ 33 33 33 rfl rfl _ _ _ _ rfl rfl hrun ?_)
              clear hrun
              go_roundw
              case rel => exact ⟨2, by omega, by go_num, HO6.out, B6.out⟩
              case measure => simp [intOf]
          · obtain rfl : p = ⟨qc, qb, rc, qd⟩ := by rw [← hpe]; have := HPS.out; subst this; rfl
            generalize (ps.take 2).filter Bx.full = l at *
            clear hpe
            generalize Bx.emp ⟨qc, qb, rc, qd⟩ = y at *
            unfold Bx.v at HE
            simp only at HE
            have hix := fun w => bx_idx2 (.int .i64 ra) (.int .i64 rb) (.int .i64 rc) (.int .i64 qb) (.int .i64 ra) (.int .i64 qb) (.int .i64 qa) (.int .i64 qd) (.int .i64 qc) (.int .i64 qb) (.int .i64 rc) (.int .i64 qd) (.int .i64 ra) (.int .i64 qd) (.int .i64 rc) (.int .i64 rd) w
            go_wp2_with (fail)
            refine (HE.out _).mono ?_
            rintro e w5 ⟨rfl, hb5⟩
            have B5 : Hid (Below w.heap.size w w5) := (hbr.out.alloc hbr.out.size _).trans (hb5.mono (by have := hbr.out.size; simp; omega))
            have K5 : Hid (Blk w5 wr.heap.size [.int .i64 qc, .int .i64 qb, .int .i64 rc, .int .i64 qd]) := (blk_new wr [.int .i64 qc, .int .i64 qb, .int .i64 rc, .int .i64 qd] _).below' hb5
            have HO5 : Hid (BOwn w5 w.heap.size u6 l) := SOwn.below (SOwn.below HO.out ((Below.refl _ _).alloc (Nat.le_refl _) _)) hb5
            clear hb5 HE
            cases y with
            | true =>
              have HS2 : Hid ((ps.take (2 + 1)).filter Bx.full = l) := by show _ = _; rw [HSN.out, HF.out]; simp
              clear HSN
              go_wp2_with (fail)
              exact ⟨⟨3, by omega, by go_num, by rw [show 3 = 2 + 1 from rfl, HS2.out]; exact HO5.out, B5.out⟩, by simp [intOf]⟩
            | false =>
              have HS2 : Hid ((ps.take (2 + 1)).filter Bx.full = l ++ [⟨qc, qb, rc, qd⟩]) := by show _ = _; rw [HSN.out, HF.out]; simp
              clear HSN
              obtain ⟨⟨c0, c1, c2, c3⟩, -, hin⟩ := K5.out.c4
              obtain ⟨v', w6, hrun, own6, hgr, -⟩ := app_bx (c := 1) (HO5.out.below' ((Below.refl _ _).alloc (Nat.le_refl _) (.cells ([(⟨qc, qb, rc, qd⟩ : Bx)].flatMap Bx.cs).toArray 23))) (xs := [⟨qc, qb, rc, qd⟩]) (fun _ => HBW.out w5 _ rfl) (by have := HL4.out; simp; omega) (by have := B5.out.size; simp; omega)
              have B6 : Hid (Below w.heap.size w w6) := (B5.out.alloc B5.out.size _).grown hgr (by have := B5.out.size; simp; omega) (fun j hj => (HO5.out.block hj).1)
              have HO6 : Hid (BOwn w6 w.heap.size v' ((ps.take (2 + 1)).filter Bx.full)) := by rw [HS2.out]; exact own6
              clear own6 hgr HS2
              go_wp2_with (at_builtin; refine wpl_append rfl _ _ 33 33 33 rfl rfl _ _ _ _ rfl rfl hrun ?_)
              clear hrun
              go_roundw
              case rel => exact ⟨3, by omega, by go_num, HO6.out, B6.out⟩
              case measure => simp [intOf]
          · obtain rfl : p = ⟨ra, qd, rc, rd⟩ := by rw [← hpe]; have := HPS.out; subst this; rfl
            generalize (ps.take 3).filter Bx.full = l at *
            clear hpe
            generalize Bx.emp ⟨ra, qd, rc, rd⟩ = y at *
            unfold Bx.v at HE
            simp only at HE
            have hix := fun w => bx_idx3 (.int .i64 ra) (.int .i64 rb) (.int .i64 rc) (.int .i64 qb) (.int .i64 ra) (.int .i64 qb) (.int .i64 qa) (.int .i64 qd) (.int .i64 qc) (.int .i64 qb) (.int .i64 rc) (.int .i64 qd) (.int .i64 ra) (.int .i64 qd) (.int .i64 rc) (.int .i64 rd) w
            go_wp2_with (fail)
            refine (HE.out _).mono ?_
            rintro e w5 ⟨rfl, hb5⟩
            have B5 : Hid (Below w.heap.size w w5) := (hbr.out.alloc hbr.out.size _).trans (hb5.mono (by have := hbr.out.size; simp; omega))
            have K5 : Hid (Blk w5 wr.heap.size [.int .i64 ra, .int .i64 qd, .int .i64 rc, .int .i64 rd]) := (blk_new wr [.int .i64 ra, .int .i64 qd, .int .i64 rc, .int .i64 rd] _).below' hb5
            have HO5 : Hid (BOwn w5 w.heap.size u6 l) := SOwn.below (SOwn.below HO.out ((Below.refl _ _).alloc (Nat.le_refl _) _)) hb5
            clear hb5 HE
            cases y with
            | true =>
              have HS2 : Hid ((ps.take (3 + 1)).filter Bx.full = l) := by show _ = _; rw [HSN.out, HF.out]; simp
              clear HSN
              go_wp2_with (fail)
              exact ⟨⟨4, by omega, by go_num, by rw [show 4 = 3 + 1 from rfl, HS2.out]; exact HO5.out, B5.out⟩, by simp [intOf]⟩
            | false =>
              have HS2 : Hid ((ps.take (3 + 1)).filter Bx.full = l ++ [⟨ra, qd, rc, rd⟩]) := by show _ = _; rw [HSN.out, HF.out]; simp
              clear HSN
              obtain ⟨⟨c0, c1, c2, c3⟩, -, hin⟩ := K5.out.c4
              obtain ⟨v', w6, hrun, own6, hgr, -⟩ := app_bx (c := 1) (HO5.out.below' ((Below.refl _ _).alloc (Nat.le_refl _) (.cells ([(⟨ra, qd, rc, rd⟩ : Bx)].flatMap Bx.cs).toArray 23))) (xs := [⟨ra, qd, rc, rd⟩]) (fun _ => HBW.out w5 _ rfl) (by have := HL4.out; simp; omega) (by have := B5.out.size; simp; omega)
              have B6 : Hid (Below w.heap.size w w6) := (B5.out.alloc B5.out.size _).grown hgr (by have := B5.out.size; simp; omega) (fun j hj => (HO5.out.block hj).1)
              have HO6 : Hid (BOwn w6 w.heap.size v' ((ps.take (3 + 1)).filter Bx.full)) := by rw [HS2.out]; exact own6
              clear own6 hgr HS2
              go_wp2_with (at_builtin; refine wpl_append rfl _ _ 33 33 33 rfl rfl _ _ _ _ rfl rfl hrun ?_)
              clear hrun
              go_roundw
              case rel => exact ⟨4, by omega, by go_num, HO6.out, B6.out⟩
              case measure => simp [intOf]
        · have HFIN : Hid ((ps.take k).filter Bx.full = R) := by show _ = _; rw [HD.out, List.take_of_length_le (by rw [HPS.out]; show 4 ≤ k; omega)]
          obtain rfl : k = 4 := by omega
          go_wp2_with (fail)
          exact HLQ.out _ _ ⟨_, rfl, by rw [← HFIN.out]; exact HO.out, hbr.out⟩
end Go.Proofs.Ytjnhjhbhodhfgaa
