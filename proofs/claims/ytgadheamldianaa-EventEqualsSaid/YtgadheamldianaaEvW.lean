/-
  Layer 19: an event's plain form, by the document.
-/
import Derived.Test.YtgadheamldianaaEvV
import Derived.Deep.Cut
namespace Go.Proofs.Ytgadheamldianaa
open Go.RowKit pxm imm

theorem wp_app {P : Program} {o : Oper} {a : Act} {w : World} {K : Act → World → Prop} {Q : Exit → Act → World → Prop} (s x : Operand) (t t2 ty : TypeId)
    (ho : o.op = .call { callee := .builtin .append, args := #[s, x], argTypes := #[t, t2] }) (hty : o.type = ty) {sv xv v' : Value} {w' : World} (hs : a.eval s = sv) (hx : a.eval x = xv)
    (hrun : (Builtin.append_ #[t, t2] ty #[sv, xv]).run P w = .ok v' w') (h : K (a.put o.dst v') w') : o.wp P a w K Q := by
  subst hty
  unfold Oper.wp execOp
  simp only [ho, resolve, invoke, builtin, Sem.run_bind, Sem.run_pure, Result.andThen_ok, List.map_toArray, List.map_cons, List.map_nil, hs, hx, hrun]
  exact h
def EvQ0 (v : EV) (w : World) (e : Ending) (w' : World) : Prop := ∃ A9 c9, e = .returned (.agg (v.cs A9 c9).toArray) ∧ OpsE w' 0 A9 v.os ∧ Below w.heap.size w w'
theorem EvQ0.of {v : EV} {w w' : World} {A9 : Option Addr} {c9 : Nat} {ls : List Value} (hl : ls = v.cs A9 c9) (h1 : OpsE w' 0 A9 v.os) (h2 : Below w.heap.size w w') : EvQ0 v w (.returned (.agg ls.toArray)) w' := ⟨A9, c9, by rw [hl], h1, h2⟩
/-- what comes of an op: its pixels are the op's, or none -/
def PlR (w : World) (p q : OpR) : Prop := q.o = plainO p.o ∧ Row eW w q.A q.o.lk.l
theorem plainO_lk {o : Op9} (h : (plainO o).lk.l ≠ []) : (plainO o).lk = o.lk := by
  revert h
  unfold plainO
  split
  · exact fun h => absurd rfl h
  split
  · exact fun h => absurd rfl h
  split
  · exact fun h => absurd rfl h
  split
  · exact fun h => absurd rfl h
  split
  · exact fun h => absurd rfl h
  split
  · exact fun _ => rfl
  split <;> exact fun h => absurd rfl h
theorem plr_of {w : World} {p : OpR} {A9 : Option Addr} {c9 : Nat} (hr : Row eW w p.A p.o.lk.l) (h : (plainO p.o).lk.l ≠ [] → A9 = p.A) : PlR w p ⟨plainO p.o, A9, c9⟩ := ⟨rfl, by
  by_cases e : (plainO p.o).lk.l = []
  · exact Row.none_ (by show (plainO p.o).lk.l.length = 0; rw [e]; rfl)
  · show Row eW w A9 (plainO p.o).lk.l
    rw [h e, plainO_lk e]
    exact hr⟩
/-- while what comes of an op is appended to an event's ops -/
structure PJ (w : World) (B ko xb : Nat) (p : OpR) (k : Int) (v0 : Value) (l : List OpR) (lB lC lD : Bool) (vB vC : Value) (W : World) : Prop where
  sz : B ≤ W.heap.size
  x : Blk W xb p.cs
  o : Blk W ko [.int .i64 k, bif lD then vC else v0, .int .i64 0, .int .i64 0, .int .u64 0]
  a : lC = false → OOwn W B v0 l
  b : lB = true → lC = false → ∃ g q, vB = .slice (some ⟨g, 0, none⟩) 1 1 ∧ SRow 23 OpR.cs W (some ⟨g, 0, none⟩) [q] ∧ PlR w p q
  c : lC = true → ∃ q, OOwn W B vC (l ++ [q]) ∧ PlR w p q
  d : lD = true → lC = true
section
variable {w W W' : World} {B ko xb : Nat} {p : OpR} {k : Int} {v0 vB vC uB uC v9 : Value} {l : List OpR} {lB lC lD : Bool}
theorem PJ.below (h : PJ w B ko xb p k v0 l lB lC lD vB vC W) (hb : Below W.heap.size W W') : PJ w B ko xb p k v0 l lB lC lD vB vC W' := ⟨Nat.le_trans h.sz hb.size, h.x.below' hb, h.o.below' hb, fun e => SOwn.below (h.a e) hb, fun e f => by
  obtain ⟨g, q, e1, e2, e3⟩ := h.b e f
  exact ⟨g, q, e1, SRow.below e2 hb, e3⟩, fun e => by
  obtain ⟨q, e1, e2⟩ := h.c e
  exact ⟨q, SOwn.below e1 hb, e2⟩, h.d⟩
theorem PJ.slots (h : PJ w B ko xb p k v0 l lB lC lD vB vC W) (e1 : uB = vB) (e2 : uC = vC) : PJ w B ko xb p k v0 l lB lC lD uB uC W := by rw [e1, e2]; exact h
theorem PJ.gotB (h : PJ w B ko xb p k v0 l lB lC lD vB vC W) {q : OpR} (hq : PlR w p q) (e1 : uB = .slice (some ⟨W.heap.size, 0, none⟩) 1 1) (e2 : uC = vC) : PJ w B ko xb p k v0 l true lC lD uB uC (W.alloc (.cells q.cs.toArray 52)) := by
  rw [e1, e2]
  have h' := h.below ((Below.refl _ _).alloc (Nat.le_refl _) (.cells q.cs.toArray 52))
  have e : [q].flatMap OpR.cs = q.cs := by simp
  exact ⟨h'.sz, h'.x, h'.o, h'.a, fun _ _ => ⟨_, q, rfl, by have := srow_new (enc := OpR.cs) OpR.cs_len W [q] 52 rfl; rwa [e] at this, hq⟩, h'.c, h'.d⟩
theorem PJ.run (h : PJ w B ko xb p k v0 l lB lC lD vB vC W) (hB : lB = true) (hC : lC = false) (hn : l.length ≤ 2000) (hk : ko < B) (hx : ∀ g, v0.ownBlock = some g → g ≠ xb) : ∃ g q v9 w9, vB = .slice (some ⟨g, 0, none⟩) 1 1 ∧ (Builtin.append_ #[tOps, tOps] tOps #[v0, .slice (some ⟨g, 0, none⟩) 1 1]).run Try.prog W = .ok v9 w9 ∧ OOwn w9 B v9 (l ++ [q]) ∧ PlR w p q ∧ Below B W w9 ∧ Blk w9 xb p.cs ∧ Blk w9 ko [.int .i64 k, bif lD then vC else v0, .int .i64 0, .int .i64 0, .int .u64 0] := by
  obtain ⟨g, q, e, hb, hq⟩ := h.b hB hC
  obtain ⟨v9, w9, h1, h2, h3, -⟩ := SOwn.app (P := Try.prog) (xs := [q]) (c := 1) (g := g) (o := 0) (ts := tOps) Try.underlying22 info_op rfl (by decide) (by decide) OpR.cs_len OpR.cs_plain (h.a hC) (fun _ => hb) (by simp; omega) h.sz
  have hbel : Below B W w9 := (Below.refl _ _).grown h3 h.sz fun k hk => ((h.a hC).block hk).1
  exact ⟨g, q, v9, w9, e, h1, h2, hq, hbel, h.x.stays (h3.block _ h.x.inside fun e => hx xb e.symm rfl), h.o.below hbel hk⟩
theorem PJ.gotC (h : PJ w B ko xb p k v0 l lB lC lD vB vC W) (hC : lC = false) {q : OpR} (ho : OOwn W' B v9 (l ++ [q])) (hq : PlR w p q) (hb : Below B W W') (hx : Blk W' xb p.cs) (hk : Blk W' ko [.int .i64 k, bif lD then vC else v0, .int .i64 0, .int .i64 0, .int .u64 0]) (e3 : uC = v9) : PJ w B ko xb p k v0 l lB true lD uB uC W' := by
  have hD : lD = false := by
    cases hd : lD with
    | false => rfl
    | true => rw [h.d hd] at hC; cases hC
  subst hD
  rw [e3]
  exact ⟨Nat.le_trans h.sz hb.size, hx, hk, (fun e => nomatch e), (fun _ e => nomatch e), fun _ => ⟨q, ho, hq⟩, fun e => nomatch e⟩
theorem PJ.gotD (h : PJ w B ko xb p k v0 l lB lC lD vB vC W) (hC : lC = true) (hk : ko < B) (hx : xb ≠ ko) (hW : Wrote ko W W') (hB : Blk W' ko [.int .i64 k, vC, .int .i64 0, .int .i64 0, .int .u64 0]) : PJ w B ko xb p k v0 l lB lC true vB vC W' := by
  obtain ⟨q, e1, e2⟩ := h.c hC
  exact ⟨by rw [hW.size]; exact h.sz, hW.blk hx h.x, hB, (fun e => by rw [hC] at e; cases e), (fun _ e => by rw [hC] at e; cases e), fun _ => ⟨q, e1.stays fun g hg => hW.far (by have := (e1.block hg).1; omega), e2⟩, fun _ => hC⟩
end
theorem bs_op1' (q : OpR) (w : World) : (Instr.buildSlice tOps 1 #[(0, .agg (q.o.cs q.A q.c).toArray)]).run Try.prog w = .ok (.slice (some ⟨w.heap.size, 0, none⟩) 1 1) (w.alloc (.cells q.cs.toArray 52)) := bs_op1 q w
set_option maxHeartbeats 8000000 in
set_option maxRecDepth 100000 in
theorem dplain_ev (v : EV) (A : Option Addr) (c : Nat) (w : World) (h : OpsE w 0 A v.os) (hn : v.os.length ≤ 2000) : Calls Try.prog 10 #[.agg (v.cs A c).toArray] w (EvQ0 (plainE v) w) := by
  obtain ⟨l, hlo, hob⟩ := h
  have hll : v.os.length = l.length := by rw [← hlo, List.length_map]
  have HLO := Lib.hid hlo
  have HT := Lib.hid hob.t
  have HN : Hid (l.length ≤ 2000) := by show _ ≤ _; omega
  have hlb : (l.length : Int) ≤ 2000 := by omega
  unfold EV.cs
  rw [hll]
  clear hlo hob hll hn
  obtain ⟨X, hX⟩ : ∃ X, plainE v = X := ⟨_, rfl⟩
  rw [hX]
  have HPX := Lib.hid hX
  clear hX
  have HB0 : Hid (Below w.heap.size w ((w.alloc (.cells (evl v.k A l.length c v.x v.y v.n).toArray 25)).alloc (.cells #[.int .i64 0, .slice none 0 0, .int .i64 0, .int .i64 0, .int .u64 0] 25))) := ((Below.refl _ _).alloc (Nat.le_refl _) _).alloc (by simp) _
  have HK0 : Hid (Blk ((w.alloc (.cells (evl v.k A l.length c v.x v.y v.n).toArray 25)).alloc (.cells #[.int .i64 0, .slice none 0 0, .int .i64 0, .int .i64 0, .int .u64 0] 25)) w.heap.size (evl v.k A l.length c v.x v.y v.n)) := (blk_new w (evl v.k A l.length c v.x v.y v.n) _).alloc _
  have HR0 : Hid (Blk ((w.alloc (.cells (evl v.k A l.length c v.x v.y v.n).toArray 25)).alloc (.cells #[.int .i64 0, .slice none 0 0, .int .i64 0, .int .i64 0, .int .u64 0] 25)) (w.heap.size + 1) (evl 0 none 0 0 0 0 0)) := blk_at (w.alloc _) _ (by simp) (evl 0 none 0 0 0 0 0) _
  have HSZ : Hid (((w.alloc (.cells (evl v.k A l.length c v.x v.y v.n).toArray 25)).alloc (.cells #[.int .i64 0, .slice none 0 0, .int .i64 0, .int .i64 0, .int .u64 0] 25)).heap.size = w.heap.size + 2) := by simp [Hid]
  go_enter Try.func10, Try.ntmps10
  go_upto_region 1 with (fail)
  generalize ((w.alloc (.cells (evl v.k A l.length c v.x v.y v.n).toArray 25)).alloc (.cells #[.int .i64 0, .slice none 0 0, .int .i64 0, .int .i64 0, .int .u64 0] 25)) = w0 at *
  have c0 : w0.cell? ⟨w.heap.size, 0, none⟩ = some (.int .i64 v.k) := HK0.out.cell 0
  have i0 : w.heap.size < w0.heap.size := HK0.out.inside
  have HZ1 : Hid (Blk (w0.alloc (.cells #[.int .i64 0, .slice none 0 0, .int .i64 0, .int .i64 0, .int .u64 0] 25)) w0.heap.size (evl 0 none 0 0 0 0 0)) := blk_new w0 (evl 0 none 0 0 0 0 0) _
  have HB1 : Hid (Below w.heap.size w (w0.alloc (.cells #[.int .i64 0, .slice none 0 0, .int .i64 0, .int .i64 0, .int .u64 0] 25))) := HB0.out.alloc HB0.out.size _
  have HK1 := Lib.hid (HK0.out.alloc (.cells #[.int .i64 0, .slice none 0 0, .int .i64 0, .int .i64 0, .int .u64 0] 25))
  have HR1 := Lib.hid (HR0.out.alloc (.cells #[.int .i64 0, .slice none 0 0, .int .i64 0, .int .i64 0, .int .u64 0] 25))
  go_upto_region 2 with (first | ((with_reducible show wpList _ _ _ (Oper.mk _ (Op.store _ _ _) _ _ _ _ :: _) _ _); refine wpl_stow 25 _ _ rfl rfl rfl _ 0 rfl ((evl v.k none 0 0 0 0 0)) rfl ((evl 0 none 0 0 0 0 0)) HZ1.out ((evl v.k none 0 0 0 0 0)) rfl (Nat.le_of_ble_eq_true rfl) (by kernel_rfl) (rfl) ?_; intro w2 HW2 HO2) | ((with_reducible show wpList _ _ _ (Oper.mk _ (Op.build _ _) _ _ _ _ :: _) _ _); refine wpl_build _ _ rfl rfl (by simp [go_sem]) (build_e0 v.k _) ?_))
  obtain ⟨ko, hko⟩ : ∃ ko, w0.heap.size = ko := ⟨_, rfl⟩
  have HKO : Hid (ko = w.heap.size + 2) := by rw [← hko]; exact HSZ.out
  have HB2 : Hid (Below w.heap.size w w2) := HW2.out.below HB1.out HB0.out.size
  have HK2 : Hid (Blk w2 w.heap.size (evl v.k A l.length c v.x v.y v.n)) := HW2.out.blk (by have := HSZ.out; omega) HK1.out
  have HR2 : Hid (Blk w2 (w.heap.size + 1) (evl 0 none 0 0 0 0 0)) := HW2.out.blk (by have := HSZ.out; omega) HR1.out
  have HS2 : Hid (w2.heap.size = ko + 1) := by show _ = _; rw [HW2.out.size, ← hko]; simp
  rw [hko] at HO2 ⊢
  clear hko HZ1 HB1 HK1 HR1 HW2 HB0 HK0 HR0 HSZ c0 i0
  have c0 : w2.cell? ⟨w.heap.size, 0, none⟩ = some (.int .i64 v.k) := HK2.out.cell 0
  have c1 : w2.cell? ⟨w.heap.size, 1, none⟩ = some (.slice A l.length c) := HK2.out.cell 1
  have c2 : w2.cell? ⟨w.heap.size, 2, none⟩ = some (.int .i64 v.x) := HK2.out.cell 2
  have c3 : w2.cell? ⟨w.heap.size, 3, none⟩ = some (.int .i64 v.y) := HK2.out.cell 3
  have c4 : w2.cell? ⟨w.heap.size, 4, none⟩ = some (.int .u64 v.n) := HK2.out.cell 4
  have i0 : w.heap.size < w2.heap.size := HK2.out.inside
  have i2 : ko < w2.heap.size := HO2.out.inside
  by_cases h2 : v.k = 2
  · have t2 : (v.k == 2) = true := by simpa using h2
    obtain rfl : X = ⟨2, [], v.x, v.y, 0⟩ := by rw [← HPX.out]; unfold plainE; rw [if_neg (by omega), if_pos h2]
    have HJ0 : Hid (JF w.heap.size [(w.heap.size, (evl v.k A l.length c v.x v.y v.n)), (w.heap.size + 1, (evl 0 none 0 0 0 0 0))] ko (evl v.k none 0 0 0 0 0) w2) := ⟨⟨HK2.out, HR2.out, trivial⟩, by omega, by have := HKO.out; simp; omega, by have := HKO.out; omega, HO2.out⟩
    have HH2 := Lib.hid h2
    clear h2 HPX
    go_upto_region 4 with (fail)
    refine regs.wp_region_put (Below w.heap.size) (fun L wx => JF w.heap.size [(w.heap.size, (evl v.k A l.length c v.x v.y v.n)), (w.heap.size + 1, (evl 0 none 0 0 0 0 0))] ko [.int .i64 v.k, .slice none 0 0, bif L 5 then .int .i64 v.x else .int .i64 0, bif L 7 then .int .i64 v.y else .int .i64 0, .int .u64 0] wx) [13, 14, 15, 16, 17, 18] (by kernel_rfl) (by kernel_rfl) (fun _ => Below.refl _ _) (fun _ _ _ h k => h.trans k) (fun i => (match i with
      | 0 => regs.Say.val _ (.pointer (some ⟨w.heap.size, 2, none⟩))
      | 1 => regs.Say.val _ (.int .i64 v.x)
      | 2 => regs.Say.val _ (.pointer (some ⟨w.heap.size, 3, none⟩))
      | 3 => regs.Say.val _ (.int .i64 v.y)
      | 4 => regs.Say.val _ (.pointer (some ⟨ko, 2, none⟩))
      | 5 => regs.Say.any _
      | 6 => regs.Say.val _ (.pointer (some ⟨ko, 3, none⟩))
      | 7 => regs.Say.any _
      | _ => regs.Say.any _ : regs.Say (Below w.heap.size)).p) (fun _ => regs.Say.mono _) (by kernel_rfl) ((Below.refl _ _).drew) (HJ0.out.below (Below.refl _ _).drew) ⟨?_, ?_, ?_, ?_, ?_, ?_, ?_, ?_, trivial⟩ ?_
    · refine regs.StepOK.plain rfl fun L a w1 hh => ?_
      have h1 : a.tmps[1]?.getD undef = .pointer (some ⟨w.heap.size, 0, none⟩) := by rw [← Array.getD_eq_getD_getElem?]; exact hh.old 1 rfl
      have i0 := (hh.st.old.1).inside
      have hJ := Lib.hid hh.st
      clear hh
      go_simp
      exact ⟨_, rfl, Below.refl _ _, rfl, hJ.out⟩
    · refine regs.StepOK.plain rfl fun L a w1 hh => ?_
      have h13 : a.tmps[13]?.getD undef = .pointer (some ⟨w.heap.size, 2, none⟩) := by rw [← Array.getD_eq_getD_getElem?]; exact hh.dep 0 13 (by kernel_rfl) (by kernel_rfl)
      have hB := Lib.hid (hh.st.old.1)
      have c0 : w1.cell? ⟨w.heap.size, 2, none⟩ = some (.int .i64 v.x) := hB.out.cell 2
      have i0 := hB.out.inside
      have hJ := Lib.hid hh.st
      clear hh
      go_simp
      exact ⟨_, rfl, Below.refl _ _, rfl, hJ.out⟩
    · refine regs.StepOK.plain rfl fun L a w1 hh => ?_
      have h1 : a.tmps[1]?.getD undef = .pointer (some ⟨w.heap.size, 0, none⟩) := by rw [← Array.getD_eq_getD_getElem?]; exact hh.old 1 rfl
      have i0 := (hh.st.old.1).inside
      have hJ := Lib.hid hh.st
      clear hh
      go_simp
      exact ⟨_, rfl, Below.refl _ _, rfl, hJ.out⟩
    · refine regs.StepOK.plain rfl fun L a w1 hh => ?_
      have h15 : a.tmps[15]?.getD undef = .pointer (some ⟨w.heap.size, 3, none⟩) := by rw [← Array.getD_eq_getD_getElem?]; exact hh.dep 2 15 (by kernel_rfl) (by kernel_rfl)
      have hB := Lib.hid (hh.st.old.1)
      have c0 : w1.cell? ⟨w.heap.size, 3, none⟩ = some (.int .i64 v.y) := hB.out.cell 3
      have i0 := hB.out.inside
      have hJ := Lib.hid hh.st
      clear hh
      go_simp
      exact ⟨_, rfl, Below.refl _ _, rfl, hJ.out⟩
    · refine regs.StepOK.plain rfl fun L a w1 hh => ?_
      have h3 : a.tmps[3]?.getD undef = .pointer (some ⟨ko, 0, none⟩) := by rw [← Array.getD_eq_getD_getElem?]; exact hh.old 3 rfl
      have i0 := (hh.st.blk).inside
      have hJ := Lib.hid hh.st
      clear hh
      go_simp
      exact ⟨_, rfl, Below.refl _ _, rfl, hJ.out⟩
    · refine regs.StepOK.plain rfl fun L a w1 hh => ?_
      have h14 : a.tmps[14]?.getD undef = .int .i64 v.x := by rw [← Array.getD_eq_getD_getElem?]; exact hh.dep 1 14 (by kernel_rfl) (by kernel_rfl)
      have h17 : a.tmps[17]?.getD undef = .pointer (some ⟨ko, 2, none⟩) := by rw [← Array.getD_eq_getD_getElem?]; exact hh.dep 4 17 (by kernel_rfl) (by kernel_rfl)
      have hB := hh.st.blk
      rw [hh.un] at hB
      have c0 := hB.cell 2
      have f0 := hB.free 2
      have i0 := hB.inside
      simp only [List.getElem?_cons_zero, List.getElem?_cons_succ] at c0
      have hP := Lib.hid (hh.st.put (i := 2) (v := .int .i64 v.x) rfl)
      clear hh hB
      go_simp
      exact ⟨hP.out.2, ⟨undef, trivial⟩, hP.out.1⟩
    · refine regs.StepOK.plain rfl fun L a w1 hh => ?_
      have h3 : a.tmps[3]?.getD undef = .pointer (some ⟨ko, 0, none⟩) := by rw [← Array.getD_eq_getD_getElem?]; exact hh.old 3 rfl
      have i0 := (hh.st.blk).inside
      have hJ := Lib.hid hh.st
      clear hh
      go_simp
      exact ⟨_, rfl, Below.refl _ _, rfl, hJ.out⟩
    · refine regs.StepOK.plain rfl fun L a w1 hh => ?_
      have h16 : a.tmps[16]?.getD undef = .int .i64 v.y := by rw [← Array.getD_eq_getD_getElem?]; exact hh.dep 3 16 (by kernel_rfl) (by kernel_rfl)
      have h18 : a.tmps[18]?.getD undef = .pointer (some ⟨ko, 3, none⟩) := by rw [← Array.getD_eq_getD_getElem?]; exact hh.dep 6 18 (by kernel_rfl) (by kernel_rfl)
      have hB := hh.st.blk
      rw [hh.un] at hB
      have c0 := hB.cell 3
      have f0 := hB.free 3
      have i0 := hB.inside
      simp only [List.getElem?_cons_zero, List.getElem?_cons_succ] at c0
      have hP := Lib.hid (hh.st.put (i := 3) (v := .int .i64 v.y) rfl)
      clear hh hB
      go_simp
      exact ⟨hP.out.2, ⟨undef, trivial⟩, hP.out.1⟩
    intro L w4 val hL hJ hR hv
    have HR4 := Lib.hid hR
    have HJ4 := Lib.hid hJ
    have e5 := hL 5 (by decide)
    have e7 := hL 7 (by decide)
    rw [e5, e7] at HJ4
    clear hv hL hJ hR e5 e7
    simp only [regs.putAll, List.map_cons, List.map_nil]
    simp only [Act.put, List.setIfInBounds_toArray, List.set_cons_zero, List.set_cons_succ]
    generalize val 13 = v13 at *
    generalize val 14 = v14 at *
    generalize val 15 = v15 at *
    generalize val 16 = v16 at *
    generalize val 17 = v17 at *
    generalize val 18 = v18 at *
    have HO4 : Hid (Blk w4 ko (evl v.k none 0 0 v.x v.y 0)) := HJ4.out.blk
    have HR4' := Lib.hid HJ4.out.old.2.1
    have HB4 : Hid (Below w.heap.size w w4) := HB2.out.trans HR4.out
    clear HJ4 HJ0
    go_wp2_with (first | ((with_reducible show wpList _ _ _ (Oper.mk _ (Op.load _ _) _ _ _ _ :: _) _ _); refine wpl_take 25 _ rfl rfl _ 0 rfl _ HO4.out (evl v.k none 0 0 v.x v.y 0) rfl _ Try.underlying25 rfl (by kernel_rfl) ?_) | ((with_reducible show wpList _ _ _ (Oper.mk _ (Op.store _ _ _) _ _ _ _ :: _) _ _); refine wpl_stow 25 _ _ rfl rfl rfl _ 0 rfl (evl v.k none 0 0 v.x v.y 0) rfl ((evl 0 none 0 0 0 0 0)) HR4'.out (evl v.k none 0 0 v.x v.y 0) rfl (Nat.le_of_ble_eq_true rfl) (by kernel_rfl) (rfl) ?_; intro w9 HW9 HK9))
    exact blk_ret rfl rfl HK9.out Try.underlying25 rfl (by kernel_rfl) (EvQ0.of (A9 := none) (c9 := 0) (by rw [HH2.out]; rfl) (OpsE.no _ _) (HW9.out.below HB4.out (by omega)))
  have t2 : (v.k == 2) = false := by simpa using h2
  by_cases h3 : v.k = 3
  · have t3 : (v.k == 3) = true := by simp [h3]
    obtain rfl : X = ⟨v.k, [], 0, 0, v.n⟩ := by rw [← HPX.out]; unfold plainE; rw [if_neg (by omega), if_neg (by omega), if_pos (by omega)]
    clear h3 h2 HPX 
    have d4 : w2.cell? ⟨ko, 4, none⟩ = some (.int .u64 0) := HO2.out.cell 4
    have f4 : w2.frozen? ⟨ko, 4, none⟩ = false := HO2.out.free 4
    go_upto_region 15 with (fail)
    have HW4 : Hid (Wrote ko w2 (w2.setCell ⟨ko, 4, none⟩ (.int .u64 v.n))) := ⟨4, [.int .u64 v.n], rfl⟩
    have HO4 : Hid (Blk (w2.setCell ⟨ko, 4, none⟩ (.int .u64 v.n)) ko (evl v.k none 0 0 0 0 v.n)) := HO2.out.set 4 _
    generalize w2.setCell ⟨ko, 4, none⟩ (.int .u64 v.n) = w4 at *
    have HR4 : Hid (Blk w4 (w.heap.size + 1) (evl 0 none 0 0 0 0 0)) := HW4.out.blk (by have := HKO.out; omega) HR2.out
    have HB4 : Hid (Below w.heap.size w w4) := HW4.out.below HB2.out (by have := HKO.out; omega)
    clear c0 c1 c2 c3 c4 i0 i2 d4 f4
    go_wp2_with (first | ((with_reducible show wpList _ _ _ (Oper.mk _ (Op.load _ _) _ _ _ _ :: _) _ _); refine wpl_take 25 _ rfl rfl _ 0 rfl _ HO4.out (evl v.k none 0 0 0 0 v.n) rfl _ Try.underlying25 rfl (by kernel_rfl) ?_) | ((with_reducible show wpList _ _ _ (Oper.mk _ (Op.store _ _ _) _ _ _ _ :: _) _ _); refine wpl_stow 25 _ _ rfl rfl rfl _ 0 rfl (evl v.k none 0 0 0 0 v.n) rfl ((evl 0 none 0 0 0 0 0)) HR4.out (evl v.k none 0 0 0 0 v.n) rfl (Nat.le_of_ble_eq_true rfl) (by kernel_rfl) (rfl) ?_; intro w9 HW9 HK9))
    exact blk_ret rfl rfl HK9.out Try.underlying25 rfl (by kernel_rfl) (EvQ0.of (A9 := none) (c9 := 0) rfl (OpsE.no _ _) (HW9.out.below HB4.out (by omega)))
  by_cases h4 : v.k = 4
  · have t3 : (v.k == 3) = false := by simp [h4]
    have t4 : (v.k == 4) = true := by simp [h4]
    obtain rfl : X = ⟨v.k, [], 0, 0, v.n⟩ := by rw [← HPX.out]; unfold plainE; rw [if_neg (by omega), if_neg (by omega), if_pos (by omega)]
    clear h4 h2 HPX h3
    have d4 : w2.cell? ⟨ko, 4, none⟩ = some (.int .u64 0) := HO2.out.cell 4
    have f4 : w2.frozen? ⟨ko, 4, none⟩ = false := HO2.out.free 4
    go_upto_region 15 with (fail)
    have HW4 : Hid (Wrote ko w2 (w2.setCell ⟨ko, 4, none⟩ (.int .u64 v.n))) := ⟨4, [.int .u64 v.n], rfl⟩
    have HO4 : Hid (Blk (w2.setCell ⟨ko, 4, none⟩ (.int .u64 v.n)) ko (evl v.k none 0 0 0 0 v.n)) := HO2.out.set 4 _
    generalize w2.setCell ⟨ko, 4, none⟩ (.int .u64 v.n) = w4 at *
    have HR4 : Hid (Blk w4 (w.heap.size + 1) (evl 0 none 0 0 0 0 0)) := HW4.out.blk (by have := HKO.out; omega) HR2.out
    have HB4 : Hid (Below w.heap.size w w4) := HW4.out.below HB2.out (by have := HKO.out; omega)
    clear c0 c1 c2 c3 c4 i0 i2 d4 f4
    go_wp2_with (first | ((with_reducible show wpList _ _ _ (Oper.mk _ (Op.load _ _) _ _ _ _ :: _) _ _); refine wpl_take 25 _ rfl rfl _ 0 rfl _ HO4.out (evl v.k none 0 0 0 0 v.n) rfl _ Try.underlying25 rfl (by kernel_rfl) ?_) | ((with_reducible show wpList _ _ _ (Oper.mk _ (Op.store _ _ _) _ _ _ _ :: _) _ _); refine wpl_stow 25 _ _ rfl rfl rfl _ 0 rfl (evl v.k none 0 0 0 0 v.n) rfl ((evl 0 none 0 0 0 0 0)) HR4.out (evl v.k none 0 0 0 0 v.n) rfl (Nat.le_of_ble_eq_true rfl) (by kernel_rfl) (rfl) ?_; intro w9 HW9 HK9))
    exact blk_ret rfl rfl HK9.out Try.underlying25 rfl (by kernel_rfl) (EvQ0.of (A9 := none) (c9 := 0) rfl (OpsE.no _ _) (HW9.out.below HB4.out (by omega)))
  by_cases h5 : v.k = 5
  · have t3 : (v.k == 3) = false := by simp [h5]
    have t4 : (v.k == 4) = false := by simp [h5]
    have t5 : (v.k == 5) = true := by simp [h5]
    obtain rfl : X = ⟨v.k, [], 0, 0, v.n⟩ := by rw [← HPX.out]; unfold plainE; rw [if_neg (by omega), if_neg (by omega), if_pos (by omega)]
    clear h5 h2 HPX h3 h4
    have d4 : w2.cell? ⟨ko, 4, none⟩ = some (.int .u64 0) := HO2.out.cell 4
    have f4 : w2.frozen? ⟨ko, 4, none⟩ = false := HO2.out.free 4
    go_upto_region 15 with (fail)
    have HW4 : Hid (Wrote ko w2 (w2.setCell ⟨ko, 4, none⟩ (.int .u64 v.n))) := ⟨4, [.int .u64 v.n], rfl⟩
    have HO4 : Hid (Blk (w2.setCell ⟨ko, 4, none⟩ (.int .u64 v.n)) ko (evl v.k none 0 0 0 0 v.n)) := HO2.out.set 4 _
    generalize w2.setCell ⟨ko, 4, none⟩ (.int .u64 v.n) = w4 at *
    have HR4 : Hid (Blk w4 (w.heap.size + 1) (evl 0 none 0 0 0 0 0)) := HW4.out.blk (by have := HKO.out; omega) HR2.out
    have HB4 : Hid (Below w.heap.size w w4) := HW4.out.below HB2.out (by have := HKO.out; omega)
    clear c0 c1 c2 c3 c4 i0 i2 d4 f4
    go_wp2_with (first | ((with_reducible show wpList _ _ _ (Oper.mk _ (Op.load _ _) _ _ _ _ :: _) _ _); refine wpl_take 25 _ rfl rfl _ 0 rfl _ HO4.out (evl v.k none 0 0 0 0 v.n) rfl _ Try.underlying25 rfl (by kernel_rfl) ?_) | ((with_reducible show wpList _ _ _ (Oper.mk _ (Op.store _ _ _) _ _ _ _ :: _) _ _); refine wpl_stow 25 _ _ rfl rfl rfl _ 0 rfl (evl v.k none 0 0 0 0 v.n) rfl ((evl 0 none 0 0 0 0 0)) HR4.out (evl v.k none 0 0 0 0 v.n) rfl (Nat.le_of_ble_eq_true rfl) (by kernel_rfl) (rfl) ?_; intro w9 HW9 HK9))
    exact blk_ret rfl rfl HK9.out Try.underlying25 rfl (by kernel_rfl) (EvQ0.of (A9 := none) (c9 := 0) rfl (OpsE.no _ _) (HW9.out.below HB4.out (by omega)))
  have t3 : (v.k == 3) = false := by simpa using h3
  have t4 : (v.k == 4) = false := by simpa using h4
  have t5 : (v.k == 5) = false := by simpa using h5
  by_cases h1 : ¬ v.k = 1
  · have t1 : (v.k == 1) = false := by simpa using h1
    obtain rfl : X = ⟨v.k, [], 0, 0, 0⟩ := by rw [← HPX.out]; unfold plainE; rw [if_neg h1, if_neg h2, if_neg (by omega)]
    clear h1 h2 h3 h4 h5 HPX
    go_wp2_with (first | ((with_reducible show wpList _ _ _ (Oper.mk _ (Op.load _ _) _ _ _ _ :: _) _ _); refine wpl_take 25 _ rfl rfl _ 0 rfl _ HO2.out (evl v.k none 0 0 0 0 0) rfl _ Try.underlying25 rfl (by kernel_rfl) ?_) | ((with_reducible show wpList _ _ _ (Oper.mk _ (Op.store _ _ _) _ _ _ _ :: _) _ _); refine wpl_stow 25 _ _ rfl rfl rfl _ 0 rfl (evl v.k none 0 0 0 0 0) rfl ((evl 0 none 0 0 0 0 0)) HR2.out (evl v.k none 0 0 0 0 0) rfl (Nat.le_of_ble_eq_true rfl) (by kernel_rfl) (rfl) ?_; intro w9 HW9 HK9))
    exact blk_ret rfl rfl HK9.out Try.underlying25 rfl (by kernel_rfl) (EvQ0.of (A9 := none) (c9 := 0) rfl (OpsE.no _ _) (HW9.out.below HB2.out (by omega)))
  have hk1 := Decidable.not_not.1 h1
  have t1 : (v.k == 1) = true := by simpa using hk1
  obtain rfl : X = ⟨1, v.os.map plainO, 0, 0, 0⟩ := by rw [← HPX.out]; unfold plainE; rw [if_pos hk1]
  have HV1 := Lib.hid hk1
  clear h1 h2 h3 h4 h5 HPX hk1
  go_wp2_with (fail)
  clear c0 c1 c2 c3 c4 i0 i2 t1 t2 t3 t4 t5
  have HKB : Hid (ko < w2.heap.size) := by have := HS2.out; show _ < _; omega
  go_loopw [31] (fun x31 wr => ∃ (k : Nat) (l3 : List OpR) (A3 : Option Addr) (c3 : Nat), k ≤ l.length ∧ x31 = .int .i64 (k : Nat) ∧ Hid (OOwn wr w2.heap.size (.slice A3 l3.length c3) l3) ∧ Hid (l3.length = k ∧ l3.map (·.o) = (l.take k).map (fun q => plainO q.o)) ∧ Hid (∀ q ∈ l3, Row eW w q.A q.o.lk.l) ∧ Hid (Blk wr ko [.int .i64 v.k, .slice A3 l3.length c3, .int .i64 0, .int .i64 0, .int .u64 0]) ∧ Hid (Below ko w2 wr)) (fun x31 _ => l.length - (intOf x31).toNat)
  case atStart => exact ⟨0, [], none, 0, Nat.zero_le _, rfl, SOwn.nil _ _, ⟨rfl, by simp⟩, (fun q hq => by cases hq), HO2.out, Below.refl _ _⟩
  case round =>
    obtain ⟨k, l3, A3, c3, hk, rfl, HOW, HD, HP, HO, HBr⟩ := hrel
    generalize wr = wA at *
    have HBw : Hid (Below w.heap.size w wA) := HB2.out.trans (HBr.out.mono (by have := HKO.out; omega))
    by_cases hkl : k < l.length
    · have t2 : decide (k < l.length) = true := by simpa using hkl
      have HKL := Lib.hid hkl
      obtain ⟨pb, po, rP, pcell⟩ := (HT.out.below HBw.out).row (by omega)
      rw [rP] at HT ⊢
      obtain ⟨p, hp⟩ : ∃ p, p = l[k]'hkl := ⟨_, rfl⟩
      have HPM : Hid (p ∈ l) := by rw [hp]; exact List.getElem_mem hkl
      have HPT : Hid (l.take (k + 1) = l.take k ++ [p]) := by rw [hp]; exact List.take_succ_eq_append_getElem hkl
      have HRG : Hid (wA.rangeAt pb (po + k * 23) p.cs) := by
        rw [hp]
        exact fun i v hv => pcell k hkl i v hv
      have HXp := Lib.hid (HT.out.px p HPM.out)
      have HZ2 : Hid (Blk (wA.alloc (.cells #[.int .i64 0, .int .i64 0, .int .i64 0, .int .i64 0, .int .i64 0, .int .i64 0, .int .i64 0, .int .i64 0, .int .i64 0, .int .i64 0, .int .i64 0, .int .i64 0, .int .i64 0, .int .i64 0, .bool false, .int .i64 0, .int .i64 0, .int .i64 0, .int .i64 0, .int .u32 0, .int .i64 0, .int .i64 0, .slice none 0 0] 52)) wA.heap.size [.int .i64 0, .int .i64 0, .int .i64 0, .int .i64 0, .int .i64 0, .int .i64 0, .int .i64 0, .int .i64 0, .int .i64 0, .int .i64 0, .int .i64 0, .int .i64 0, .int .i64 0, .int .i64 0, .bool false, .int .i64 0, .int .i64 0, .int .i64 0, .int .i64 0, .int .u32 0, .int .i64 0, .int .i64 0, .slice none 0 0]) := blk_new wA [.int .i64 0, .int .i64 0, .int .i64 0, .int .i64 0, .int .i64 0, .int .i64 0, .int .i64 0, .int .i64 0, .int .i64 0, .int .i64 0, .int .i64 0, .int .i64 0, .int .i64 0, .int .i64 0, .bool false, .int .i64 0, .int .i64 0, .int .i64 0, .int .i64 0, .int .u32 0, .int .i64 0, .int .i64 0, .slice none 0 0] _
      have HBa : Hid (Below wA.heap.size wA (wA.alloc (.cells #[.int .i64 0, .int .i64 0, .int .i64 0, .int .i64 0, .int .i64 0, .int .i64 0, .int .i64 0, .int .i64 0, .int .i64 0, .int .i64 0, .int .i64 0, .int .i64 0, .int .i64 0, .int .i64 0, .bool false, .int .i64 0, .int .i64 0, .int .i64 0, .int .i64 0, .int .u32 0, .int .i64 0, .int .i64 0, .slice none 0 0] 52))) := (Below.refl _ _).alloc (Nat.le_refl _) _
      have c0 := HRG.out 0 (.int .i64 p.o.k) rfl
      have i0 : pb < wA.heap.size := World.block_lt_of_cell? wA ⟨pb, _, none⟩ c0
      clear c0 rP pcell hp hkl
      go_upto_region 13 with (first | ((with_reducible show wpList _ _ _ (Oper.mk _ (Op.load _ _) _ _ _ _ :: _) _ _); refine wpl_row 52 _ rfl rfl _ _ rfl (p.cs) HRG.out _ Try.underlying52 rfl (by kernel_rfl) ?_) | ((with_reducible show wpList _ _ _ (Oper.mk _ (Op.store _ _ _) _ _ _ _ :: _) _ _); refine wpl_stow 52 _ _ rfl rfl rfl _ 0 rfl (p.cs) rfl ([.int .i64 0, .int .i64 0, .int .i64 0, .int .i64 0, .int .i64 0, .int .i64 0, .int .i64 0, .int .i64 0, .int .i64 0, .int .i64 0, .int .i64 0, .int .i64 0, .int .i64 0, .int .i64 0, .bool false, .int .i64 0, .int .i64 0, .int .i64 0, .int .i64 0, .int .u32 0, .int .i64 0, .int .i64 0, .slice none 0 0]) HZ2.out (p.cs) rfl (Nat.le_of_ble_eq_true rfl) (by kernel_rfl) (Op9.one _ _ _) ?_; intro w3 HW3 HK3))
      obtain ⟨xb, hxb⟩ : ∃ xb, wA.heap.size = xb := ⟨_, rfl⟩
      have HB3 : Hid (Below wA.heap.size wA w3) := HW3.out.below HBa.out (Nat.le_refl _)
      have HO3 := Lib.hid (HO.out.below' HB3.out)
      have HOW3 := Lib.hid (SOwn.below HOW.out HB3.out)
      have HSB : Hid (w2.heap.size ≤ w3.heap.size) := Nat.le_trans HBr.out.size HB3.out.size
      have HL3 : Hid (l3.length ≤ 2000) := by have := HD.out.1; have := HN.out; have := HKL.out; show _ ≤ _; omega
      have HXO : Hid (∀ g, (Value.slice A3 l3.length c3).ownBlock = some g → g ≠ xb) := fun g hg => by have := (HOW.out.block hg).2; omega
      have HXK : Hid (xb ≠ ko) := by have := HKB.out; have := HBr.out.size; show _ ≠ _; omega
      have HBz : Hid (Below ko w2 w3) := HBr.out.trans (HB3.out.mono (by have := HKB.out; have := HBr.out.size; omega))
      rw [hxb] at HK3 ⊢
      clear HZ2 HBa HW3 HRG i0 hxb HB3 HO HOW
      refine regv.wp_region_put (Below ko) (fun L V wx => PJ w w2.heap.size ko xb p v.k (.slice A3 l3.length c3) l3 (L 4) (L 5) (L 7) (V 39) (V 40) wx ∧ (L 5 = true → L 1 = true)) [35, 36, 37, 38, 39, 40, 41] (by kernel_rfl) (by kernel_rfl) (fun _ => Below.refl _ _) (fun _ _ _ h k => h.trans k) (fun i => (match i with
        | 0 => regs.Say.val _ (.pointer (some ⟨ko, 1, none⟩))
        | 1 => regs.Say.val _ (.slice A3 l3.length c3)
        | 2 => regs.Say.val _ (.agg (p.cs).toArray)
        | 3 => (⟨fun v wv => ∃ A9 c9, v = .agg ((plainO p.o).cs A9 c9).toArray ∧ PlR w p ⟨plainO p.o, A9, c9⟩, fun v q1 q2 h hb => h⟩ : regs.Say (Below ko))
        | 4 => regs.Say.any _
        | 5 => regs.Say.any _
        | 6 => regs.Say.val _ (.pointer (some ⟨ko, 1, none⟩))
        | 7 => regs.Say.any _
        | _ => regs.Say.any _ : regs.Say (Below ko)).p) (fun _ => regs.Say.mono _) (by kernel_rfl) ((Below.refl _ _).drew) (⟨⟨HSB.out, HK3.out.drew, HO3.out.drew, fun _ => HOW3.out, (fun e => nomatch e), (fun e => nomatch e), (fun e => nomatch e)⟩, (fun e => nomatch e)⟩) ⟨?_, ?_, ?_, ?_, ?_, ?_, ?_, ?_, trivial⟩ ?_
      · refine regv.StepOK.plain rfl fun L a w1 hh => ?_
        have h3 : a.tmps[3]?.getD undef = .pointer (some ⟨ko, 0, none⟩) := by rw [← Array.getD_eq_getD_getElem?]; exact hh.old 3 rfl
        have i0 := (hh.st.1.o).inside
        have hJ := Lib.hid hh.st
        clear hh
        go_simp
        exact ⟨_, rfl, Below.refl _ _, rfl, ⟨PJ.slots hJ.out.1 (regv.sl_ne (by decide)) (regv.sl_ne (by decide)), hJ.out.2⟩⟩
      · refine regv.StepOK.plain rfl fun L a w1 hh => ?_
        have h35 : a.tmps[35]?.getD undef = .pointer (some ⟨ko, 1, none⟩) := by rw [← Array.getD_eq_getD_getElem?]; exact hh.dep 0 35 (by kernel_rfl) (by kernel_rfl)
        have hc : L 5 = false := not_yet hh.st.2 hh.un
        have hd : L 7 = false := not_yet hh.st.1.d hc
        have hB := hh.st.1.o
        rw [hd] at hB
        have c0 : w1.cell? ⟨ko, 1, none⟩ = some (.slice A3 l3.length c3) := hB.cell 1
        have i0 := hB.inside
        have hJ := Lib.hid hh.st
        clear hh hc hd hB
        go_simp
        exact ⟨_, rfl, Below.refl _ _, rfl, ⟨PJ.slots hJ.out.1 (regv.sl_ne (by decide)) (regv.sl_ne (by decide)), fun _ => rfl⟩⟩
      · refine regv.StepOK.plain rfl fun L a w1 hh => ?_
        have h5 : a.tmps[5]?.getD undef = .pointer (some ⟨xb, 0, none⟩) := by rw [← Array.getD_eq_getD_getElem?]; exact hh.old 5 rfl
        have hB := Lib.hid hh.st.1.x
        have hJ := Lib.hid hh.st
        exact wp_take 52 _ rfl xb 0 (by simpa [go_sem] using h5) _ hB.out (p.cs) rfl _ Try.underlying52 rfl (by kernel_rfl) ⟨_, rfl, Below.refl _ _, rfl, ⟨PJ.slots hJ.out.1 (regv.sl_put (by decide)) (regv.sl_put (by decide)), hJ.out.2⟩⟩
      · refine regv.StepOK.plain rfl fun L a w1 hh => ?_
        have h37 : a.tmps[37]?.getD undef = .agg (p.cs).toArray := by rw [← Array.getD_eq_getD_getElem?]; exact hh.dep 2 37 (by kernel_rfl) (by kernel_rfl)
        have hle := Lib.hid (show ko ≤ w1.heap.size from Nat.le_trans (Nat.le_of_lt HKB.out) hh.st.1.sz)
        have hC := Lib.hid (dplain_any p.o p.A p.c w1)
        have hJ := Lib.hid hh.st
        have hsz := Lib.hid hh.size
        have hun := Lib.hid hh.un
        unfold DOpQ at hC
        clear hh
        go_simp
        refine hC.out.mono ?_
        rintro e w9 ⟨A9, c9, rfl, hp9, hb9⟩
        exact ⟨_, rfl, hb9.mono hle.out, ⟨A9, c9, rfl, plr_of HXp.out hp9⟩, ⟨PJ.slots (PJ.below hJ.out.1 hb9) (regv.sl_ne (by decide)) (regv.sl_ne (by decide)), hJ.out.2⟩⟩
      · refine regv.StepOK.plain rfl fun L a w1 hh => ?_
        have hle := Lib.hid (show ko ≤ w1.heap.size from Nat.le_trans (Nat.le_of_lt HKB.out) hh.st.1.sz)
        obtain ⟨A8, c8, e8, hp8⟩ := (show ∃ A9 c9, (a.tmps.getD 38 undef) = .agg ((plainO p.o).cs A9 c9).toArray ∧ PlR w p ⟨plainO p.o, A9, c9⟩ from hh.dep 3 38 (by kernel_rfl) (by kernel_rfl))
        have h38 : a.tmps[38]?.getD undef = .agg ((plainO p.o).cs A8 c8).toArray := by rw [← Array.getD_eq_getD_getElem?]; exact e8
        have hJ := Lib.hid hh.st
        have hsz := Lib.hid hh.size
        have hun := Lib.hid hh.un
        
        exact wp_bs _ _ _ rfl (by simp [go_sem, h38]) (bs_op1' ⟨plainO p.o, A8, c8⟩ w1) ⟨_, rfl, (Below.refl _ _).alloc hle.out _, trivial, ⟨PJ.gotB hJ.out.1 hp8 (regv.sl_same (by rw [hsz.out]; simp)) (regv.sl_ne (by decide)), hJ.out.2⟩⟩
      · refine regv.StepOK.plain rfl fun L a w1 hh => ?_
        have h36 : a.tmps[36]?.getD undef = .slice A3 l3.length c3 := by rw [← Array.getD_eq_getD_getElem?]; exact hh.dep 1 36 (by kernel_rfl) (by kernel_rfl)
        have hup1 := Lib.hid (hh.up 1 (by kernel_rfl))
        obtain ⟨g9, q9, v9, w9, e39, hrn, ho9, hq9, hb9, hx9, hk9⟩ := hh.st.1.run (hh.up 4 (by kernel_rfl)) hh.un HL3.out HKB.out HXO.out
        have h39 : a.tmps[39]?.getD undef = .slice (some ⟨g9, 0, none⟩) 1 1 := by rw [← Array.getD_eq_getD_getElem?]; exact e39
        have hJ := Lib.hid hh.st
        have hsz := Lib.hid hh.size
        have hun := Lib.hid hh.un
        
        refine wp_app _ _ tOps tOps tOps rfl rfl (by simpa [go_sem] using h36) (by simpa [go_sem] using h39) hrn ⟨v9, rfl, hb9.mono (Nat.le_of_lt HKB.out), trivial, ⟨PJ.gotC hJ.out.1 hun.out ho9 hq9 hb9 hx9 hk9 (regv.sl_same (by rw [hsz.out]; simp)), fun _ => hup1.out⟩⟩
      · refine regv.StepOK.plain rfl fun L a w1 hh => ?_
        have h3 : a.tmps[3]?.getD undef = .pointer (some ⟨ko, 0, none⟩) := by rw [← Array.getD_eq_getD_getElem?]; exact hh.old 3 rfl
        have i0 := (hh.st.1.o).inside
        have hJ := Lib.hid hh.st
        clear hh
        go_simp
        exact ⟨_, rfl, Below.refl _ _, rfl, ⟨PJ.slots hJ.out.1 (regv.sl_ne (by decide)) (regv.sl_ne (by decide)), hJ.out.2⟩⟩
      · refine regv.StepOK.plain rfl fun L a w1 hh => ?_
        have h41 : a.tmps[41]?.getD undef = .pointer (some ⟨ko, 1, none⟩) := by rw [← Array.getD_eq_getD_getElem?]; exact hh.dep 6 41 (by kernel_rfl) (by kernel_rfl)
        have hupP := hh.up 5 (by kernel_rfl)
        obtain ⟨q9, ho9, hq9⟩ := hh.st.1.c hupP
        obtain ⟨A4, c4, e40, -⟩ := ho9.row OpR.cs_len
        have h40 : a.tmps[40]?.getD undef = .slice A4 (l3 ++ [q9]).length c4 := by rw [← Array.getD_eq_getD_getElem?]; exact e40
        obtain ⟨n4, hn4⟩ : ∃ n, (l3 ++ [q9]).length = n := ⟨_, rfl⟩
        rw [hn4] at h40 e40
        have hB := hh.st.1.o
        have hD0 : L 7 = false := hh.un
        rw [hD0] at hB
        have hPJ := Lib.hid (PJ.gotD hh.st.1 hupP HKB.out HXK.out ⟨1, [.slice A4 n4 c4], rfl⟩ (show Blk (w1.setCell ⟨ko, 1, none⟩ (.slice A4 n4 c4)) ko [.int .i64 v.k, regv.sl a 40, .int .i64 0, .int .i64 0, .int .u64 0] from by rw [e40]; exact hB.set 1 _))
        have hJ2 := Lib.hid hh.st.2
        have c0 : w1.cell? ⟨ko, 1, none⟩ = some (.slice A3 l3.length c3) := hB.cell 1
        have f0 := hB.free 1
        have i0 := hB.inside
        clear hh hB hD0 hupP ho9 hq9 hn4
        go_simp
        exact ⟨below_set (Below.refl _ _) (Nat.le_refl _), ⟨undef, trivial⟩, ⟨(by have := hPJ.out; rw [e40] at this; exact this), hJ2.out⟩⟩
      intro L w4 val hL hJ hR hv
      have HR4 := Lib.hid hR
      obtain ⟨q, ho4, hq4⟩ := hJ.1.c (hL 5 (by decide))
      have hb4 := hJ.1.o
      rw [hL 7 (by decide)] at hb4
      obtain ⟨A4, c4, e40, -⟩ := ho4.row OpR.cs_len
      rw [e40] at ho4 hb4
      have HQ4 := Lib.hid hq4
      have HO4 := Lib.hid ho4
      have HBO := Lib.hid hb4
      clear hv hL hJ hR ho4 hq4 hb4 e40
      simp only [regs.putAll, List.map_cons, List.map_nil]
      simp only [Act.put, List.setIfInBounds_toArray, List.set_cons_zero, List.set_cons_succ]
      generalize val 35 = v35 at *
      generalize val 36 = v36 at *
      generalize val 37 = v37 at *
      generalize val 38 = v38 at *
      generalize val 39 = v39 at *
      generalize val 40 = v40 at *
      generalize val 41 = v41 at *
      have HBx : Hid (Below ko w2 w4) := HBz.out.trans HR4.out
      go_wp2_with (fail)
      go_roundw
      case rel => exact ⟨k + 1, l3 ++ [q], A4, c4, HKL.out, by go_num, HO4.out, ⟨by rw [List.length_append, HD.out.1]; rfl, by rw [List.map_append, HD.out.2, HPT.out, List.map_append]; simp [HQ4.out.1]⟩, (fun r hr => by
        rcases List.mem_append.1 hr with h1 | h1
        · exact HP.out r h1
        · obtain rfl := List.mem_singleton.1 h1
          exact HQ4.out.2), HBO.out, HBx.out⟩
      case measure => have := HKL.out; simp [intOf]; omega
    · obtain rfl : k = l.length := by omega
      have t2 : decide (l.length < l.length) = false := by simp
      have HM : Hid (l3.map (·.o) = v.os.map plainO) := by
        have := HD.out.2
        rw [List.take_length] at this
        show _ = _
        rw [this, ← HLO.out, List.map_map]
        rfl
      have HTH : Hid (∀ q ∈ l3, q.o.lk.l.length ≤ 300) := fun q hq => by
        have h1 : q.o ∈ l3.map (·.o) := List.mem_map_of_mem hq
        rw [HM.out, ← HLO.out, List.map_map] at h1
        obtain ⟨r, hr, e⟩ := List.mem_map.1 h1
        rw [← e]
        exact Nat.le_trans (plainO_thin r.o) (HT.out.thin r hr)
      have HRr : Hid (Blk wA (w.heap.size + 1) (evl 0 none 0 0 0 0 0)) := HR2.out.below HBr.out (by have := HKO.out; omega)
      clear hkl
      go_wp2_with (first | ((with_reducible show wpList _ _ _ (Oper.mk _ (Op.load _ _) _ _ _ _ :: _) _ _); refine wpl_take 25 _ rfl rfl _ 0 rfl _ HO.out (evl v.k A3 l3.length c3 0 0 0) rfl _ Try.underlying25 rfl (by kernel_rfl) ?_) | ((with_reducible show wpList _ _ _ (Oper.mk _ (Op.store _ _ _) _ _ _ _ :: _) _ _); refine wpl_stow 25 _ _ rfl rfl rfl _ 0 rfl (evl v.k A3 l3.length c3 0 0 0) rfl ((evl 0 none 0 0 0 0 0)) HRr.out (evl v.k A3 l3.length c3 0 0 0) rfl (Nat.le_of_ble_eq_true rfl) (by kernel_rfl) (rfl) ?_; intro w9 HW9 HK9))
      have HB9 : Hid (Below w.heap.size w w9) := HW9.out.below HBw.out (by omega)
      refine blk_ret rfl rfl HK9.out Try.underlying25 rfl (by kernel_rfl) (EvQ0.of (A9 := A3) (c9 := c3) ?_ ⟨l3, HM.out, OpsB.zero ⟨?_, fun q hq => Row.below (HP.out q hq) HB9.out, HTH.out⟩⟩ HB9.out)
      · unfold EV.cs
        rw [HV1.out, show l3.length = (v.os.map plainO).length from by rw [← HM.out, List.length_map]]
      · obtain ⟨A5, c5, e5, -, -, h5⟩ := (HOW.out.stays (w' := w9) fun g hg => HW9.out.far (by have := (HOW.out.block hg).1; have := HKB.out; have := HKO.out; omega)).row OpR.cs_len
        injection e5 with e5
        rw [e5]
        exact h5
end Go.Proofs.Ytgadheamldianaa
