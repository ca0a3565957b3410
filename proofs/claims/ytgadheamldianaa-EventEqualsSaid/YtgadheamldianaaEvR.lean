/-
  Layer 19: lists of ops, and events, held against each other, by the program.
-/
import Derived.Test.YtgadheamldianaaEvP
namespace Go.Proofs.Ytgadheamldianaa
open Go.RowKit pxm imm

theorem os_step {l1 l2 : List OpR} {k : Nat} {p q : OpR} (h : (l1.take k).map (·.o) = (l2.take k).map (·.o)) (h1 : l1.take (k + 1) = l1.take k ++ [p]) (h2 : l2.take (k + 1) = l2.take k ++ [q]) (e : p.o = q.o) : (l1.take (k + 1)).map (·.o) = (l2.take (k + 1)).map (·.o) := by
  rw [h1, h2, List.map_append, List.map_append, h]
  simp [e]
theorem os_ne {l1 l2 : List OpR} {k : Nat} {p q : OpR} (h1 : l1[k]? = some p) (h2 : l2[k]? = some q) (e : p.o ≠ q.o) : l1.map (·.o) ≠ l2.map (·.o) := fun h => e (by
  have h3 := congrArg (fun l => l[k]?) h
  simpa [h1, h2] using h3)
set_option maxHeartbeats 4000000 in
set_option maxRecDepth 100000 in
theorem eqfunc_any (l1 l2 : List OpR) (A1 A2 : Option Addr) (c1 c2 : Nat) (w : World) (h1 : OpsT w A1 l1) (h2 : OpsT w A2 l2) (n1 : l1.length ≤ 2000) (n2 : l2.length ≤ 2000) :
    Calls Try.prog 21 #[.slice A1 l1.length c1, .slice A2 l2.length c2, .func (.func 22) #[] #[]] w (SameQ (l1.map (·.o) = l2.map (·.o)) w) := by
  have H1 := Lib.hid h1
  have H2 := Lib.hid h2
  have hb1 : (l1.length : Int) ≤ 2000 := by omega
  have hb2 : (l2.length : Int) ≤ 2000 := by omega
  clear h1 h2 n1 n2
  by_cases hl : l1.length = l2.length
  · have q : ((l1.length : Int) != (l2.length : Int)) = false := by simp; omega
    have HL := Lib.hid hl
    clear hl
    go_enter Try.func21, Try.ntmps21
    go_wp2_with (fail)
    clear q
    go_loopw [17] (fun x wr => ∃ k : Nat, k ≤ l1.length ∧ x = .int .i64 (k : Nat) ∧ Hid ((l1.take k).map (·.o) = (l2.take k).map (·.o)) ∧ Hid (Below w.heap.size w wr)) (fun x _ => l1.length - (intOf x).toNat)
    case atStart => exact ⟨0, Nat.zero_le _, rfl, rfl, Below.refl _ _⟩
    case round =>
      obtain ⟨k, hk, rfl, HK, HB⟩ := hrel
      generalize wr = wA at *
      have hkb : ((k : Nat) : Int) ≤ 2000 := by omega
      by_cases hlt : k < l1.length
      · have t1 : decide (k < l1.length) = true := by simpa using hlt
        have hlt2 : k < l2.length := by rw [← HL.out]; exact hlt
        have t3 : decide (k < l2.length) = true := by simpa using hlt2
        have HKL := Lib.hid hlt
        obtain ⟨bb, bo, rp, bcell⟩ := (H1.out.below HB.out).row (by omega)
        have HAp := Lib.hid rp
        rw [rp]
        obtain ⟨p, hp⟩ : ∃ p, p = l1[k]'hlt := ⟨_, rfl⟩
        have HMp : Hid (p ∈ l1) := by rw [hp]; exact List.getElem_mem hlt
        have HTp : Hid (l1.take (k + 1) = l1.take k ++ [p]) := by rw [hp]; exact List.take_succ_eq_append_getElem hlt
        have HSp : Hid (l1[k]? = some p) := by rw [hp]; exact List.getElem?_eq_getElem hlt
        have HRGp : Hid (wA.rangeAt bb (bo + k * 23) p.cs) := by
          rw [hp]
          exact fun i v hv => bcell k hlt i v hv
        have HXp := Lib.hid (H1.out.px p HMp.out)
        have HHp := Lib.hid (H1.out.thin p HMp.out)
        have pc := HRGp.out 0 (.int .i64 p.o.k) rfl
        have ip : bb < wA.heap.size := World.block_lt_of_cell? wA ⟨bb, _, none⟩ pc
        clear pc rp bcell hp
        obtain ⟨db, do_, rq, dcell⟩ := (H2.out.below HB.out).row (by omega)
        have HAq := Lib.hid rq
        rw [rq]
        obtain ⟨q, hq⟩ : ∃ q, q = l2[k]'hlt2 := ⟨_, rfl⟩
        have HMq : Hid (q ∈ l2) := by rw [hq]; exact List.getElem_mem hlt2
        have HTq : Hid (l2.take (k + 1) = l2.take k ++ [q]) := by rw [hq]; exact List.take_succ_eq_append_getElem hlt2
        have HSq : Hid (l2[k]? = some q) := by rw [hq]; exact List.getElem?_eq_getElem hlt2
        have HRGq : Hid (wA.rangeAt db (do_ + k * 23) q.cs) := by
          rw [hq]
          exact fun i v hv => dcell k hlt2 i v hv
        have HXq := Lib.hid (H2.out.px q HMq.out)
        have HHq := Lib.hid (H2.out.thin q HMq.out)
        have qc := HRGq.out 0 (.int .i64 q.o.k) rfl
        have iq : db < wA.heap.size := World.block_lt_of_cell? wA ⟨db, _, none⟩ qc
        clear qc rq dcell hq
        clear hlt
        have HZ2 : Hid (Blk (wA.alloc (.cells #[.int .i64 0, .int .i64 0, .int .i64 0, .int .i64 0, .int .i64 0, .int .i64 0, .int .i64 0, .int .i64 0, .int .i64 0, .int .i64 0, .int .i64 0, .int .i64 0, .int .i64 0, .int .i64 0, .bool false, .int .i64 0, .int .i64 0, .int .i64 0, .int .i64 0, .int .u32 0, .int .i64 0, .int .i64 0, .slice none 0 0] 52)) wA.heap.size [.int .i64 0, .int .i64 0, .int .i64 0, .int .i64 0, .int .i64 0, .int .i64 0, .int .i64 0, .int .i64 0, .int .i64 0, .int .i64 0, .int .i64 0, .int .i64 0, .int .i64 0, .int .i64 0, .bool false, .int .i64 0, .int .i64 0, .int .i64 0, .int .i64 0, .int .u32 0, .int .i64 0, .int .i64 0, .slice none 0 0]) := blk_new wA [.int .i64 0, .int .i64 0, .int .i64 0, .int .i64 0, .int .i64 0, .int .i64 0, .int .i64 0, .int .i64 0, .int .i64 0, .int .i64 0, .int .i64 0, .int .i64 0, .int .i64 0, .int .i64 0, .bool false, .int .i64 0, .int .i64 0, .int .i64 0, .int .i64 0, .int .u32 0, .int .i64 0, .int .i64 0, .slice none 0 0] _
        have HBa : Hid (Below wA.heap.size wA (wA.alloc (.cells #[.int .i64 0, .int .i64 0, .int .i64 0, .int .i64 0, .int .i64 0, .int .i64 0, .int .i64 0, .int .i64 0, .int .i64 0, .int .i64 0, .int .i64 0, .int .i64 0, .int .i64 0, .int .i64 0, .bool false, .int .i64 0, .int .i64 0, .int .i64 0, .int .i64 0, .int .u32 0, .int .i64 0, .int .i64 0, .slice none 0 0] 52))) := (Below.refl _ _).alloc (Nat.le_refl _) _
        go_upto_region 6 with (first | ((with_reducible show wpList _ _ _ (Oper.mk _ (Op.load _ _) _ _ _ _ :: _) _ _); refine wpl_row 52 _ rfl rfl _ _ rfl (p.cs) HRGp.out _ Try.underlying52 rfl (by kernel_rfl) ?_) | ((with_reducible show wpList _ _ _ (Oper.mk _ (Op.store _ _ _) _ _ _ _ :: _) _ _); refine wpl_stow 52 _ _ rfl rfl rfl _ 0 rfl (p.cs) rfl ([.int .i64 0, .int .i64 0, .int .i64 0, .int .i64 0, .int .i64 0, .int .i64 0, .int .i64 0, .int .i64 0, .int .i64 0, .int .i64 0, .int .i64 0, .int .i64 0, .int .i64 0, .int .i64 0, .bool false, .int .i64 0, .int .i64 0, .int .i64 0, .int .i64 0, .int .u32 0, .int .i64 0, .int .i64 0, .slice none 0 0]) HZ2.out (p.cs) rfl (Nat.le_of_ble_eq_true rfl) (by kernel_rfl) (Op9.one _ _ _) ?_; intro w3 HW3 HK3))
        have HB3 : Hid (Below wA.heap.size wA w3) := HW3.out.below HBa.out (Nat.le_refl _)
        have HRGq3 : Hid (w3.rangeAt db (do_ + k * 23) q.cs) := fun i v hv => (HB3.out.cell (p := ⟨db, _, none⟩) iq).trans (HRGq.out i v hv)
        have HZ4 : Hid (Blk (w3.alloc (.cells #[.int .i64 0, .int .i64 0, .int .i64 0, .int .i64 0, .int .i64 0, .int .i64 0, .int .i64 0, .int .i64 0, .int .i64 0, .int .i64 0, .int .i64 0, .int .i64 0, .int .i64 0, .int .i64 0, .bool false, .int .i64 0, .int .i64 0, .int .i64 0, .int .i64 0, .int .u32 0, .int .i64 0, .int .i64 0, .slice none 0 0] 52)) w3.heap.size [.int .i64 0, .int .i64 0, .int .i64 0, .int .i64 0, .int .i64 0, .int .i64 0, .int .i64 0, .int .i64 0, .int .i64 0, .int .i64 0, .int .i64 0, .int .i64 0, .int .i64 0, .int .i64 0, .bool false, .int .i64 0, .int .i64 0, .int .i64 0, .int .i64 0, .int .u32 0, .int .i64 0, .int .i64 0, .slice none 0 0]) := blk_new w3 [.int .i64 0, .int .i64 0, .int .i64 0, .int .i64 0, .int .i64 0, .int .i64 0, .int .i64 0, .int .i64 0, .int .i64 0, .int .i64 0, .int .i64 0, .int .i64 0, .int .i64 0, .int .i64 0, .bool false, .int .i64 0, .int .i64 0, .int .i64 0, .int .i64 0, .int .u32 0, .int .i64 0, .int .i64 0, .slice none 0 0] _
        have HBb : Hid (Below w3.heap.size w3 (w3.alloc (.cells #[.int .i64 0, .int .i64 0, .int .i64 0, .int .i64 0, .int .i64 0, .int .i64 0, .int .i64 0, .int .i64 0, .int .i64 0, .int .i64 0, .int .i64 0, .int .i64 0, .int .i64 0, .int .i64 0, .bool false, .int .i64 0, .int .i64 0, .int .i64 0, .int .i64 0, .int .u32 0, .int .i64 0, .int .i64 0, .slice none 0 0] 52))) := (Below.refl _ _).alloc (Nat.le_refl _) _
        have HK4 : Hid (Blk (w3.alloc (.cells #[.int .i64 0, .int .i64 0, .int .i64 0, .int .i64 0, .int .i64 0, .int .i64 0, .int .i64 0, .int .i64 0, .int .i64 0, .int .i64 0, .int .i64 0, .int .i64 0, .int .i64 0, .int .i64 0, .bool false, .int .i64 0, .int .i64 0, .int .i64 0, .int .i64 0, .int .u32 0, .int .i64 0, .int .i64 0, .slice none 0 0] 52)) wA.heap.size p.cs) := HK3.out.alloc _
        have iq3 : db < w3.heap.size := Nat.lt_of_lt_of_le iq HB3.out.size
        clear HZ2 HBa HW3 HRGp HRGq ip iq
        go_upto_region 7 with (first | ((with_reducible show wpList _ _ _ (Oper.mk _ (Op.load _ _) _ _ _ _ :: _) _ _); refine wpl_row 52 _ rfl rfl _ _ rfl (q.cs) HRGq3.out _ Try.underlying52 rfl (by kernel_rfl) ?_) | ((with_reducible show wpList _ _ _ (Oper.mk _ (Op.store _ _ _) _ _ _ _ :: _) _ _); refine wpl_stow 52 _ _ rfl rfl rfl _ 0 rfl (q.cs) rfl ([.int .i64 0, .int .i64 0, .int .i64 0, .int .i64 0, .int .i64 0, .int .i64 0, .int .i64 0, .int .i64 0, .int .i64 0, .int .i64 0, .int .i64 0, .int .i64 0, .int .i64 0, .int .i64 0, .bool false, .int .i64 0, .int .i64 0, .int .i64 0, .int .i64 0, .int .u32 0, .int .i64 0, .int .i64 0, .slice none 0 0]) HZ4.out (q.cs) rfl (Nat.le_of_ble_eq_true rfl) (by kernel_rfl) (Op9.one _ _ _) ?_; intro w5 HW5 HK5))
        have HB5 : Hid (Below wA.heap.size wA w5) := HB3.out.trans ((HW5.out.below HBb.out (Nat.le_refl _)).mono HB3.out.size)
        have HK6 : Hid (Blk w5 wA.heap.size p.cs) := HW5.out.blk (Nat.ne_of_lt HK3.out.inside) HK4.out
        have HBw : Hid (Below w.heap.size w w5) := HB.out.trans (HB5.out.mono HB.out.size)
        have HC : Hid (Calls Try.prog 22 #[.agg p.cs.toArray, .agg q.cs.toArray] w5 (SameQ (p.o = q.o) w5)) := sameop_any p.o q.o p.A q.A p.c q.c w5 (Row.below HXp.out HBw.out) (Row.below HXq.out HBw.out) (by have := HHp.out; unfold maxLen; omega) (by have := HHq.out; unfold maxLen; omega)
        unfold SameQ at HC
        clear HZ4 HBb HW5 HRGq3 iq3 HK4 HB3 HB HB5
        go_wp2_with (first | ((with_reducible show wpList _ _ _ (Oper.mk _ (Op.load _ _) _ _ _ _ :: _) _ _); refine wpl_take 52 _ rfl rfl _ 0 rfl _ HK6.out (p.cs) rfl _ Try.underlying52 rfl (by kernel_rfl) ?_) | ((with_reducible show wpList _ _ _ (Oper.mk _ (Op.load _ _) _ _ _ _ :: _) _ _); refine wpl_take 52 _ rfl rfl _ 0 rfl _ HK5.out (q.cs) rfl _ Try.underlying52 rfl (by kernel_rfl) ?_))
        refine HC.out.mono ?_
        rintro e w7 ⟨b, rfl, hi, hb⟩
        have HI := Lib.hid hi
        have HB7 : Hid (Below w.heap.size w w7) := HBw.out.trans (hb.mono HBw.out.size)
        clear hi hb HC HBw
        cases b with
        | true =>
          have HS2 := Lib.hid (os_step HK.out HTp.out HTq.out (HI.out.1 rfl))
          go_wp2_with (fail)
          go_roundw
          case rel => exact ⟨k + 1, HKL.out, by go_num, HS2, HB7⟩
          case measure => have := HKL.out; simp [intOf]; omega
        | false =>
          have HNE : Hid (false = true ↔ l1.map (·.o) = l2.map (·.o)) := ⟨(fun h => nomatch h), fun h => absurd h (os_ne HSp.out HSq.out fun e => nomatch (HI.out.2 e))⟩
          go_wp2_with (fail)
          go_ret
          exact SameQ.of HNE.out HB7.out
      · obtain rfl : k = l1.length := by omega
        have HF : Hid (l1.map (·.o) = l2.map (·.o)) := by
          have h := HK.out
          rwa [List.take_length, HL.out, List.take_length] at h
        have t1 : decide (l1.length < l1.length) = false := by simp
        go_wp2_with (fail)
        go_ret
        exact SameQ.of ⟨fun _ => HF.out, fun _ => rfl⟩ HB.out
  · have q : ((l1.length : Int) != (l2.length : Int)) = true := by simp; omega
    have HF : Hid (false = true ↔ l1.map (·.o) = l2.map (·.o)) := ⟨(fun h => nomatch h), fun h => absurd (by have := congrArg List.length h; simpa using this) hl⟩
    clear hl
    go_enter Try.func21, Try.ntmps21
    go_wp2_with (fail)
    go_ret
    exact SameQ.of HF.out (Below.refl _ _)
set_option maxHeartbeats 2000000 in
theorem eqops_any (x y : List Op9) (A1 A2 : Option Addr) (c1 c2 : Nat) (w : World) (h1 : OpsE w 0 A1 x) (h2 : OpsE w 0 A2 y) (n1 : x.length ≤ 2000) (n2 : y.length ≤ 2000) :
    Calls Try.prog 15 #[.slice A1 x.length c1, .slice A2 y.length c2] w (SameQ (x = y) w) := by
  obtain ⟨l1, rfl, o1⟩ := h1
  obtain ⟨l2, rfl, o2⟩ := h2
  rw [List.length_map] at n1 n2 ⊢
  rw [List.length_map]
  have HC := Lib.hid (eqfunc_any l1 l2 A1 A2 c1 c2 w o1.t o2.t n1 n2)
  unfold SameQ at HC
  clear n1 n2 o1 o2
  go_enter Try.func15, Try.ntmps15
  go_wp2_with (fail)
  refine HC.out.mono ?_
  rintro e w7 ⟨b, rfl, hi, hb⟩
  have HI := Lib.hid hi
  have HB := Lib.hid hb
  clear hi hb HC
  go_wp2_with (fail)
  go_ret
  exact SameQ.of HI.out HB.out
theorem ev_ext {a b : EV} (h1 : a.k = b.k) (h2 : a.x = b.x) (h3 : a.y = b.y) (h4 : a.n = b.n) (h5 : a.os = b.os) : a = b := by
  obtain ⟨a1, a2, a3, a4, a5⟩ := a
  obtain ⟨b1, b2, b3, b4, b5⟩ := b
  simp only at h1 h2 h3 h4 h5
  subst h1 h2 h3 h4 h5
  rfl
set_option maxHeartbeats 4000000 in
set_option maxRecDepth 100000 in
theorem equal_ev (v1 v2 : EV) (A1 A2 : Option Addr) (u1 u2 : Nat) (w : World) (h1 : OpsE w 0 A1 v1.os) (h2 : OpsE w 0 A2 v2.os) (n1 : v1.os.length ≤ 2000) (n2 : v2.os.length ≤ 2000) :
    Calls Try.prog 11 #[.agg (v1.cs A1 u1).toArray, .agg (v2.cs A2 u2).toArray] w (SameQ (v1 = v2) w) := by
  have HR := Lib.hid (And.intro h1 h2)
  have HE := Lib.hid (fun w h1 h2 => eqops_any v1.os v2.os A1 A2 u1 u2 w h1 h2 n1 n2)
  unfold SameQ at HE
  clear h1 h2 n1 n2
  have HB : Hid (Below w.heap.size w ((w.alloc (.cells (v1.cs A1 u1).toArray 25)).alloc (.cells (v2.cs A2 u2).toArray 25))) := ((Below.refl _ _).alloc (Nat.le_refl _) _).alloc (by simp) _
  have HK1 : Hid (Blk ((w.alloc (.cells (v1.cs A1 u1).toArray 25)).alloc (.cells (v2.cs A2 u2).toArray 25)) w.heap.size (v1.cs A1 u1)) := (blk_new w (v1.cs A1 u1) _).alloc _
  have HK2 : Hid (Blk ((w.alloc (.cells (v1.cs A1 u1).toArray 25)).alloc (.cells (v2.cs A2 u2).toArray 25)) (w.heap.size + 1) (v2.cs A2 u2)) := blk_at (w.alloc _) _ (by simp) (v2.cs A2 u2) _
  go_enter Try.func11, Try.ntmps11
  go_upto_region 1 with (fail)
  generalize ((w.alloc (.cells (v1.cs A1 u1).toArray 25)).alloc (.cells (v2.cs A2 u2).toArray 25)) = wz at *
  have x0 : wz.cell? ⟨w.heap.size, 0, none⟩ = some (.int .i64 v1.k) := HK1.out.cell 0
  have y0 : wz.cell? ⟨w.heap.size + 1, 0, none⟩ = some (.int .i64 v2.k) := HK2.out.cell 0
  have x2 : wz.cell? ⟨w.heap.size, 2, none⟩ = some (.int .i64 v1.x) := HK1.out.cell 2
  have y2 : wz.cell? ⟨w.heap.size + 1, 2, none⟩ = some (.int .i64 v2.x) := HK2.out.cell 2
  have x3 : wz.cell? ⟨w.heap.size, 3, none⟩ = some (.int .i64 v1.y) := HK1.out.cell 3
  have y3 : wz.cell? ⟨w.heap.size + 1, 3, none⟩ = some (.int .i64 v2.y) := HK2.out.cell 3
  have x4 : wz.cell? ⟨w.heap.size, 4, none⟩ = some (.int .u64 v1.n) := HK1.out.cell 4
  have y4 : wz.cell? ⟨w.heap.size + 1, 4, none⟩ = some (.int .u64 v2.n) := HK2.out.cell 4
  have x1 : wz.cell? ⟨w.heap.size, 1, none⟩ = some (.slice A1 v1.os.length u1) := HK1.out.cell 1
  have y1 : wz.cell? ⟨w.heap.size + 1, 1, none⟩ = some (.slice A2 v2.os.length u2) := HK2.out.cell 1
  have i1 : w.heap.size < wz.heap.size := HK1.out.inside
  have i2 : w.heap.size + 1 < wz.heap.size := HK2.out.inside
  by_cases ek : ¬ v1.k = v2.k
  · have tk : (v1.k == v2.k) = false := by simpa using ek
    have HNO : Hid (false = true ↔ v1 = v2) := ⟨(fun h => nomatch h), fun h => absurd (by rw [h]) ek⟩
    clear  ek
    go_wp2_with (fail)
    go_ret
    exact SameQ.of HNO.out HB.out
  have Ek := Lib.hid (Decidable.not_not.1 ek)
  have tk : (v1.k == v2.k) = true := by simpa using Ek.out
  clear ek
  by_cases ex : ¬ v1.x = v2.x
  · have tx : (v1.x == v2.x) = false := by simpa using ex
    have HNO : Hid (false = true ↔ v1 = v2) := ⟨(fun h => nomatch h), fun h => absurd (by rw [h]) ex⟩
    clear Ek ex
    go_wp2_with (fail)
    go_ret
    exact SameQ.of HNO.out HB.out
  have Ex := Lib.hid (Decidable.not_not.1 ex)
  have tx : (v1.x == v2.x) = true := by simpa using Ex.out
  clear ex
  by_cases ey : ¬ v1.y = v2.y
  · have ty : (v1.y == v2.y) = false := by simpa using ey
    have HNO : Hid (false = true ↔ v1 = v2) := ⟨(fun h => nomatch h), fun h => absurd (by rw [h]) ey⟩
    clear Ek Ex ey
    go_wp2_with (fail)
    go_ret
    exact SameQ.of HNO.out HB.out
  have Ey := Lib.hid (Decidable.not_not.1 ey)
  have ty : (v1.y == v2.y) = true := by simpa using Ey.out
  clear ey
  by_cases en : ¬ v1.n = v2.n
  · have tn : (v1.n == v2.n) = false := by simpa using en
    have HNO : Hid (false = true ↔ v1 = v2) := ⟨(fun h => nomatch h), fun h => absurd (by rw [h]) en⟩
    clear Ek Ex Ey en
    go_wp2_with (fail)
    go_ret
    exact SameQ.of HNO.out HB.out
  have En := Lib.hid (Decidable.not_not.1 en)
  have tn : (v1.n == v2.n) = true := by simpa using En.out
  clear en
  have HALL : Hid (v1 = v2 ↔ v1.os = v2.os) := ⟨fun h => by rw [h], fun h => ev_ext Ek.out Ex.out Ey.out En.out h⟩
  clear Ek Ex Ey En
  go_wp2_with (fail)
  refine (HE.out _ (HR.out.1.below HB.out) (HR.out.2.below HB.out)).mono ?_
  rintro e w2 ⟨b, rfl, hi, hb⟩
  have HB2 : Hid (Below w.heap.size w w2) := bel2 HB.out hb
  have HI : Hid (b = true ↔ v1 = v2) := hi.trans HALL.out.symm
  clear hb hi HE HALL
  go_wp2_with (fail)
  go_ret
  exact SameQ.of HI.out HB2.out
end Go.Proofs.Ytgadheamldianaa
