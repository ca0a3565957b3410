/-
  Layer 19: the fixed answer.
-/
import Derived.Test.YtgadheamldianaaEvW
namespace Go.Proofs.Ytgadheamldianaa
open Go.RowKit pxm imm

def awO : Op9 := { Op9.o with k := 6, i := 3, n := 5, N := 7 }
def awP : Op9 := { Op9.o with k := 6, i := 3, N := 7 }
theorem aw_plain : plainO awO = awP := rfl
def awE : EV := ⟨1, [awO], 0, 0, 0⟩
def awF : EV := ⟨1, [awP], 0, 0, 0⟩
theorem awE_plain : plainE awE = awF := rfl
theorem awN_plain : plainE ⟨6, [], 0, 0, 7⟩ = ⟨6, [], 0, 0, 0⟩ := rfl
theorem aw_ne : ¬ awE = awF := fun h => by
  have h1 : [awO] = [awP] := congrArg EV.os h
  have h2 : awO.n = awP.n := by rw [(List.cons.inj h1).1]
  exact absurd h2 (by decide)
theorem build_aw (w : World) : (Instr.build 52 #[(0, .int .i64 6), (1, .int .i64 3), (7, .int .i64 7), (3, .int .i64 5)]).run Try.prog w = .ok (.agg (awO.cs none 0).toArray) w := by kernel_rfl
theorem field_x (v : EV) (A : Option Addr) (c : Nat) (w : World) : (Instr.field 25 (.agg (v.cs A c).toArray) 2).run Try.prog w = .ok (.int .i64 v.x) w := by kernel_rfl
theorem one_of_map {lp : List OpR} {x : Op9} (h : lp.map (·.o) = [x]) : ∃ q, lp = [q] ∧ q.o = x := by
  cases lp with
  | nil => cases h
  | cons q l =>
    cases l with
    | nil => exact ⟨q, rfl, (List.cons.inj h).1⟩
    | cons r l => simp at h
theorem EvQ.to {v : EV} {w : World} {e : Ending} {w' : World} (h : EvQ v w e w') : EvQ0 v w e w' := by
  obtain ⟨A, c, h1, h2, h3⟩ := h
  exact ⟨A, c, h1, h2.ge (Nat.zero_le _), h3⟩
set_option maxHeartbeats 8000000 in
set_option maxRecDepth 100000 in
theorem awake_any (w : World) : Calls Try.prog 7 #[] w fun e w' => e = .returned (.bool true) ∧ Below w.heap.size w w' := by
  have HO0 : Hid (OpsT (w.alloc (.cells (⟨awO, none, 0⟩ : OpR).cs.toArray 52)) (some ⟨w.heap.size, 0, none⟩) [(⟨awO, none, 0⟩ : OpR)]) := ⟨by have := srow_new (enc := OpR.cs) OpR.cs_len w [(⟨awO, none, 0⟩ : OpR)] 52 rfl; rwa [show [(⟨awO, none, 0⟩ : OpR)].flatMap OpR.cs = (⟨awO, none, 0⟩ : OpR).cs from by simp] at this, (fun q hq => by rw [List.mem_singleton.1 hq]; exact Row.none_ rfl), fun q hq => by rw [List.mem_singleton.1 hq]; exact Nat.zero_le _⟩
  have HB0 : Hid (Below w.heap.size w (w.alloc (.cells (⟨awO, none, 0⟩ : OpR).cs.toArray 52))) := (Below.refl _ _).alloc (Nat.le_refl _) _
  go_enter Try.func7, Try.ntmps7
  go_wp2_with (first | ((with_reducible show wpList _ _ _ (Oper.mk _ (Op.build _ _) _ _ _ _ :: _) _ _); refine wpl_build _ _ rfl rfl (by simp [go_sem]) (build_aw _) ?_) | ((with_reducible show wpList _ _ _ (Oper.mk _ (Op.buildSlice _ _ _) _ _ _ _ :: _) _ _); refine wpl_bs _ _ _ rfl rfl (by simp [go_sem]; rfl) (bs_op1 (⟨awO, none, 0⟩ : OpR) _) ?_))
  generalize w.alloc (.cells (⟨awO, none, 0⟩ : OpR).cs.toArray 52) = w0 at *
  have HC := Lib.hid (of_any [(⟨awO, none, 0⟩ : OpR)] (some ⟨w.heap.size, 0, none⟩) 1 w0 HO0.out (by decide))
  unfold EvQ at HC
  refine HC.out.mono ?_
  rintro e w1 ⟨A1, c1, rfl, ho, hb⟩
  have HE1 : Hid (OpsE w1 0 A1 awE.os) := ho.ge (Nat.zero_le _)
  have HB1 : Hid (Below w.heap.size w w1) := HB0.out.trans (hb.mono HB0.out.size)
  clear ho hb HC HO0 HB0
  have HZ1 : Hid (Blk (w1.alloc (.cells #[.int .i64 0, .slice none 0 0, .int .i64 0, .int .i64 0, .int .u64 0] 25)) w1.heap.size (evl 0 none 0 0 0 0 0)) := blk_new w1 (evl 0 none 0 0 0 0 0) _
  have HA1 : Hid (Below w1.heap.size w1 (w1.alloc (.cells #[.int .i64 0, .slice none 0 0, .int .i64 0, .int .i64 0, .int .u64 0] 25))) := (Below.refl _ _).alloc (Nat.le_refl _) _
  go_upto_region 2 with (first | ((with_reducible show wpList _ _ _ (Oper.mk _ (Op.store _ _ _) _ _ _ _ :: _) _ _); refine wpl_stow 25 _ _ rfl rfl rfl _ 0 rfl (awE.cs A1 c1) rfl ((evl 0 none 0 0 0 0 0)) HZ1.out (awE.cs A1 c1) rfl (Nat.le_of_ble_eq_true rfl) (by kernel_rfl) (EV.one _ _ _) ?_; intro w2 HW2 HK2))
  obtain ⟨b1, hb1⟩ : ∃ b, w1.heap.size = b := ⟨_, rfl⟩
  have HB2w : Hid (Below w1.heap.size w1 w2) := HW2.out.below HA1.out (Nat.le_refl _)
  have HE2 := Lib.hid (HE1.out.below HB2w.out)
  have HB2 : Hid (Below w.heap.size w w2) := HB1.out.trans (HB2w.out.mono HB1.out.size)
  rw [hb1] at HK2 ⊢
  clear hb1 HZ1 HA1 HW2 HB2w HE1 HB1
  have HC := Lib.hid (plain_any_ awE A1 c1 w2 HE2.out (by decide))
  rw [awE_plain] at HC
  unfold EvQ at HC
  go_wp2_with (first | ((with_reducible show wpList _ _ _ (Oper.mk _ (Op.load _ _) _ _ _ _ :: _) _ _); refine wpl_take 25 _ rfl rfl _ 0 rfl _ HK2.out (awE.cs A1 c1) rfl _ Try.underlying25 rfl (by kernel_rfl) ?_))
  refine HC.out.mono ?_
  rintro e w3 ⟨A2, c2, rfl, ho, hb⟩
  have HE3 : Hid (OpsE w3 0 A2 awF.os) := ho.ge (Nat.zero_le _)
  have HD3 := Lib.hid (HE2.out.below hb)
  have HK3 := Lib.hid (HK2.out.below' hb)
  have HB3 : Hid (Below w.heap.size w w3) := HB2.out.trans (hb.mono HB2.out.size)
  clear ho hb HC HE2 HK2 HB2
  have HZ3 : Hid (Blk (w3.alloc (.cells #[.int .i64 0, .slice none 0 0, .int .i64 0, .int .i64 0, .int .u64 0] 25)) w3.heap.size (evl 0 none 0 0 0 0 0)) := blk_new w3 (evl 0 none 0 0 0 0 0) _
  have HA3 : Hid (Below w3.heap.size w3 (w3.alloc (.cells #[.int .i64 0, .slice none 0 0, .int .i64 0, .int .i64 0, .int .u64 0] 25))) := (Below.refl _ _).alloc (Nat.le_refl _) _
  go_upto_region 3 with (first | ((with_reducible show wpList _ _ _ (Oper.mk _ (Op.store _ _ _) _ _ _ _ :: _) _ _); refine wpl_stow 25 _ _ rfl rfl rfl _ 0 rfl (awF.cs A2 c2) rfl ((evl 0 none 0 0 0 0 0)) HZ3.out (awF.cs A2 c2) rfl (Nat.le_of_ble_eq_true rfl) (by kernel_rfl) (EV.one _ _ _) ?_; intro w4 HW4 HP4))
  obtain ⟨b2, hb2⟩ : ∃ b, w3.heap.size = b := ⟨_, rfl⟩
  have HB4w : Hid (Below w3.heap.size w3 w4) := HW4.out.below HA3.out (Nat.le_refl _)
  have HK4 := Lib.hid (HK3.out.below' HB4w.out)
  have HE4 := Lib.hid (HE3.out.below HB4w.out)
  have HD4 := Lib.hid (HD3.out.below HB4w.out)
  have HB4 : Hid (Below w.heap.size w w4) := HB3.out.trans (HB4w.out.mono HB3.out.size)
  rw [hb2] at HP4 ⊢
  clear hb2 HZ3 HA3 HW4 HB4w HE3 HB3 HK3 HD3
  obtain ⟨lp, hm, hop⟩ := HE4.out
  obtain ⟨q, rfl, hq⟩ := one_of_map hm
  obtain ⟨rb, ro, rfl, hrow⟩ := hop.t.row (by simp)
  have r1 : w4.cell? ⟨rb, ro + 1, none⟩ = some (.int .i64 3) := by have := hrow 0 (by simp) 1 (.int .i64 q.o.i) rfl; rw [hq] at this; simpa [awP, Op9.o] using this
  have r3 : w4.cell? ⟨rb, ro + 3, none⟩ = some (.int .i64 0) := by have := hrow 0 (by simp) 3 (.int .i64 q.o.n) rfl; rw [hq] at this; simpa [awP, Op9.o] using this
  have r15 : w4.cell? ⟨rb, ro + 15, none⟩ = some (.int .i64 7) := by have := hrow 0 (by simp) 15 (.int .i64 q.o.N) rfl; rw [hq] at this; simpa [awP, Op9.o] using this
  have r0 : w4.cell? ⟨rb, ro, none⟩ = some (.int .i64 6) := by have := hrow 0 (by simp) 0 (.int .i64 q.o.k) rfl; rw [hq] at this; simpa [awP, Op9.o] using this
  have ir : rb < w4.heap.size := World.block_lt_of_cell? w4 ⟨rb, ro, none⟩ r0
  have k0 : w4.cell? ⟨b1, 0, none⟩ = some (.int .i64 1) := HK4.out.cell 0
  have p1 : w4.cell? ⟨b2, 1, none⟩ = some (.slice (some ⟨rb, ro, none⟩) 1 c2) := HP4.out.cell 1
  have j1 := HK4.out.inside
  have j2 := HP4.out.inside
  have HC := Lib.hid (number_any 6 7 w4)
  unfold EvQ at HC
  clear hm hop hrow hq
  go_wp2_with (fail)
  refine HC.out.mono ?_
  rintro e w5 ⟨A3, c3, rfl, ho, hb⟩
  have HK5 := Lib.hid (HK4.out.below' hb)
  have HP5 := Lib.hid (HP4.out.below' hb)
  have HE5 := Lib.hid (HE4.out.below hb)
  have HD5 := Lib.hid (HD4.out.below hb)
  have HB5 : Hid (Below w.heap.size w w5) := HB4.out.trans (hb.mono HB4.out.size)
  have HC := Lib.hid (plain_any_ ⟨6, [], 0, 0, 7⟩ A3 c3 w5 (ho.ge (Nat.zero_le _)) (by decide))
  rw [awN_plain] at HC
  unfold EvQ at HC
  clear ho hb r0 r1 r3 r15 ir k0 p1 j1 j2 HK4 HP4 HE4 HD4 HB4
  go_wp2_with (fail)
  refine HC.out.mono ?_
  rintro e w6 ⟨A4, c4, rfl, ho, hb⟩
  have HK6 := Lib.hid (HK5.out.below' hb)
  have HP6 := Lib.hid (HP5.out.below' hb)
  have HE6 := Lib.hid (HE5.out.below hb)
  have HD6 := Lib.hid (HD5.out.below hb)
  have HB6 : Hid (Below w.heap.size w w6) := HB5.out.trans (hb.mono HB5.out.size)
  have HC : Hid (Calls Try.prog 11 #[.agg ((⟨6, [], 0, 0, 0⟩ : EV).cs A4 c4).toArray, .agg (evl 6 none 0 0 0 0 0).toArray] w6 fun e w' => e = .returned (.bool true) ∧ Below w6.heap.size w6 w') := (equal_ev ⟨6, [], 0, 0, 0⟩ ⟨6, [], 0, 0, 0⟩ A4 none c4 0 w6 (ho.ge (Nat.zero_le _)) (OpsE.no _ _) (by decide) (by decide)).mono fun _ _ h => h.told ⟨fun _ => rfl, fun _ => rfl⟩
  clear ho hb HK5 HP5 HE5 HD5 HB5
  go_wp2_with (first | ((with_reducible show wpList _ _ _ (Oper.mk _ (Op.build _ _) _ _ _ _ :: _) _ _); refine wpl_build _ _ rfl rfl (by simp [go_sem]) (build_e0 6 _) ?_))
  refine HC.out.mono ?_
  rintro e w7 ⟨rfl, hb⟩
  have HK7 := Lib.hid (HK6.out.below' hb)
  have HP7 := Lib.hid (HP6.out.below' hb)
  have HE7 := Lib.hid (HE6.out.below hb)
  have HD7 := Lib.hid (HD6.out.below hb)
  have HB7 : Hid (Below w.heap.size w w7) := HB6.out.trans (hb.mono HB6.out.size)
  have HC := Lib.hid (at_any 1 2 w7)
  unfold EvQ at HC
  clear hb HK6 HP6 HE6 HD6 HB6
  go_wp2_with (fail)
  refine HC.out.mono ?_
  rintro e w8 ⟨A5, c5, rfl, ho, hb⟩
  have HK8 := Lib.hid (HK7.out.below' hb)
  have HP8 := Lib.hid (HP7.out.below' hb)
  have HE8 := Lib.hid (HE7.out.below hb)
  have HD8 := Lib.hid (HD7.out.below hb)
  have HB8 : Hid (Below w.heap.size w w8) := HB7.out.trans (hb.mono HB7.out.size)
  have qx := fun w => field_x ⟨2, [], 1, 2, 0⟩ A5 c5 w
  have HC : Hid (Calls Try.prog 11 #[.agg (awE.cs A1 c1).toArray, .agg (awF.cs (some ⟨rb, ro, none⟩) c2).toArray] w8 fun e w' => e = .returned (.bool false) ∧ Below w8.heap.size w8 w') := (equal_ev awE awF A1 _ c1 c2 w8 HD8.out HE8.out (by decide) (by decide)).mono fun _ _ h => h.told ⟨(fun h => nomatch h), fun h => absurd h aw_ne⟩
  clear ho hb HK7 HP7 HE7 HD7 HB7
  go_wp2_with (first | ((with_reducible show wpList _ _ _ (Oper.mk _ (Op.load _ _) _ _ _ _ :: _) _ _); refine wpl_take 25 _ rfl rfl _ 0 rfl _ HK8.out (awE.cs A1 c1) rfl _ Try.underlying25 rfl (by kernel_rfl) ?_) | ((with_reducible show wpList _ _ _ (Oper.mk _ (Op.load _ _) _ _ _ _ :: _) _ _); refine wpl_take 25 _ rfl rfl _ 0 rfl _ HP8.out (awF.cs (some ⟨rb, ro, none⟩) c2) rfl _ Try.underlying25 rfl (by kernel_rfl) ?_))
  refine HC.out.mono ?_
  rintro e w9 ⟨rfl, hb⟩
  have HK9 := Lib.hid (HK8.out.below' hb)
  have HD9 := Lib.hid (HD8.out.below hb)
  have HB9 : Hid (Below w.heap.size w w9) := HB8.out.trans (hb.mono HB8.out.size)
  have k1 : w9.cell? ⟨b1, 1, none⟩ = some (.slice A1 1 c1) := HK9.out.cell 1
  have j1 := HK9.out.inside
  have HC : Hid (Calls Try.prog 15 #[.slice A1 1 c1, .slice A1 1 c1] w9 fun e w' => e = .returned (.bool true) ∧ Below w9.heap.size w9 w') := (eqops_any [awO] [awO] A1 A1 c1 c1 w9 HD9.out HD9.out (by decide) (by decide)).mono fun _ _ h => h.told ⟨fun _ => rfl, fun _ => rfl⟩
  clear hb HK8 HP8 HE8 HD8 HB8 qx
  go_wp2_with (fail)
  refine HC.out.mono ?_
  rintro e w10 ⟨rfl, hb⟩
  have HB10 : Hid (Below w.heap.size w w10) := HB9.out.trans (hb.mono HB9.out.size)
  clear hb HC k1 j1 HK9 HD9 HB9
  go_wp2_with (fail)
  go_ret
  exact ⟨rfl, HB10.out⟩
end Go.Proofs.Ytgadheamldianaa
