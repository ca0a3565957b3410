/-
  SceneMany: more than 1024 ops are refused at once; as many as that are done.
-/
import Derived.Test.YtehmblcbccceaaaSceneManyM
import Derived.ProofKit
namespace Go.Proofs.Ytehmblcbccceaaa
open Go.RowKit pxm imm trm Go.Maps

def bj (j : Nat) : Int := (j : Int) % 256
def mrow (n : Nat) : List OpR := (List.range n).map fun j => oN (mop (bj j))
theorem mrow_len (n : Nat) : (mrow n).length = n := by simp [mrow]
theorem mrow_succ (n : Nat) : mrow (n + 1) = mrow n ++ [oN (mop (bj n))] := by simp [mrow, List.range_succ]
theorem mrow_ops (n : Nat) : (mrow n).map (·.o) = ((List.range n).map bj).map mop := by simp [mrow, oN, Function.comp_def]
theorem bj_ok (n : Nat) : ∀ v ∈ (List.range n).map bj, 0 ≤ v ∧ v ≤ 255 := fun v hv => by
  obtain ⟨j, -, rfl⟩ := List.mem_map.1 hv
  unfold bj
  omega
def manyZ : ZZ := ⟨1, ⟨1, 1⟩, fun _ => False⟩
theorem build_mop (v : Int) (w : World) : (Instr.build 40 #[(0, .int .i64 6), (7, .int .i64 v)]).run Try.prog w = .ok (.agg (oN (mop v)).cs.toArray) w := by kernel_rfl
theorem opsAt_own {w : World} {base : Nat} {U : Option Addr} {n uc : Nat} {l : List OpR} {S : Bset} (h : OOwn w base (.slice U n uc) l) (hS : ∀ k, S k → k < base) (hl : ∀ q ∈ l, q.o.lk.l = []) : OpsAt S w U l := by
  have hb := fun g => SOwn.block h (g := g)
  obtain ⟨A, c, e, -, -, hrow⟩ := SOwn.row h OpR.cs_len
  injection e with e1 _ _
  subst e1
  exact ⟨hrow, fun a e hne hk => by
    subst e
    have h1 := (hb a.block rfl).1
    have h2 := hS _ hk
    omega, fun q hq => ⟨by rw [hl q hq]; intro hn; exact absurd hn (by simp), fun _ _ hne => absurd (hl q hq) hne⟩⟩
set_option maxHeartbeats 4000000 in
set_option maxRecDepth 100000 in
theorem many_in (n : Int) (w : World) (_ : -9223372036854775808 ≤ n) (_ : n ≤ 9223372036854775807) : Calls Try.prog 3 #[.int .i64 n] w fun e w' => e = .returned (.bool true) ∧ Below w.heap.size w w' := by
  by_cases hr : n < 0 ∨ 1100 < n
  · have HAW := Lib.hid (awake_any w)
    have t0 : (decide (n < 0) = true) ∨ (decide (n < 0) = false ∧ decide (1100 < n) = true) := by
      by_cases h : n < 0
      · exact .inl (decide_eq_true h)
      · exact .inr ⟨decide_eq_false h, decide_eq_true (by omega)⟩
    clear hr
    go_enter Try.func3, Try.ntmps3
    rcases t0 with t0 | ⟨t0, t1⟩
    · go_wp2_with (fail)
      refine HAW.out.mono ?_
      rintro e w1 ⟨rfl, hb⟩
      have HB := Lib.hid hb
      clear hb
      go_wp2_with (fail)
      go_ret
      exact ⟨rfl, HB.out⟩
    · go_wp2_with (fail)
      refine HAW.out.mono ?_
      rintro e w1 ⟨rfl, hb⟩
      have HB := Lib.hid hb
      clear hb
      go_wp2_with (fail)
      go_ret
      exact ⟨rfl, HB.out⟩
  obtain ⟨N, rfl⟩ : ∃ N : Nat, n = (N : Int) := ⟨n.toNat, by omega⟩
  have hN : N ≤ 1100 := by omega
  have HN := Lib.hid hN
  have t0 : decide ((N : Int) < 0) = false := decide_eq_false (by omega)
  have t1 : decide ((1100 : Int) < (N : Int)) = false := decide_eq_false (by omega)
  have hnb : (N : Int) ≤ 1100 := by omega
  clear hr hN
  go_enter Try.func3, Try.ntmps3
  go_wp2_with (fail)
  refine (new_ok (w := w) manyZ (fun _ e => e.elim) ⟨by decide, by decide⟩ ⟨by decide, by decide⟩ ⟨by decide, by decide⟩).mono ?_
  rintro e w1 ⟨g, b, m, s, rfl, hs1, hb1, hf1, hg1⟩
  have HM1 : Hid (MyS w g b m s manyZ PSc.new w1) := ⟨hs1, hf1, hb1⟩
  clear hs1 hb1 hf1 hg1 t0 t1
  go_wp2_with (fail)
  go_loopw [29, 5] (fun x29 x5 wr => ∃ (j : Nat) (U : Option Addr) (uc : Nat), j ≤ N ∧ x29 = .int .i64 j ∧ x5 = .slice U j uc ∧ Hid (OOwn wr w1.heap.size (.slice U j uc) (mrow j)) ∧ Hid (Below w1.heap.size w1 wr)) (fun x29 _ _ => N - (intOf x29).toNat)
  case atStart => exact ⟨0, none, 0, Nat.zero_le _, rfl, rfl, SOwn.nil _ _, Below.refl _ _⟩
  case round =>
    obtain ⟨j, U, uc, hj, rfl, rfl, HU, HB⟩ := hrel
    generalize wr = wA at *
    by_cases hlt : j < N
    · have t2 : decide ((j : Int) < (N : Int)) = true := decide_eq_true (by omega)
      have t3 : decide (j < N) = true := decide_eq_true hlt
      have hand : bits .and .i64 (j : Int) 255 = bj j := i64_and255 j
      have HLT := Lib.hid hlt
      obtain ⟨v6, w6, hrun, hu6, hg6, hn6⟩ := app_op HU.out HB.out.size (oN (mop (bj j))) (c := 1) (by rw [mrow_len]; omega)
      have HB6 : Hid (Below w1.heap.size w1 w6) := (HB.out.alloc HB.out.size _).grown hg6 (by have := HB.out.size; simp; omega) fun k hk => (SOwn.block HU.out hk).1
      rw [← mrow_succ] at hu6
      obtain ⟨U6, uc6, rfl, -, -, -⟩ := SOwn.row hu6 OpR.cs_len
      rw [mrow_len] at hu6 hrun
      have HU6 := Lib.hid hu6
      clear hu6 hg6 hn6 HU HB hlt
      go_wp2_with (first | (with_reducible show wpList _ _ _ (Oper.mk _ (Op.build _ _) _ _ _ _ :: _) _ _; refine wpl_build _ _ rfl rfl (by simp [go_sem]) (build_mop (bj j) _) ?_) | (with_reducible show wpList _ _ _ (Oper.mk _ (Op.buildSlice _ _ _) _ _ _ _ :: _) _ _; refine wpl_bs _ _ _ rfl rfl (by simp [go_sem]) (bs_op1 (oN (mop (bj j))) _) ?_) | (at_builtin; refine wpl_append rfl _ _ tOps tOps tOps rfl rfl _ _ _ _ rfl rfl hrun ?_; clear hrun))
      go_roundw
      case rel => exact ⟨j + 1, U6, uc6, HLT.out, by go_num, rfl, HU6, HB6⟩
      case measure => have := HLT.out; simp [intOf]; omega
    · obtain rfl : j = N := by omega
      have t2 : decide ((j : Int) < (j : Int)) = false := by simp
      have t3 : decide (j < j) = false := by simp
      have HMA := Lib.hid (HM1.out.below HB.out)
      have HOA : Hid (OpsAt (SFoot b m s PSc.new.t) wA U (mrow j)) := opsAt_own HU.out HM1.out.at_.inside fun q hq => by
        obtain ⟨k, -, rfl⟩ := List.mem_map.1 hq
        rfl
      have HAP := Lib.hid (applied HMA.out.at_ PSc.new_sane (mrow j) U uc HOA.out (fun q hq => by obtain ⟨k, -, rfl⟩ := List.mem_map.1 hq; exact mop_ok _) (fun h => ⟨by rw [mrow_len] at h ⊢; exact h, .inr ⟨by decide, by decide⟩⟩) (by rw [mrow_len]; have := HN.out; omega))
      rw [mrow_ops, mrow_len] at HAP
      unfold ApplyQ at HAP
      obtain ⟨y, at_, er, hy, hyt, hyo⟩ : ∃ (y : PSc) (at_ er : Int), applyS manyZ.2.2 setSt PSc.new (((List.range j).map bj).map mop) = (y, at_, er) ∧ y.t = [] ∧ (if 1024 < j then er = 12 ∧ at_ = 0 ∧ (y.nd 0).op = 255 else er = 0 ∧ at_ = (j : Int) ∧ (y.nd 0).op = if j = 0 then 255 else bj (j - 1)) := by
        by_cases hm : 1024 < j
        · refine ⟨_, _, _, mop_many (by simpa using hm), rfl, ?_⟩
          rw [if_pos hm]
          exact ⟨rfl, rfl, rfl⟩
        · obtain ⟨y, h1, h2, h3⟩ := mop_apply (bj_ok j) (by simp; omega)
          refine ⟨y, _, _, h1, h2, ?_⟩
          rw [if_neg hm]
          refine ⟨rfl, by simp, ?_⟩
          rw [h3]
          cases j with
          | zero => rfl
          | succ k => rw [List.range_succ, List.map_append, if_neg (by omega)]; simp
      have HSN : Hid (Sane y) := by
        have := PSc.new_sane.apply (M := manyZ.2.2) (l := ((List.range j).map bj).map mop) fun o ho => by obtain ⟨v, -, rfl⟩ := List.mem_map.1 ho; exact mop_ok v
        rw [hy] at this
        exact this
      rw [hy] at HAP
      have HYO := Lib.hid hyo
      have HYT := Lib.hid hyt
      clear hlt hy hyo hyt HOA HU HB
      go_wp2_with (fail)
      refine HAP.out.mono ?_
      rintro e w3 ⟨s3, rfl, hs3, ht3⟩
      have HM3 := Lib.hid (HMA.out.turn hs3 ht3)
      clear hs3 ht3 HAP HMA HM1
      dsimp only at HM3 ⊢
      go_wp2_with (fail)
      refine (node_any HM3.out.at_ HSN.out.fit 0 ⟨by decide, by decide⟩).mono ?_
      obtain ⟨n0, hn0⟩ : ∃ n0, ndAt y 0 = n0 := ⟨_, rfl⟩
      have HN0 : Hid ((y.nd 0).op = n0.op) := by rw [← hn0]; unfold ndAt; rw [HYT.out]; rfl
      rw [hn0]
      rintro e w4 ⟨A4, c4, rfl, hb4, -, -⟩
      have HM4 := Lib.hid (HM3.out.below hb4)
      clear hb4 hn0 HM3
      have HZ4 : Hid (Blk (w4.alloc (.cells #[.int .i64 0, .int .i64 0, .int .i64 0, .int .i64 0, .int .i64 0, .int .i64 0, .int .i64 0, .bool false, .bool false, .int .i64 0, .int .i64 0, .int .i64 0, .int .i64 0, .int .i64 0, .int .i64 0, .int .i64 0, .int .u32 0, .int .i64 0, .int .i64 0, .slice none 0 0] 44)) w4.heap.size [.int .i64 0, .int .i64 0, .int .i64 0, .int .i64 0, .int .i64 0, .int .i64 0, .int .i64 0, .bool false, .bool false, .int .i64 0, .int .i64 0, .int .i64 0, .int .i64 0, .int .i64 0, .int .i64 0, .int .i64 0, .int .u32 0, .int .i64 0, .int .i64 0, .slice none 0 0]) := blk_new w4 [.int .i64 0, .int .i64 0, .int .i64 0, .int .i64 0, .int .i64 0, .int .i64 0, .int .i64 0, .bool false, .bool false, .int .i64 0, .int .i64 0, .int .i64 0, .int .i64 0, .int .i64 0, .int .i64 0, .int .i64 0, .int .u32 0, .int .i64 0, .int .i64 0, .slice none 0 0] _
      have HB4 : Hid (Below w4.heap.size w4 (w4.alloc (.cells #[.int .i64 0, .int .i64 0, .int .i64 0, .int .i64 0, .int .i64 0, .int .i64 0, .int .i64 0, .bool false, .bool false, .int .i64 0, .int .i64 0, .int .i64 0, .int .i64 0, .int .i64 0, .int .i64 0, .int .i64 0, .int .u32 0, .int .i64 0, .int .i64 0, .slice none 0 0] 44))) := (Below.refl _ _).alloc (Nat.le_refl _) _
      go_upto_region 14 with (first | (with_reducible show wpList _ _ _ (Oper.mk _ (Op.store _ _ _) _ _ _ _ :: _) _ _; first | (refine wpl_stow 44 _ _ rfl rfl rfl _ 0 rfl (n0.cs A4 c4) rfl ([.int .i64 0, .int .i64 0, .int .i64 0, .int .i64 0, .int .i64 0, .int .i64 0, .int .i64 0, .bool false, .bool false, .int .i64 0, .int .i64 0, .int .i64 0, .int .i64 0, .int .i64 0, .int .i64 0, .int .i64 0, .int .u32 0, .int .i64 0, .int .i64 0, .slice none 0 0]) HZ4.out (n0.cs A4 c4) rfl (Nat.le_of_ble_eq_true rfl) (by kernel_rfl) (Nd.one _ _ _) ?_; intro w5 HW5 HK5)))
      have HM5 := Lib.hid (HM4.out.below (HW5.out.below HB4.out (Nat.le_refl _)))
      have c1 : w5.cell? ⟨w4.heap.size, 6, none⟩ = some (.int .i64 n0.op) := HK5.out.cell 6
      have i1 := HK5.out.inside
      have HAW := Lib.hid (awake_any w5)
      clear HZ4 HB4 HW5 HK5 HM4
      have hYO := HYO.out
      rw [HN0.out] at hYO
      generalize w4.heap.size = k5 at *
      by_cases hm : 1024 < j
      · rw [if_pos hm] at hYO
        obtain ⟨rfl, rfl, h9⟩ := hYO
        rw [h9] at c1
        have t5 : decide ((1024 : Int) < (j : Int)) = true := decide_eq_true (by omega)
        clear hm h9 HYO HN0
        go_wp2_with (fail)
        refine HAW.out.mono ?_
        rintro e w6 ⟨rfl, hb6⟩
        have HB6 := Lib.hid (HM5.out.bel.trans (hb6.mono HM5.out.bel.size))
        clear hb6 HAW
        go_wp2_with (fail)
        go_ret
        exact ⟨rfl, HB6.out⟩
      · rw [if_neg hm] at hYO
        obtain ⟨rfl, rfl, h9⟩ := hYO
        have t5 : decide ((1024 : Int) < (j : Int)) = false := decide_eq_false (by omega)
        by_cases h0 : j = 0
        · subst h0
          clear hm h9 HYO HN0
          go_wp2_with (fail)
          refine HAW.out.mono ?_
          rintro e w6 ⟨rfl, hb6⟩
          have HB6 := Lib.hid (HM5.out.bel.trans (hb6.mono HM5.out.bel.size))
          clear hb6 HAW
          go_wp2_with (fail)
          go_ret
          exact ⟨rfl, HB6.out⟩
        · rw [if_neg h0] at h9
          have hand : bits .and .i64 ((j : Int) - 1) 255 = n0.op := by rw [i64_and255, h9]; unfold bj; omega
          have t6 : ((j : Int) == 0) = false := by simpa using h0
          have t7 : (((j : Nat) : Int) == ((j : Nat) : Int)) = true := by simp
          clear hm h9 HYO HN0 h0
          go_wp2_with (fail)
          refine HAW.out.mono ?_
          rintro e w6 ⟨rfl, hb6⟩
          have HB6 := Lib.hid (HM5.out.bel.trans (hb6.mono HM5.out.bel.size))
          clear hb6 HAW
          go_wp2_with (fail)
          go_ret
          exact ⟨rfl, HB6.out⟩
end Go.Proofs.Ytehmblcbccceaaa
