/-
  Layer 12: TreeWithin.
-/
import Derived.Test.YtjnccggfbjkecaaTtE
namespace Go.Proofs.Ytjnccggfbjkecaa
open Go.RowKit trm

theorem par_missing {t : T} {i : Int} (h : i ∉ ids t) : par t i = -1 := by
  unfold par
  have : t.find? (fun r => decide (r.1 = i)) = none := by
    rw [List.find?_eq_none]
    intro r hr e
    simp only [decide_eq_true_eq] at e
    exact h (e ▸ List.mem_map_of_mem hr)
  rw [this]
  rfl
def sayR2 (x y : Int) : regs.Say regs.bl := ⟨fun u w => ∃ g, u = .slice (some ⟨g, 0, none⟩) 2 2 ∧ Row eI w (some ⟨g, 0, none⟩) [x, y], fun x w w' h hb => by
  obtain ⟨g, eu, hr⟩ := h
  exact ⟨g, eu, Row.below hr hb⟩⟩
set_option maxRecDepth 100000 in
set_option maxHeartbeats 4000000 in
theorem within_in (A : Option Addr) (l : List O4) (c : Nat) (a z : Int) (w : World) (hr : OpRow w A l) (ho : ∀ o ∈ l, o.ok) (hm : l.length ≤ 9223372036854775807) (ha1 : -9223372036854775808 ≤ a) (ha2 : a ≤ 9223372036854775807) (hz1 : -9223372036854775808 ≤ z) (hz2 : z ≤ 9223372036854775807) :
    Calls Try.prog 4 #[.slice A l.length c, .int .i64 a, .int .i64 z] w fun e w' => e = .returned (.bool true) ∧ Below w.heap.size w w' := by
  by_cases h60 : 60 < l.length
  · have t0 : decide ((60 : Int) < (l.length : Int)) = true := decide_eq_true (by omega)
    clear hr ho h60 ha1 ha2 hz1 hz2
    go_enter Try.func4, Try.ntmps4
    go_wp2_with (fail)
    refine (awake_any w).mono ?_
    rintro e w1 ⟨rfl, hb⟩
    have HB := Lib.hid hb
    clear hb
    go_wp2_with (fail)
    go_ret
    exact ⟨rfl, HB.out⟩
  have t0 : decide ((60 : Int) < (l.length : Int)) = false := decide_eq_false (by omega)
  have HL : Hid (l.length ≤ 60) := Nat.le_of_not_lt h60
  have HR := Lib.hid hr
  have HO := Lib.hid ho
  have HA : Hid (I64 a ∧ I64 z) := ⟨⟨ha1, ha2⟩, ⟨hz1, hz2⟩⟩
  clear hr ho h60 ha1 ha2 hz1 hz2
  go_enter Try.func4, Try.ntmps4
  go_wp2_with (fail)
  refine (tnew w).mono ?_
  rintro e w1 ⟨b, s, rfl, hT, hb, hf⟩
  have HM := Lib.hid (MyPlay.made hb hT hf)
  clear hT hb hf
  go_wp2_with (fail)
  generalize w1.alloc (.cells #[.pointer (some ⟨b, 0, none⟩), .slice none 0 0] tPlay) = w2 at *
  generalize w1.heap.size = g at *
  go_loopw [29] (fun x wr => ∃ k : Nat, k ≤ l.length ∧ x = .int .i64 k ∧ Hid (MyPlay w g b (runT [] (l.take k)) wr)) (fun x _ => l.length - (intOf x).toNat)
  case atStart => exact ⟨0, Nat.zero_le _, rfl, HM.out⟩
  case round =>
    obtain ⟨k, hk, rfl, HK⟩ := hrel
    by_cases hlt : k < l.length
    · have t1 : decide (k < l.length) = true := by simpa using hlt
      have HLT := Lib.hid hlt
      have hkb : (k : Int) ≤ 10000 := by have := HL.out; omega
      obtain ⟨b1, o1, rA, k1⟩ := HR.out.in_ hlt
      subst rA
      obtain ⟨c1, c2, c3, c4⟩ := k1 _ HK.out.bel
      have HOK := Lib.hid (HO.out _ (List.getElem_mem hlt))
      have HS := Lib.hid (runT_snoc [] hlt)
      have HN : Hid ((runT [] (l.take k)).length ≤ 1000) := by
        have h1 := (runT_ok ok_nil (l.take k)).2
        rw [List.length_take, List.length_nil] at h1
        have := HL.out
        show _ ≤ _
        omega
      clear k1
      generalize l[k] = o at *
      generalize runT [] (l.take k) = T0 at *
      obtain ⟨T1, hT1⟩ : ∃ x, runT [] (l.take (k + 1)) = x := ⟨_, rfl⟩
      have HT1 := Lib.hid hT1
      rw [hT1] at HS
      clear hT1
      obtain ⟨ok, oi, op, on⟩ := o
      simp only at c1 c2 c3 c4
      go_wp2_with (fail)
      have hb1 : Below wr.heap.size wr (wr.alloc (.cells #[.int .i64 ok, .int .i64 oi, .int .i64 op, .int .i64 on] tOp)) := (Below.refl _ _).alloc (Nat.le_refl _) _
      refine ((HK.out.below hb1).step HN.out ⟨ok, oi, op, on⟩ HOK.out).mono ?_
      rintro e w3 ⟨rfl, hm3⟩
      rw [← HS.out] at hm3
      have HM3 := Lib.hid hm3
      clear hm3 hb1 c1 c2 c3 c4 HK
      go_wp2_with (fail)
      go_roundw
      case rel => exact ⟨k + 1, HLT.out, by go_num, by rw [HT1.out]; exact HM3⟩
      case measure => have := HLT.out; simp [intOf]; omega
    · obtain rfl : k = l.length := by omega
      have t1 : decide (l.length < l.length) = false := by simp
      generalize wr = wA at *
      have HT0 : Hid ((runT [] (l.take l.length)).length ≤ 60 ∧ Ok (runT [] (l.take l.length))) := by
        have h1 := runT_ok ok_nil (l.take l.length)
        refine ⟨Nat.le_trans h1.2 ?_, h1.1⟩
        rw [List.length_take, List.length_nil]
        have := HL.out
        omega
      generalize runT [] (l.take l.length) = t at *
      obtain ⟨s0, v0, hp, -⟩ := HK.out.ex
      have HP := Lib.hid hp
      have HBK := Lib.hid HK.out.bel
      obtain ⟨A0, c0, rfl, hdr, -⟩ := hp.doc
      have HD : Hid (∀ W, Below wA.heap.size wA W → RRow W A0 t) := fun W hb => SRow.below hdr hb
      have HTT : Hid (∀ W, Below wA.heap.size wA W → TreeAt W b s0 t) := fun W hb => hp.tree.below hb
      have HPC : Hid (∀ W, Below wA.heap.size wA W → W.cell? ⟨g, 0, none⟩ = some (.pointer (some ⟨b, 0, none⟩)) ∧ W.cell? ⟨g, 1, none⟩ = some (.slice A0 t.length c0) ∧ g < W.heap.size) := fun W hb =>
        have := (hp.below hb).blk
        ⟨this.blk.cell 0, this.blk.cell 1, this.inside⟩
      obtain ⟨q0, q1, qi⟩ := HPC.out wA (Below.refl _ _)
      have HW := Lib.hid (dwalk A0 t c0 HT0.out.2 (by have := HT0.out.1; omega) (t.length + 1) 0 wA hdr (.inl rfl) (by omega))
      unfold KidsQ at HW
      have HWL : Hid ((trm.walk t 0).length ≤ 61) := by show _ ≤ _; rw [walk_len HT0.out.2]; have := HT0.out.1; omega
      have HWI : Hid (∀ x ∈ trm.walk t 0 ++ [a, z], I64 x) := fun x hx => by
        rcases List.mem_append.1 hx with hx | hx
        · exact has_i64 HT0.out.2 ((walk_all HT0.out.2).1 hx)
        · simp only [List.mem_cons, List.not_mem_nil, or_false] at hx
          rcases hx with rfl | rfl
          · exact HA.out.1
          · exact HA.out.2
      clear hdr hp HK HM
      generalize trm.walk t 0 = W0 at *
      go_wp2_with (fail)
      refine HW.out.mono ?_
      rintro e w3 ⟨v3, rfl, ho3, hb3⟩
      obtain ⟨A3, c3, rfl, -, -, -⟩ := IOwn.irow ho3
      have hal : Below w3.heap.size w3 (w3.alloc (.cells #[.int .i64 a, .int .i64 z] 3)) := (Below.refl _ _).alloc (Nat.le_refl _) _
      obtain ⟨v', w4, hrun, own4, hgr, -⟩ := app_int (c := 2) (SOwn.below ho3 hal) (row_new' (enc := eI) w3 [a, z] 3 rfl) (by have := HWL.out; simp; omega) (Nat.le_trans hb3.size hal.size)
      have hb4 : Below wA.heap.size wA w4 := (hb3.trans (hal.mono hb3.size)).grown hgr (Nat.le_trans hb3.size hal.size) (fun j hj => (SOwn.block ho3 hj).1)
      have HLL : Hid ((W0 ++ [a, z]).length ≤ 63) := by show _ ≤ _; rw [List.length_append]; have := HWL.out; simp; omega
      generalize W0 ++ [a, z] = LL at *
      obtain ⟨A4, c4, rfl, -, -, hr4⟩ := IOwn.irow own4
      have HB4 := Lib.hid hb4
      have HR4 := Lib.hid hr4
      clear ho3 hb3 hal own4 hgr hb4 hr4 q0 q1 qi HW
      go_wp2_with (at_builtin; refine wpl_append rfl _ _ 35 35 35 rfl rfl _ _ _ _ rfl rfl hrun ?_; clear hrun)
      go_loopw [49] (fun x wr => ∃ k2 : Nat, k2 ≤ LL.length ∧ x = .int .i64 k2 ∧ Hid (Below w4.heap.size w4 wr)) (fun x _ => LL.length - (intOf x).toNat)
      case atStart => exact ⟨0, Nat.zero_le _, rfl, Below.refl _ _⟩
      case round =>
        obtain ⟨k2, hk2, rfl, HB5⟩ := hrel
        generalize wr = wB at *
        by_cases hlt2 : k2 < LL.length
        · have t1 : decide (k2 < LL.length) = true := by simpa using hlt2
          have HLT2 := Lib.hid hlt2
          have hkb : (k2 : Int) ≤ 10000 := by have := HLL.out; omega
          obtain ⟨b4, o4, rA, k1'⟩ := HR4.out.in_ hlt2
          subst rA
          have k1 := k1' _ HB5.out
          unfold eI at k1
          have HX := Lib.hid (HWI.out _ (List.getElem_mem hlt2))
          clear k1'
          generalize LL[k2] = x at *
          go_wp2_with (fail)
          clear k1
          go_loopw [55] (fun y wr => ∃ k3 : Nat, k3 ≤ LL.length ∧ y = .int .i64 k3 ∧ Hid (Below w4.heap.size w4 wr)) (fun y _ => LL.length - (intOf y).toNat)
          case atStart => exact ⟨0, Nat.zero_le _, rfl, HB5.out⟩
          case round =>
            obtain ⟨k3, hk3, rfl, HB6⟩ := hrel
            by_cases hlt3 : k3 < LL.length
            · have t1 : decide (k3 < LL.length) = true := by simpa using hlt3
              have HLT3 := Lib.hid hlt3
              have hkb3 : (k3 : Int) ≤ 10000 := by have := HLL.out; omega
              obtain ⟨b5, o5, rA, k1'⟩ := HR4.out.in_ hlt3
              cases rA
              have k1 := k1' _ HB6.out
              unfold eI at k1
              have HY := Lib.hid (HWI.out _ (List.getElem_mem hlt3))
              clear k1'
              generalize LL[k3] = y at *
              go_wp2_with (fail)
              clear k1
              have HWw : Hid (∀ W, regs.bl wr W → Below wA.heap.size wA W) := fun W hb => HB4.out.trans ((HB6.out.trans (Below.mono hb HB6.out.size)).mono HB4.out.size)
              have FC : Hid (∀ W, regs.bl wr W → W.cell? ⟨g, 0, none⟩ = some (.pointer (some ⟨b, 0, none⟩)) ∧ W.cell? ⟨g, 1, none⟩ = some (.slice A0 t.length c0) ∧ g < W.heap.size) := fun W hb => HPC.out W (HWw.out W hb)
              have HC1 : Hid (∀ W, regs.bl wr W → Calls Try.prog 13 #[.pointer (some ⟨b, 0, none⟩), .int .i64 x, .int .i64 y] W fun e w' => e = .returned (.bool (within t x y)) ∧ Below W.heap.size W w') := fun W hb => twithin (HTT.out W (HWw.out W hb)) x y HX.out HY.out
              have HC2 : Hid (∀ W, regs.bl wr W → Calls Try.prog 14 #[.slice A0 t.length c0, .int .i64 x, .int .i64 y] W fun e w' => e = .returned (.bool (within t x y)) ∧ Below W.heap.size W w') := fun W hb => dwithin A0 t c0 HT0.out.2 (by have := HT0.out.1; omega) y (depth t x) x W (HD.out W (HWw.out W hb)) (Nat.le_refl _)
              have HC3 : Hid (∀ W g9, regs.bl wr W → Row eI W (some ⟨g9, 0, none⟩) [x, y] → Calls Try.prog 15 #[.pointer (some ⟨b, 0, none⟩), .slice (some ⟨g9, 0, none⟩) 2 2] W fun e w' => e = .returned (.bool (has t x && has t y)) ∧ Below W.heap.size W w') := fun W g9 hb hr => by
                have h := thas (HTT.out W (HWw.out W hb)) (some ⟨g9, 0, none⟩) [x, y] 2 hr (fun q hq => by
                  simp only [List.mem_cons, List.not_mem_nil, or_false] at hq
                  rcases hq with rfl | rfl
                  · exact HX.out
                  · exact HY.out) (by simp)
                rw [show [x, y].all (has t) = (has t x && has t y) by simp] at h
                exact h
              have HC4 : Hid (∀ W, regs.bl wr W → Calls Try.prog 16 #[.slice A0 t.length c0, .int .i64 x] W fun e w' => e = .returned (.bool (has t x)) ∧ Below W.heap.size W w') := fun W hb => dhas A0 t c0 x W (HD.out W (HWw.out W hb)) (by have := HT0.out.1; omega)
              have HC5 : Hid (∀ W, regs.bl wr W → Calls Try.prog 16 #[.slice A0 t.length c0, .int .i64 y] W fun e w' => e = .returned (.bool (has t y)) ∧ Below W.heap.size W w') := fun W hb => dhas A0 t c0 y W (HD.out W (HWw.out W hb)) (by have := HT0.out.1; omega)
              clear HWw HX HY
              generalize within t x y = WB at *
              generalize has t y = yb at *
              obtain ⟨xb, hxb⟩ : ∃ q, has t x = q := ⟨_, rfl⟩
              rw [hxb] at HC3 HC4
              clear hxb
              cases xb with
              | true =>
                rw [Bool.true_and] at HC3
                refine regs.wp_region_put (regs.bl) (regs.noJ) [59, 60, 61, 62, 63, 64, 65, 66, 67, 68, 69, 70, 71, 72, 73, 74, 75, 76, 77, 78, 79, 80, 81, 82, 83, 84, 85, 86, 87, 88, 89, 90, 91, 92, 93, 94, 95, 96, 97, 98] (by kernel_rfl) (by kernel_rfl) (fun _ => regs.bl_refl _) (regs.bl_trans) (fun i => (match i with
                  | 0 => regs.Say.val _ (.pointer (some ⟨g, 0, none⟩))
                  | 1 => regs.Say.val _ (.pointer (some ⟨g, 0, none⟩))
                  | 2 => regs.Say.val _ (.pointer (some ⟨g, 0, none⟩))
                  | 3 => regs.Say.val _ (.pointer (some ⟨b, 0, none⟩))
                  | 4 => regs.Say.val _ (.int .i64 x)
                  | 5 => regs.Say.val _ (.int .i64 y)
                  | 6 => regs.Say.val _ (.bool WB)
                  | 7 => regs.Say.val _ (.pointer (some ⟨g, 0, none⟩))
                  | 8 => regs.Say.val _ (.pointer (some ⟨g, 0, none⟩))
                  | 9 => regs.Say.val _ (.pointer (some ⟨g, 1, none⟩))
                  | 10 => regs.Say.val _ (.slice A0 t.length c0)
                  | 11 => regs.Say.val _ (.int .i64 x)
                  | 12 => regs.Say.val _ (.int .i64 y)
                  | 13 => regs.Say.val _ (.bool WB)
                  | 14 => regs.Say.val _ (.bool false)
                  | 15 => regs.Say.val _ (.bool false)
                  | 16 => regs.Say.val _ (.pointer (some ⟨g, 0, none⟩))
                  | 17 => regs.Say.val _ (.pointer (some ⟨g, 0, none⟩))
                  | 18 => regs.Say.val _ (.pointer (some ⟨g, 0, none⟩))
                  | 19 => regs.Say.val _ (.pointer (some ⟨b, 0, none⟩))
                  | 20 => regs.Say.val _ (.int .i64 x)
                  | 21 => regs.Say.val _ (.int .i64 y)
                  | 22 => sayR2 x y
                  | 23 => regs.Say.val _ (.bool yb)
                  | 24 => regs.Say.val _ (.pointer (some ⟨g, 0, none⟩))
                  | 25 => regs.Say.val _ (.pointer (some ⟨g, 0, none⟩))
                  | 26 => regs.Say.val _ (.pointer (some ⟨g, 1, none⟩))
                  | 27 => regs.Say.val _ (.slice A0 t.length c0)
                  | 28 => regs.Say.val _ (.int .i64 x)
                  | 29 => regs.Say.val _ (.bool true)
                  | 30 => regs.Say.val _ (.bool true)
                  | 31 => regs.Say.val _ (.pointer (some ⟨g, 0, none⟩))
                  | 32 => regs.Say.val _ (.pointer (some ⟨g, 0, none⟩))
                  | 33 => regs.Say.val _ (.pointer (some ⟨g, 1, none⟩))
                  | 34 => regs.Say.val _ (.slice A0 t.length c0)
                  | 35 => regs.Say.val _ (.int .i64 y)
                  | 36 => regs.Say.val _ (.bool yb)
                  | 37 => regs.Say.val _ (.bool yb)
                  | 38 => regs.Say.val _ (.bool false)
                  | 39 => regs.Say.val _ (.bool false)
                  | _ => regs.Say.any _ : regs.Say (regs.bl)).p) (fun _ => regs.Say.mono _) (by kernel_rfl) ((Below.refl _ _).drew) (regs.noJ_ok _ _) ⟨?_, ?_, ?_, ?_, ?_, ?_, ?_, ?_, ?_, ?_, ?_, ?_, ?_, ?_, ?_, ?_, ?_, ?_, ?_, ?_, ?_, ?_, ?_, ?_, ?_, ?_, ?_, ?_, ?_, ?_, ?_, ?_, ?_, ?_, ?_, ?_, ?_, ?_, ?_, ?_, trivial⟩ ?_
                · refine regs.StepOK.plain rfl fun L a w1 hh => ?_
                  have h7 : a.tmps[7]?.getD undef = .pointer (some ⟨g, 0, none⟩) := by rw [← Array.getD_eq_getD_getElem?]; exact hh.old 7 rfl
                  have hJ := Lib.hid hh.st
                  clear hh
                  go_simp
                  exact ⟨_, rfl, regs.bl_refl _, rfl, hJ.out⟩
                · refine regs.StepOK.plain rfl fun L a w1 hh => ?_
                  have h59 : a.tmps[59]?.getD undef = .pointer (some ⟨g, 0, none⟩) := by rw [← Array.getD_eq_getD_getElem?]; exact hh.dep 0 59 (by kernel_rfl) (by kernel_rfl)
                  obtain ⟨p0, p1, pi⟩ := FC.out _ hh.rel
                  have hJ := Lib.hid hh.st
                  clear hh
                  go_simp
                  exact ⟨_, rfl, regs.bl_refl _, rfl, hJ.out⟩
                · refine regs.StepOK.plain rfl fun L a w1 hh => ?_
                  have h60 : a.tmps[60]?.getD undef = .pointer (some ⟨g, 0, none⟩) := by rw [← Array.getD_eq_getD_getElem?]; exact hh.dep 1 60 (by kernel_rfl) (by kernel_rfl)
                  obtain ⟨p0, p1, pi⟩ := FC.out _ hh.rel
                  have hJ := Lib.hid hh.st
                  clear hh
                  go_simp
                  exact ⟨_, rfl, regs.bl_refl _, rfl, hJ.out⟩
                · refine regs.StepOK.plain rfl fun L a w1 hh => ?_
                  have h61 : a.tmps[61]?.getD undef = .pointer (some ⟨g, 0, none⟩) := by rw [← Array.getD_eq_getD_getElem?]; exact hh.dep 2 61 (by kernel_rfl) (by kernel_rfl)
                  obtain ⟨p0, p1, pi⟩ := FC.out _ hh.rel
                  have hJ := Lib.hid hh.st
                  clear hh
                  go_simp
                  exact ⟨_, rfl, regs.bl_refl _, rfl, hJ.out⟩
                · refine regs.StepOK.plain rfl fun L a w1 hh => ?_
                  have h12 : a.tmps[12]?.getD undef = .int .i64 x := by rw [← Array.getD_eq_getD_getElem?]; exact hh.old 12 rfl
                  have hJ := Lib.hid hh.st
                  clear hh
                  go_simp
                  exact ⟨_, rfl, regs.bl_refl _, rfl, hJ.out⟩
                · refine regs.StepOK.plain rfl fun L a w1 hh => ?_
                  have h14 : a.tmps[14]?.getD undef = .int .i64 y := by rw [← Array.getD_eq_getD_getElem?]; exact hh.old 14 rfl
                  have hJ := Lib.hid hh.st
                  clear hh
                  go_simp
                  exact ⟨_, rfl, regs.bl_refl _, rfl, hJ.out⟩
                · refine regs.StepOK.plain rfl fun L a w1 hh => ?_
                  have h62 : a.tmps[62]?.getD undef = .pointer (some ⟨b, 0, none⟩) := by rw [← Array.getD_eq_getD_getElem?]; exact hh.dep 3 62 (by kernel_rfl) (by kernel_rfl)
                  have h63 : a.tmps[63]?.getD undef = .int .i64 x := by rw [← Array.getD_eq_getD_getElem?]; exact hh.dep 4 63 (by kernel_rfl) (by kernel_rfl)
                  have h64 : a.tmps[64]?.getD undef = .int .i64 y := by rw [← Array.getD_eq_getD_getElem?]; exact hh.dep 5 64 (by kernel_rfl) (by kernel_rfl)
                  have hC := Lib.hid (HC1.out _ hh.rel)
                  have hJ := Lib.hid hh.st
                  clear hh
                  go_simp
                  refine hC.out.mono ?_
                  rintro e w9 ⟨rfl, hb9⟩
                  exact ⟨_, rfl, hb9, rfl, hJ.out⟩
                · refine regs.StepOK.plain rfl fun L a w1 hh => ?_
                  have h7 : a.tmps[7]?.getD undef = .pointer (some ⟨g, 0, none⟩) := by rw [← Array.getD_eq_getD_getElem?]; exact hh.old 7 rfl
                  have hJ := Lib.hid hh.st
                  clear hh
                  go_simp
                  exact ⟨_, rfl, regs.bl_refl _, rfl, hJ.out⟩
                · refine regs.StepOK.plain rfl fun L a w1 hh => ?_
                  have h66 : a.tmps[66]?.getD undef = .pointer (some ⟨g, 0, none⟩) := by rw [← Array.getD_eq_getD_getElem?]; exact hh.dep 7 66 (by kernel_rfl) (by kernel_rfl)
                  obtain ⟨p0, p1, pi⟩ := FC.out _ hh.rel
                  have hJ := Lib.hid hh.st
                  clear hh
                  go_simp
                  exact ⟨_, rfl, regs.bl_refl _, rfl, hJ.out⟩
                · refine regs.StepOK.plain rfl fun L a w1 hh => ?_
                  have h67 : a.tmps[67]?.getD undef = .pointer (some ⟨g, 0, none⟩) := by rw [← Array.getD_eq_getD_getElem?]; exact hh.dep 8 67 (by kernel_rfl) (by kernel_rfl)
                  obtain ⟨p0, p1, pi⟩ := FC.out _ hh.rel
                  have hJ := Lib.hid hh.st
                  clear hh
                  go_simp
                  exact ⟨_, rfl, regs.bl_refl _, rfl, hJ.out⟩
                · refine regs.StepOK.plain rfl fun L a w1 hh => ?_
                  have h68 : a.tmps[68]?.getD undef = .pointer (some ⟨g, 1, none⟩) := by rw [← Array.getD_eq_getD_getElem?]; exact hh.dep 9 68 (by kernel_rfl) (by kernel_rfl)
                  obtain ⟨p0, p1, pi⟩ := FC.out _ hh.rel
                  have hJ := Lib.hid hh.st
                  clear hh
                  go_simp
                  exact ⟨_, rfl, regs.bl_refl _, rfl, hJ.out⟩
                · refine regs.StepOK.plain rfl fun L a w1 hh => ?_
                  have h12 : a.tmps[12]?.getD undef = .int .i64 x := by rw [← Array.getD_eq_getD_getElem?]; exact hh.old 12 rfl
                  have hJ := Lib.hid hh.st
                  clear hh
                  go_simp
                  exact ⟨_, rfl, regs.bl_refl _, rfl, hJ.out⟩
                · refine regs.StepOK.plain rfl fun L a w1 hh => ?_
                  have h14 : a.tmps[14]?.getD undef = .int .i64 y := by rw [← Array.getD_eq_getD_getElem?]; exact hh.old 14 rfl
                  have hJ := Lib.hid hh.st
                  clear hh
                  go_simp
                  exact ⟨_, rfl, regs.bl_refl _, rfl, hJ.out⟩
                · refine regs.StepOK.plain rfl fun L a w1 hh => ?_
                  have h69 : a.tmps[69]?.getD undef = .slice A0 t.length c0 := by rw [← Array.getD_eq_getD_getElem?]; exact hh.dep 10 69 (by kernel_rfl) (by kernel_rfl)
                  have h70 : a.tmps[70]?.getD undef = .int .i64 x := by rw [← Array.getD_eq_getD_getElem?]; exact hh.dep 11 70 (by kernel_rfl) (by kernel_rfl)
                  have h71 : a.tmps[71]?.getD undef = .int .i64 y := by rw [← Array.getD_eq_getD_getElem?]; exact hh.dep 12 71 (by kernel_rfl) (by kernel_rfl)
                  have hC := Lib.hid (HC2.out _ hh.rel)
                  have hJ := Lib.hid hh.st
                  clear hh
                  go_simp
                  refine hC.out.mono ?_
                  rintro e w9 ⟨rfl, hb9⟩
                  exact ⟨_, rfl, hb9, rfl, hJ.out⟩
                · refine regs.StepOK.plain rfl fun L a w1 hh => ?_
                  have h65 : a.tmps[65]?.getD undef = .bool WB := by rw [← Array.getD_eq_getD_getElem?]; exact hh.dep 6 65 (by kernel_rfl) (by kernel_rfl)
                  have h72 : a.tmps[72]?.getD undef = .bool WB := by rw [← Array.getD_eq_getD_getElem?]; exact hh.dep 13 72 (by kernel_rfl) (by kernel_rfl)
                  have hJ := Lib.hid hh.st
                  clear hh
                  go_simp
                  exact ⟨_, rfl, regs.bl_refl _, rfl, hJ.out⟩
                · refine regs.StepOK.plain rfl fun L a w1 hh => ?_
                  have h73 : a.tmps[73]?.getD undef = .bool false := by rw [← Array.getD_eq_getD_getElem?]; exact hh.dep 14 73 (by kernel_rfl) (by kernel_rfl)
                  have hJ := Lib.hid hh.st
                  clear hh
                  go_simp
                  exact ⟨_, rfl, regs.bl_refl _, rfl, hJ.out⟩
                · refine regs.StepOK.yes 15 false 74 rfl rfl (fun L a w1 hh => hh.dep 15 74 (by kernel_rfl) (by kernel_rfl)) fun L a w1 hh => ?_
                  have h7 : a.tmps[7]?.getD undef = .pointer (some ⟨g, 0, none⟩) := by rw [← Array.getD_eq_getD_getElem?]; exact hh.old 7 rfl
                  have hJ := Lib.hid hh.st
                  clear hh
                  go_simp
                  exact ⟨_, rfl, regs.bl_refl _, rfl, hJ.out⟩
                · refine regs.StepOK.yes 15 false 74 rfl rfl (fun L a w1 hh => hh.dep 15 74 (by kernel_rfl) (by kernel_rfl)) fun L a w1 hh => ?_
                  have h75 : a.tmps[75]?.getD undef = .pointer (some ⟨g, 0, none⟩) := by rw [← Array.getD_eq_getD_getElem?]; exact hh.dep 16 75 (by kernel_rfl) (by kernel_rfl)
                  obtain ⟨p0, p1, pi⟩ := FC.out _ hh.rel
                  have hJ := Lib.hid hh.st
                  clear hh
                  go_simp
                  exact ⟨_, rfl, regs.bl_refl _, rfl, hJ.out⟩
                · refine regs.StepOK.yes 15 false 74 rfl rfl (fun L a w1 hh => hh.dep 15 74 (by kernel_rfl) (by kernel_rfl)) fun L a w1 hh => ?_
                  have h76 : a.tmps[76]?.getD undef = .pointer (some ⟨g, 0, none⟩) := by rw [← Array.getD_eq_getD_getElem?]; exact hh.dep 17 76 (by kernel_rfl) (by kernel_rfl)
                  obtain ⟨p0, p1, pi⟩ := FC.out _ hh.rel
                  have hJ := Lib.hid hh.st
                  clear hh
                  go_simp
                  exact ⟨_, rfl, regs.bl_refl _, rfl, hJ.out⟩
                · refine regs.StepOK.yes 15 false 74 rfl rfl (fun L a w1 hh => hh.dep 15 74 (by kernel_rfl) (by kernel_rfl)) fun L a w1 hh => ?_
                  have h77 : a.tmps[77]?.getD undef = .pointer (some ⟨g, 0, none⟩) := by rw [← Array.getD_eq_getD_getElem?]; exact hh.dep 18 77 (by kernel_rfl) (by kernel_rfl)
                  obtain ⟨p0, p1, pi⟩ := FC.out _ hh.rel
                  have hJ := Lib.hid hh.st
                  clear hh
                  go_simp
                  exact ⟨_, rfl, regs.bl_refl _, rfl, hJ.out⟩
                · refine regs.StepOK.yes 15 false 74 rfl rfl (fun L a w1 hh => hh.dep 15 74 (by kernel_rfl) (by kernel_rfl)) fun L a w1 hh => ?_
                  have h12 : a.tmps[12]?.getD undef = .int .i64 x := by rw [← Array.getD_eq_getD_getElem?]; exact hh.old 12 rfl
                  have hJ := Lib.hid hh.st
                  clear hh
                  go_simp
                  exact ⟨_, rfl, regs.bl_refl _, rfl, hJ.out⟩
                · refine regs.StepOK.yes 15 false 74 rfl rfl (fun L a w1 hh => hh.dep 15 74 (by kernel_rfl) (by kernel_rfl)) fun L a w1 hh => ?_
                  have h14 : a.tmps[14]?.getD undef = .int .i64 y := by rw [← Array.getD_eq_getD_getElem?]; exact hh.old 14 rfl
                  have hJ := Lib.hid hh.st
                  clear hh
                  go_simp
                  exact ⟨_, rfl, regs.bl_refl _, rfl, hJ.out⟩
                · refine regs.StepOK.yes 15 false 74 rfl rfl (fun L a w1 hh => hh.dep 15 74 (by kernel_rfl) (by kernel_rfl)) fun L a w1 hh => ?_
                  have h79 : a.tmps[79]?.getD undef = .int .i64 x := by rw [← Array.getD_eq_getD_getElem?]; exact hh.dep 20 79 (by kernel_rfl) (by kernel_rfl)
                  have h80 : a.tmps[80]?.getD undef = .int .i64 y := by rw [← Array.getD_eq_getD_getElem?]; exact hh.dep 21 80 (by kernel_rfl) (by kernel_rfl)
                  have hJ := Lib.hid hh.st
                  clear hh
                  go_simp
                  exact ⟨_, rfl, (Below.refl _ _).alloc (Nat.le_refl _) _, ⟨_, rfl, row_new' (enc := eI) w1 [x, y] 3 rfl⟩, hJ.out⟩
                · refine regs.StepOK.yes 15 false 74 rfl rfl (fun L a w1 hh => hh.dep 15 74 (by kernel_rfl) (by kernel_rfl)) fun L a w1 hh => ?_
                  have h78 : a.tmps[78]?.getD undef = .pointer (some ⟨b, 0, none⟩) := by rw [← Array.getD_eq_getD_getElem?]; exact hh.dep 19 78 (by kernel_rfl) (by kernel_rfl)
                  obtain ⟨g9, e9, hr9⟩ := hh.dep 22 81 (by kernel_rfl) (by kernel_rfl)
                  have h81 : a.tmps[81]?.getD undef = .slice (some ⟨g9, 0, none⟩) 2 2 := by rw [← Array.getD_eq_getD_getElem?]; exact e9
                  clear e9
                  have hC := Lib.hid (HC3.out _ g9 hh.rel hr9)
                  clear hr9
                  have hJ := Lib.hid hh.st
                  clear hh
                  go_simp
                  refine hC.out.mono ?_
                  rintro e w9 ⟨rfl, hb9⟩
                  exact ⟨_, rfl, hb9, rfl, hJ.out⟩
                · refine regs.StepOK.yes 15 false 74 rfl rfl (fun L a w1 hh => hh.dep 15 74 (by kernel_rfl) (by kernel_rfl)) fun L a w1 hh => ?_
                  have h7 : a.tmps[7]?.getD undef = .pointer (some ⟨g, 0, none⟩) := by rw [← Array.getD_eq_getD_getElem?]; exact hh.old 7 rfl
                  have hJ := Lib.hid hh.st
                  clear hh
                  go_simp
                  exact ⟨_, rfl, regs.bl_refl _, rfl, hJ.out⟩
                · refine regs.StepOK.yes 15 false 74 rfl rfl (fun L a w1 hh => hh.dep 15 74 (by kernel_rfl) (by kernel_rfl)) fun L a w1 hh => ?_
                  have h83 : a.tmps[83]?.getD undef = .pointer (some ⟨g, 0, none⟩) := by rw [← Array.getD_eq_getD_getElem?]; exact hh.dep 24 83 (by kernel_rfl) (by kernel_rfl)
                  obtain ⟨p0, p1, pi⟩ := FC.out _ hh.rel
                  have hJ := Lib.hid hh.st
                  clear hh
                  go_simp
                  exact ⟨_, rfl, regs.bl_refl _, rfl, hJ.out⟩
                · refine regs.StepOK.yes 15 false 74 rfl rfl (fun L a w1 hh => hh.dep 15 74 (by kernel_rfl) (by kernel_rfl)) fun L a w1 hh => ?_
                  have h84 : a.tmps[84]?.getD undef = .pointer (some ⟨g, 0, none⟩) := by rw [← Array.getD_eq_getD_getElem?]; exact hh.dep 25 84 (by kernel_rfl) (by kernel_rfl)
                  obtain ⟨p0, p1, pi⟩ := FC.out _ hh.rel
                  have hJ := Lib.hid hh.st
                  clear hh
                  go_simp
                  exact ⟨_, rfl, regs.bl_refl _, rfl, hJ.out⟩
                · refine regs.StepOK.yes 15 false 74 rfl rfl (fun L a w1 hh => hh.dep 15 74 (by kernel_rfl) (by kernel_rfl)) fun L a w1 hh => ?_
                  have h85 : a.tmps[85]?.getD undef = .pointer (some ⟨g, 1, none⟩) := by rw [← Array.getD_eq_getD_getElem?]; exact hh.dep 26 85 (by kernel_rfl) (by kernel_rfl)
                  obtain ⟨p0, p1, pi⟩ := FC.out _ hh.rel
                  have hJ := Lib.hid hh.st
                  clear hh
                  go_simp
                  exact ⟨_, rfl, regs.bl_refl _, rfl, hJ.out⟩
                · refine regs.StepOK.yes 15 false 74 rfl rfl (fun L a w1 hh => hh.dep 15 74 (by kernel_rfl) (by kernel_rfl)) fun L a w1 hh => ?_
                  have h12 : a.tmps[12]?.getD undef = .int .i64 x := by rw [← Array.getD_eq_getD_getElem?]; exact hh.old 12 rfl
                  have hJ := Lib.hid hh.st
                  clear hh
                  go_simp
                  exact ⟨_, rfl, regs.bl_refl _, rfl, hJ.out⟩
                · refine regs.StepOK.yes 15 false 74 rfl rfl (fun L a w1 hh => hh.dep 15 74 (by kernel_rfl) (by kernel_rfl)) fun L a w1 hh => ?_
                  have h86 : a.tmps[86]?.getD undef = .slice A0 t.length c0 := by rw [← Array.getD_eq_getD_getElem?]; exact hh.dep 27 86 (by kernel_rfl) (by kernel_rfl)
                  have h87 : a.tmps[87]?.getD undef = .int .i64 x := by rw [← Array.getD_eq_getD_getElem?]; exact hh.dep 28 87 (by kernel_rfl) (by kernel_rfl)
                  have hC := Lib.hid (HC4.out _ hh.rel)
                  have hJ := Lib.hid hh.st
                  clear hh
                  go_simp
                  refine hC.out.mono ?_
                  rintro e w9 ⟨rfl, hb9⟩
                  exact ⟨_, rfl, hb9, rfl, hJ.out⟩
                · refine regs.StepOK.yes 15 false 74 rfl rfl (fun L a w1 hh => hh.dep 15 74 (by kernel_rfl) (by kernel_rfl)) fun L a w1 hh => ?_
                  have h88 : a.tmps[88]?.getD undef = .bool true := by rw [← Array.getD_eq_getD_getElem?]; exact hh.dep 29 88 (by kernel_rfl) (by kernel_rfl)
                  have hJ := Lib.hid hh.st
                  clear hh
                  go_simp
                  exact ⟨_, rfl, regs.bl_refl _, rfl, hJ.out⟩
                · refine regs.StepOK.yes 30 true 89 rfl rfl (fun L a w1 hh => hh.dep 30 89 (by kernel_rfl) (by kernel_rfl)) fun L a w1 hh => ?_
                  have h7 : a.tmps[7]?.getD undef = .pointer (some ⟨g, 0, none⟩) := by rw [← Array.getD_eq_getD_getElem?]; exact hh.old 7 rfl
                  have hJ := Lib.hid hh.st
                  clear hh
                  go_simp
                  exact ⟨_, rfl, regs.bl_refl _, rfl, hJ.out⟩
                · refine regs.StepOK.yes 30 true 89 rfl rfl (fun L a w1 hh => hh.dep 30 89 (by kernel_rfl) (by kernel_rfl)) fun L a w1 hh => ?_
                  have h90 : a.tmps[90]?.getD undef = .pointer (some ⟨g, 0, none⟩) := by rw [← Array.getD_eq_getD_getElem?]; exact hh.dep 31 90 (by kernel_rfl) (by kernel_rfl)
                  obtain ⟨p0, p1, pi⟩ := FC.out _ hh.rel
                  have hJ := Lib.hid hh.st
                  clear hh
                  go_simp
                  exact ⟨_, rfl, regs.bl_refl _, rfl, hJ.out⟩
                · refine regs.StepOK.yes 30 true 89 rfl rfl (fun L a w1 hh => hh.dep 30 89 (by kernel_rfl) (by kernel_rfl)) fun L a w1 hh => ?_
                  have h91 : a.tmps[91]?.getD undef = .pointer (some ⟨g, 0, none⟩) := by rw [← Array.getD_eq_getD_getElem?]; exact hh.dep 32 91 (by kernel_rfl) (by kernel_rfl)
                  obtain ⟨p0, p1, pi⟩ := FC.out _ hh.rel
                  have hJ := Lib.hid hh.st
                  clear hh
                  go_simp
                  exact ⟨_, rfl, regs.bl_refl _, rfl, hJ.out⟩
                · refine regs.StepOK.yes 30 true 89 rfl rfl (fun L a w1 hh => hh.dep 30 89 (by kernel_rfl) (by kernel_rfl)) fun L a w1 hh => ?_
                  have h92 : a.tmps[92]?.getD undef = .pointer (some ⟨g, 1, none⟩) := by rw [← Array.getD_eq_getD_getElem?]; exact hh.dep 33 92 (by kernel_rfl) (by kernel_rfl)
                  obtain ⟨p0, p1, pi⟩ := FC.out _ hh.rel
                  have hJ := Lib.hid hh.st
                  clear hh
                  go_simp
                  exact ⟨_, rfl, regs.bl_refl _, rfl, hJ.out⟩
                · refine regs.StepOK.yes 30 true 89 rfl rfl (fun L a w1 hh => hh.dep 30 89 (by kernel_rfl) (by kernel_rfl)) fun L a w1 hh => ?_
                  have h14 : a.tmps[14]?.getD undef = .int .i64 y := by rw [← Array.getD_eq_getD_getElem?]; exact hh.old 14 rfl
                  have hJ := Lib.hid hh.st
                  clear hh
                  go_simp
                  exact ⟨_, rfl, regs.bl_refl _, rfl, hJ.out⟩
                · refine regs.StepOK.yes 30 true 89 rfl rfl (fun L a w1 hh => hh.dep 30 89 (by kernel_rfl) (by kernel_rfl)) fun L a w1 hh => ?_
                  have h93 : a.tmps[93]?.getD undef = .slice A0 t.length c0 := by rw [← Array.getD_eq_getD_getElem?]; exact hh.dep 34 93 (by kernel_rfl) (by kernel_rfl)
                  have h94 : a.tmps[94]?.getD undef = .int .i64 y := by rw [← Array.getD_eq_getD_getElem?]; exact hh.dep 35 94 (by kernel_rfl) (by kernel_rfl)
                  have hC := Lib.hid (HC5.out _ hh.rel)
                  have hJ := Lib.hid hh.st
                  clear hh
                  go_simp
                  refine hC.out.mono ?_
                  rintro e w9 ⟨rfl, hb9⟩
                  exact ⟨_, rfl, hb9, rfl, hJ.out⟩
                · refine regs.StepOK.yes 15 false 74 rfl rfl (fun L a w1 hh => hh.dep 15 74 (by kernel_rfl) (by kernel_rfl)) fun L a w1 hh => ?_
                  have h89 : a.tmps[89]?.getD undef = .bool true := by rw [← Array.getD_eq_getD_getElem?]; exact hh.dep 30 89 (by kernel_rfl) (by kernel_rfl)
                  have h95 : a.tmps[95]?.getD undef = .bool yb := by rw [← Array.getD_eq_getD_getElem?]; exact hh.dep 36 95 (by kernel_rfl) (by kernel_rfl)
                  have hJ := Lib.hid hh.st
                  clear hh
                  go_simp
                  exact ⟨_, rfl, regs.bl_refl _, rfl, hJ.out⟩
                · refine regs.StepOK.yes 15 false 74 rfl rfl (fun L a w1 hh => hh.dep 15 74 (by kernel_rfl) (by kernel_rfl)) fun L a w1 hh => ?_
                  have h82 : a.tmps[82]?.getD undef = .bool yb := by rw [← Array.getD_eq_getD_getElem?]; exact hh.dep 23 82 (by kernel_rfl) (by kernel_rfl)
                  have h96 : a.tmps[96]?.getD undef = .bool yb := by rw [← Array.getD_eq_getD_getElem?]; exact hh.dep 37 96 (by kernel_rfl) (by kernel_rfl)
                  have hJ := Lib.hid hh.st
                  clear hh
                  go_simp
                  exact ⟨_, rfl, regs.bl_refl _, rfl, hJ.out⟩
                · refine regs.StepOK.plain rfl fun L a w1 hh => ?_
                  have h74 : a.tmps[74]?.getD undef = .bool false := by rw [← Array.getD_eq_getD_getElem?]; exact hh.dep 15 74 (by kernel_rfl) (by kernel_rfl)
                  have h97 : a.tmps[97]?.getD undef = .bool false := by rw [← Array.getD_eq_getD_getElem?]; exact hh.dep 38 97 (by kernel_rfl) (by kernel_rfl)
                  have hJ := Lib.hid hh.st
                  clear hh
                  go_simp
                  exact ⟨_, rfl, regs.bl_refl _, rfl, hJ.out⟩
                intro L' w5 val hL hJ hR hv
                have h98 : val 98 = .bool false := hv 39 98 (by kernel_rfl)
                have HR5 : Hid (Below wr.heap.size wr w5) := hR
                clear hv hL hJ hR FC
                simp only [regs.putAll, List.map_cons, List.map_nil, h98]
                simp only [Act.put, List.setIfInBounds_toArray, List.set_cons_zero, List.set_cons_succ]
                clear h98
                generalize val 59 = y59 at *
                generalize val 60 = y60 at *
                generalize val 61 = y61 at *
                generalize val 62 = y62 at *
                generalize val 63 = y63 at *
                generalize val 64 = y64 at *
                generalize val 65 = y65 at *
                generalize val 66 = y66 at *
                generalize val 67 = y67 at *
                generalize val 68 = y68 at *
                generalize val 69 = y69 at *
                generalize val 70 = y70 at *
                generalize val 71 = y71 at *
                generalize val 72 = y72 at *
                generalize val 73 = y73 at *
                generalize val 74 = y74 at *
                generalize val 75 = y75 at *
                generalize val 76 = y76 at *
                generalize val 77 = y77 at *
                generalize val 78 = y78 at *
                generalize val 79 = y79 at *
                generalize val 80 = y80 at *
                generalize val 81 = y81 at *
                generalize val 82 = y82 at *
                generalize val 83 = y83 at *
                generalize val 84 = y84 at *
                generalize val 85 = y85 at *
                generalize val 86 = y86 at *
                generalize val 87 = y87 at *
                generalize val 88 = y88 at *
                generalize val 89 = y89 at *
                generalize val 90 = y90 at *
                generalize val 91 = y91 at *
                generalize val 92 = y92 at *
                generalize val 93 = y93 at *
                generalize val 94 = y94 at *
                generalize val 95 = y95 at *
                generalize val 96 = y96 at *
                generalize val 97 = y97 at *
                simp only [Exit.then]
                go_wp2_with (fail)
                go_roundw
                case rel => exact ⟨k3 + 1, HLT3.out, by go_num, HB6.out.trans (HR5.out.mono HB6.out.size)⟩
                case measure => have := HLT3.out; simp [intOf]; omega
              | false =>
                rw [Bool.false_and] at HC3
                refine regs.wp_region_put (regs.bl) (regs.noJ) [59, 60, 61, 62, 63, 64, 65, 66, 67, 68, 69, 70, 71, 72, 73, 74, 75, 76, 77, 78, 79, 80, 81, 82, 83, 84, 85, 86, 87, 88, 89, 90, 91, 92, 93, 94, 95, 96, 97, 98] (by kernel_rfl) (by kernel_rfl) (fun _ => regs.bl_refl _) (regs.bl_trans) (fun i => (match i with
                  | 0 => regs.Say.val _ (.pointer (some ⟨g, 0, none⟩))
                  | 1 => regs.Say.val _ (.pointer (some ⟨g, 0, none⟩))
                  | 2 => regs.Say.val _ (.pointer (some ⟨g, 0, none⟩))
                  | 3 => regs.Say.val _ (.pointer (some ⟨b, 0, none⟩))
                  | 4 => regs.Say.val _ (.int .i64 x)
                  | 5 => regs.Say.val _ (.int .i64 y)
                  | 6 => regs.Say.val _ (.bool WB)
                  | 7 => regs.Say.val _ (.pointer (some ⟨g, 0, none⟩))
                  | 8 => regs.Say.val _ (.pointer (some ⟨g, 0, none⟩))
                  | 9 => regs.Say.val _ (.pointer (some ⟨g, 1, none⟩))
                  | 10 => regs.Say.val _ (.slice A0 t.length c0)
                  | 11 => regs.Say.val _ (.int .i64 x)
                  | 12 => regs.Say.val _ (.int .i64 y)
                  | 13 => regs.Say.val _ (.bool WB)
                  | 14 => regs.Say.val _ (.bool false)
                  | 15 => regs.Say.val _ (.bool false)
                  | 16 => regs.Say.val _ (.pointer (some ⟨g, 0, none⟩))
                  | 17 => regs.Say.val _ (.pointer (some ⟨g, 0, none⟩))
                  | 18 => regs.Say.val _ (.pointer (some ⟨g, 0, none⟩))
                  | 19 => regs.Say.val _ (.pointer (some ⟨b, 0, none⟩))
                  | 20 => regs.Say.val _ (.int .i64 x)
                  | 21 => regs.Say.val _ (.int .i64 y)
                  | 22 => sayR2 x y
                  | 23 => regs.Say.val _ (.bool false)
                  | 24 => regs.Say.val _ (.pointer (some ⟨g, 0, none⟩))
                  | 25 => regs.Say.val _ (.pointer (some ⟨g, 0, none⟩))
                  | 26 => regs.Say.val _ (.pointer (some ⟨g, 1, none⟩))
                  | 27 => regs.Say.val _ (.slice A0 t.length c0)
                  | 28 => regs.Say.val _ (.int .i64 x)
                  | 29 => regs.Say.val _ (.bool false)
                  | 30 => regs.Say.val _ (.bool false)
                  | 31 => regs.Say.val _ (undef)
                  | 32 => regs.Say.val _ (undef)
                  | 33 => regs.Say.val _ (undef)
                  | 34 => regs.Say.val _ (undef)
                  | 35 => regs.Say.val _ (undef)
                  | 36 => regs.Say.val _ (undef)
                  | 37 => regs.Say.val _ (.bool false)
                  | 38 => regs.Say.val _ (.bool false)
                  | 39 => regs.Say.val _ (.bool false)
                  | _ => regs.Say.any _ : regs.Say (regs.bl)).p) (fun _ => regs.Say.mono _) (by kernel_rfl) ((Below.refl _ _).drew) (regs.noJ_ok _ _) ⟨?_, ?_, ?_, ?_, ?_, ?_, ?_, ?_, ?_, ?_, ?_, ?_, ?_, ?_, ?_, ?_, ?_, ?_, ?_, ?_, ?_, ?_, ?_, ?_, ?_, ?_, ?_, ?_, ?_, ?_, ?_, ?_, ?_, ?_, ?_, ?_, ?_, ?_, ?_, ?_, trivial⟩ ?_
                · refine regs.StepOK.plain rfl fun L a w1 hh => ?_
                  have h7 : a.tmps[7]?.getD undef = .pointer (some ⟨g, 0, none⟩) := by rw [← Array.getD_eq_getD_getElem?]; exact hh.old 7 rfl
                  have hJ := Lib.hid hh.st
                  clear hh
                  go_simp
                  exact ⟨_, rfl, regs.bl_refl _, rfl, hJ.out⟩
                · refine regs.StepOK.plain rfl fun L a w1 hh => ?_
                  have h59 : a.tmps[59]?.getD undef = .pointer (some ⟨g, 0, none⟩) := by rw [← Array.getD_eq_getD_getElem?]; exact hh.dep 0 59 (by kernel_rfl) (by kernel_rfl)
                  obtain ⟨p0, p1, pi⟩ := FC.out _ hh.rel
                  have hJ := Lib.hid hh.st
                  clear hh
                  go_simp
                  exact ⟨_, rfl, regs.bl_refl _, rfl, hJ.out⟩
                · refine regs.StepOK.plain rfl fun L a w1 hh => ?_
                  have h60 : a.tmps[60]?.getD undef = .pointer (some ⟨g, 0, none⟩) := by rw [← Array.getD_eq_getD_getElem?]; exact hh.dep 1 60 (by kernel_rfl) (by kernel_rfl)
                  obtain ⟨p0, p1, pi⟩ := FC.out _ hh.rel
                  have hJ := Lib.hid hh.st
                  clear hh
                  go_simp
                  exact ⟨_, rfl, regs.bl_refl _, rfl, hJ.out⟩
                · refine regs.StepOK.plain rfl fun L a w1 hh => ?_
                  have h61 : a.tmps[61]?.getD undef = .pointer (some ⟨g, 0, none⟩) := by rw [← Array.getD_eq_getD_getElem?]; exact hh.dep 2 61 (by kernel_rfl) (by kernel_rfl)
                  obtain ⟨p0, p1, pi⟩ := FC.out _ hh.rel
                  have hJ := Lib.hid hh.st
                  clear hh
                  go_simp
                  exact ⟨_, rfl, regs.bl_refl _, rfl, hJ.out⟩
                · refine regs.StepOK.plain rfl fun L a w1 hh => ?_
                  have h12 : a.tmps[12]?.getD undef = .int .i64 x := by rw [← Array.getD_eq_getD_getElem?]; exact hh.old 12 rfl
                  have hJ := Lib.hid hh.st
                  clear hh
                  go_simp
                  exact ⟨_, rfl, regs.bl_refl _, rfl, hJ.out⟩
                · refine regs.StepOK.plain rfl fun L a w1 hh => ?_
                  have h14 : a.tmps[14]?.getD undef = .int .i64 y := by rw [← Array.getD_eq_getD_getElem?]; exact hh.old 14 rfl
                  have hJ := Lib.hid hh.st
                  clear hh
                  go_simp
                  exact ⟨_, rfl, regs.bl_refl _, rfl, hJ.out⟩
                · refine regs.StepOK.plain rfl fun L a w1 hh => ?_
                  have h62 : a.tmps[62]?.getD undef = .pointer (some ⟨b, 0, none⟩) := by rw [← Array.getD_eq_getD_getElem?]; exact hh.dep 3 62 (by kernel_rfl) (by kernel_rfl)
                  have h63 : a.tmps[63]?.getD undef = .int .i64 x := by rw [← Array.getD_eq_getD_getElem?]; exact hh.dep 4 63 (by kernel_rfl) (by kernel_rfl)
                  have h64 : a.tmps[64]?.getD undef = .int .i64 y := by rw [← Array.getD_eq_getD_getElem?]; exact hh.dep 5 64 (by kernel_rfl) (by kernel_rfl)
                  have hC := Lib.hid (HC1.out _ hh.rel)
                  have hJ := Lib.hid hh.st
                  clear hh
                  go_simp
                  refine hC.out.mono ?_
                  rintro e w9 ⟨rfl, hb9⟩
                  exact ⟨_, rfl, hb9, rfl, hJ.out⟩
                · refine regs.StepOK.plain rfl fun L a w1 hh => ?_
                  have h7 : a.tmps[7]?.getD undef = .pointer (some ⟨g, 0, none⟩) := by rw [← Array.getD_eq_getD_getElem?]; exact hh.old 7 rfl
                  have hJ := Lib.hid hh.st
                  clear hh
                  go_simp
                  exact ⟨_, rfl, regs.bl_refl _, rfl, hJ.out⟩
                · refine regs.StepOK.plain rfl fun L a w1 hh => ?_
                  have h66 : a.tmps[66]?.getD undef = .pointer (some ⟨g, 0, none⟩) := by rw [← Array.getD_eq_getD_getElem?]; exact hh.dep 7 66 (by kernel_rfl) (by kernel_rfl)
                  obtain ⟨p0, p1, pi⟩ := FC.out _ hh.rel
                  have hJ := Lib.hid hh.st
                  clear hh
                  go_simp
                  exact ⟨_, rfl, regs.bl_refl _, rfl, hJ.out⟩
                · refine regs.StepOK.plain rfl fun L a w1 hh => ?_
                  have h67 : a.tmps[67]?.getD undef = .pointer (some ⟨g, 0, none⟩) := by rw [← Array.getD_eq_getD_getElem?]; exact hh.dep 8 67 (by kernel_rfl) (by kernel_rfl)
                  obtain ⟨p0, p1, pi⟩ := FC.out _ hh.rel
                  have hJ := Lib.hid hh.st
                  clear hh
                  go_simp
                  exact ⟨_, rfl, regs.bl_refl _, rfl, hJ.out⟩
                · refine regs.StepOK.plain rfl fun L a w1 hh => ?_
                  have h68 : a.tmps[68]?.getD undef = .pointer (some ⟨g, 1, none⟩) := by rw [← Array.getD_eq_getD_getElem?]; exact hh.dep 9 68 (by kernel_rfl) (by kernel_rfl)
                  obtain ⟨p0, p1, pi⟩ := FC.out _ hh.rel
                  have hJ := Lib.hid hh.st
                  clear hh
                  go_simp
                  exact ⟨_, rfl, regs.bl_refl _, rfl, hJ.out⟩
                · refine regs.StepOK.plain rfl fun L a w1 hh => ?_
                  have h12 : a.tmps[12]?.getD undef = .int .i64 x := by rw [← Array.getD_eq_getD_getElem?]; exact hh.old 12 rfl
                  have hJ := Lib.hid hh.st
                  clear hh
                  go_simp
                  exact ⟨_, rfl, regs.bl_refl _, rfl, hJ.out⟩
                · refine regs.StepOK.plain rfl fun L a w1 hh => ?_
                  have h14 : a.tmps[14]?.getD undef = .int .i64 y := by rw [← Array.getD_eq_getD_getElem?]; exact hh.old 14 rfl
                  have hJ := Lib.hid hh.st
                  clear hh
                  go_simp
                  exact ⟨_, rfl, regs.bl_refl _, rfl, hJ.out⟩
                · refine regs.StepOK.plain rfl fun L a w1 hh => ?_
                  have h69 : a.tmps[69]?.getD undef = .slice A0 t.length c0 := by rw [← Array.getD_eq_getD_getElem?]; exact hh.dep 10 69 (by kernel_rfl) (by kernel_rfl)
                  have h70 : a.tmps[70]?.getD undef = .int .i64 x := by rw [← Array.getD_eq_getD_getElem?]; exact hh.dep 11 70 (by kernel_rfl) (by kernel_rfl)
                  have h71 : a.tmps[71]?.getD undef = .int .i64 y := by rw [← Array.getD_eq_getD_getElem?]; exact hh.dep 12 71 (by kernel_rfl) (by kernel_rfl)
                  have hC := Lib.hid (HC2.out _ hh.rel)
                  have hJ := Lib.hid hh.st
                  clear hh
                  go_simp
                  refine hC.out.mono ?_
                  rintro e w9 ⟨rfl, hb9⟩
                  exact ⟨_, rfl, hb9, rfl, hJ.out⟩
                · refine regs.StepOK.plain rfl fun L a w1 hh => ?_
                  have h65 : a.tmps[65]?.getD undef = .bool WB := by rw [← Array.getD_eq_getD_getElem?]; exact hh.dep 6 65 (by kernel_rfl) (by kernel_rfl)
                  have h72 : a.tmps[72]?.getD undef = .bool WB := by rw [← Array.getD_eq_getD_getElem?]; exact hh.dep 13 72 (by kernel_rfl) (by kernel_rfl)
                  have hJ := Lib.hid hh.st
                  clear hh
                  go_simp
                  exact ⟨_, rfl, regs.bl_refl _, rfl, hJ.out⟩
                · refine regs.StepOK.plain rfl fun L a w1 hh => ?_
                  have h73 : a.tmps[73]?.getD undef = .bool false := by rw [← Array.getD_eq_getD_getElem?]; exact hh.dep 14 73 (by kernel_rfl) (by kernel_rfl)
                  have hJ := Lib.hid hh.st
                  clear hh
                  go_simp
                  exact ⟨_, rfl, regs.bl_refl _, rfl, hJ.out⟩
                · refine regs.StepOK.yes 15 false 74 rfl rfl (fun L a w1 hh => hh.dep 15 74 (by kernel_rfl) (by kernel_rfl)) fun L a w1 hh => ?_
                  have h7 : a.tmps[7]?.getD undef = .pointer (some ⟨g, 0, none⟩) := by rw [← Array.getD_eq_getD_getElem?]; exact hh.old 7 rfl
                  have hJ := Lib.hid hh.st
                  clear hh
                  go_simp
                  exact ⟨_, rfl, regs.bl_refl _, rfl, hJ.out⟩
                · refine regs.StepOK.yes 15 false 74 rfl rfl (fun L a w1 hh => hh.dep 15 74 (by kernel_rfl) (by kernel_rfl)) fun L a w1 hh => ?_
                  have h75 : a.tmps[75]?.getD undef = .pointer (some ⟨g, 0, none⟩) := by rw [← Array.getD_eq_getD_getElem?]; exact hh.dep 16 75 (by kernel_rfl) (by kernel_rfl)
                  obtain ⟨p0, p1, pi⟩ := FC.out _ hh.rel
                  have hJ := Lib.hid hh.st
                  clear hh
                  go_simp
                  exact ⟨_, rfl, regs.bl_refl _, rfl, hJ.out⟩
                · refine regs.StepOK.yes 15 false 74 rfl rfl (fun L a w1 hh => hh.dep 15 74 (by kernel_rfl) (by kernel_rfl)) fun L a w1 hh => ?_
                  have h76 : a.tmps[76]?.getD undef = .pointer (some ⟨g, 0, none⟩) := by rw [← Array.getD_eq_getD_getElem?]; exact hh.dep 17 76 (by kernel_rfl) (by kernel_rfl)
                  obtain ⟨p0, p1, pi⟩ := FC.out _ hh.rel
                  have hJ := Lib.hid hh.st
                  clear hh
                  go_simp
                  exact ⟨_, rfl, regs.bl_refl _, rfl, hJ.out⟩
                · refine regs.StepOK.yes 15 false 74 rfl rfl (fun L a w1 hh => hh.dep 15 74 (by kernel_rfl) (by kernel_rfl)) fun L a w1 hh => ?_
                  have h77 : a.tmps[77]?.getD undef = .pointer (some ⟨g, 0, none⟩) := by rw [← Array.getD_eq_getD_getElem?]; exact hh.dep 18 77 (by kernel_rfl) (by kernel_rfl)
                  obtain ⟨p0, p1, pi⟩ := FC.out _ hh.rel
                  have hJ := Lib.hid hh.st
                  clear hh
                  go_simp
                  exact ⟨_, rfl, regs.bl_refl _, rfl, hJ.out⟩
                · refine regs.StepOK.yes 15 false 74 rfl rfl (fun L a w1 hh => hh.dep 15 74 (by kernel_rfl) (by kernel_rfl)) fun L a w1 hh => ?_
                  have h12 : a.tmps[12]?.getD undef = .int .i64 x := by rw [← Array.getD_eq_getD_getElem?]; exact hh.old 12 rfl
                  have hJ := Lib.hid hh.st
                  clear hh
                  go_simp
                  exact ⟨_, rfl, regs.bl_refl _, rfl, hJ.out⟩
                · refine regs.StepOK.yes 15 false 74 rfl rfl (fun L a w1 hh => hh.dep 15 74 (by kernel_rfl) (by kernel_rfl)) fun L a w1 hh => ?_
                  have h14 : a.tmps[14]?.getD undef = .int .i64 y := by rw [← Array.getD_eq_getD_getElem?]; exact hh.old 14 rfl
                  have hJ := Lib.hid hh.st
                  clear hh
                  go_simp
                  exact ⟨_, rfl, regs.bl_refl _, rfl, hJ.out⟩
                · refine regs.StepOK.yes 15 false 74 rfl rfl (fun L a w1 hh => hh.dep 15 74 (by kernel_rfl) (by kernel_rfl)) fun L a w1 hh => ?_
                  have h79 : a.tmps[79]?.getD undef = .int .i64 x := by rw [← Array.getD_eq_getD_getElem?]; exact hh.dep 20 79 (by kernel_rfl) (by kernel_rfl)
                  have h80 : a.tmps[80]?.getD undef = .int .i64 y := by rw [← Array.getD_eq_getD_getElem?]; exact hh.dep 21 80 (by kernel_rfl) (by kernel_rfl)
                  have hJ := Lib.hid hh.st
                  clear hh
                  go_simp
                  exact ⟨_, rfl, (Below.refl _ _).alloc (Nat.le_refl _) _, ⟨_, rfl, row_new' (enc := eI) w1 [x, y] 3 rfl⟩, hJ.out⟩
                · refine regs.StepOK.yes 15 false 74 rfl rfl (fun L a w1 hh => hh.dep 15 74 (by kernel_rfl) (by kernel_rfl)) fun L a w1 hh => ?_
                  have h78 : a.tmps[78]?.getD undef = .pointer (some ⟨b, 0, none⟩) := by rw [← Array.getD_eq_getD_getElem?]; exact hh.dep 19 78 (by kernel_rfl) (by kernel_rfl)
                  obtain ⟨g9, e9, hr9⟩ := hh.dep 22 81 (by kernel_rfl) (by kernel_rfl)
                  have h81 : a.tmps[81]?.getD undef = .slice (some ⟨g9, 0, none⟩) 2 2 := by rw [← Array.getD_eq_getD_getElem?]; exact e9
                  clear e9
                  have hC := Lib.hid (HC3.out _ g9 hh.rel hr9)
                  clear hr9
                  have hJ := Lib.hid hh.st
                  clear hh
                  go_simp
                  refine hC.out.mono ?_
                  rintro e w9 ⟨rfl, hb9⟩
                  exact ⟨_, rfl, hb9, rfl, hJ.out⟩
                · refine regs.StepOK.yes 15 false 74 rfl rfl (fun L a w1 hh => hh.dep 15 74 (by kernel_rfl) (by kernel_rfl)) fun L a w1 hh => ?_
                  have h7 : a.tmps[7]?.getD undef = .pointer (some ⟨g, 0, none⟩) := by rw [← Array.getD_eq_getD_getElem?]; exact hh.old 7 rfl
                  have hJ := Lib.hid hh.st
                  clear hh
                  go_simp
                  exact ⟨_, rfl, regs.bl_refl _, rfl, hJ.out⟩
                · refine regs.StepOK.yes 15 false 74 rfl rfl (fun L a w1 hh => hh.dep 15 74 (by kernel_rfl) (by kernel_rfl)) fun L a w1 hh => ?_
                  have h83 : a.tmps[83]?.getD undef = .pointer (some ⟨g, 0, none⟩) := by rw [← Array.getD_eq_getD_getElem?]; exact hh.dep 24 83 (by kernel_rfl) (by kernel_rfl)
                  obtain ⟨p0, p1, pi⟩ := FC.out _ hh.rel
                  have hJ := Lib.hid hh.st
                  clear hh
                  go_simp
                  exact ⟨_, rfl, regs.bl_refl _, rfl, hJ.out⟩
                · refine regs.StepOK.yes 15 false 74 rfl rfl (fun L a w1 hh => hh.dep 15 74 (by kernel_rfl) (by kernel_rfl)) fun L a w1 hh => ?_
                  have h84 : a.tmps[84]?.getD undef = .pointer (some ⟨g, 0, none⟩) := by rw [← Array.getD_eq_getD_getElem?]; exact hh.dep 25 84 (by kernel_rfl) (by kernel_rfl)
                  obtain ⟨p0, p1, pi⟩ := FC.out _ hh.rel
                  have hJ := Lib.hid hh.st
                  clear hh
                  go_simp
                  exact ⟨_, rfl, regs.bl_refl _, rfl, hJ.out⟩
                · refine regs.StepOK.yes 15 false 74 rfl rfl (fun L a w1 hh => hh.dep 15 74 (by kernel_rfl) (by kernel_rfl)) fun L a w1 hh => ?_
                  have h85 : a.tmps[85]?.getD undef = .pointer (some ⟨g, 1, none⟩) := by rw [← Array.getD_eq_getD_getElem?]; exact hh.dep 26 85 (by kernel_rfl) (by kernel_rfl)
                  obtain ⟨p0, p1, pi⟩ := FC.out _ hh.rel
                  have hJ := Lib.hid hh.st
                  clear hh
                  go_simp
                  exact ⟨_, rfl, regs.bl_refl _, rfl, hJ.out⟩
                · refine regs.StepOK.yes 15 false 74 rfl rfl (fun L a w1 hh => hh.dep 15 74 (by kernel_rfl) (by kernel_rfl)) fun L a w1 hh => ?_
                  have h12 : a.tmps[12]?.getD undef = .int .i64 x := by rw [← Array.getD_eq_getD_getElem?]; exact hh.old 12 rfl
                  have hJ := Lib.hid hh.st
                  clear hh
                  go_simp
                  exact ⟨_, rfl, regs.bl_refl _, rfl, hJ.out⟩
                · refine regs.StepOK.yes 15 false 74 rfl rfl (fun L a w1 hh => hh.dep 15 74 (by kernel_rfl) (by kernel_rfl)) fun L a w1 hh => ?_
                  have h86 : a.tmps[86]?.getD undef = .slice A0 t.length c0 := by rw [← Array.getD_eq_getD_getElem?]; exact hh.dep 27 86 (by kernel_rfl) (by kernel_rfl)
                  have h87 : a.tmps[87]?.getD undef = .int .i64 x := by rw [← Array.getD_eq_getD_getElem?]; exact hh.dep 28 87 (by kernel_rfl) (by kernel_rfl)
                  have hC := Lib.hid (HC4.out _ hh.rel)
                  have hJ := Lib.hid hh.st
                  clear hh
                  go_simp
                  refine hC.out.mono ?_
                  rintro e w9 ⟨rfl, hb9⟩
                  exact ⟨_, rfl, hb9, rfl, hJ.out⟩
                · refine regs.StepOK.yes 15 false 74 rfl rfl (fun L a w1 hh => hh.dep 15 74 (by kernel_rfl) (by kernel_rfl)) fun L a w1 hh => ?_
                  have h88 : a.tmps[88]?.getD undef = .bool false := by rw [← Array.getD_eq_getD_getElem?]; exact hh.dep 29 88 (by kernel_rfl) (by kernel_rfl)
                  have hJ := Lib.hid hh.st
                  clear hh
                  go_simp
                  exact ⟨_, rfl, regs.bl_refl _, rfl, hJ.out⟩
                · refine regs.StepOK.no 30 true 89 rfl rfl (fun L a w1 hh => ?_) fun L a w1 hh => ⟨rfl, hh.st⟩
                  exact hh.dep 30 89 (by kernel_rfl) (by kernel_rfl)
                · refine regs.StepOK.no 30 true 89 rfl rfl (fun L a w1 hh => ?_) fun L a w1 hh => ⟨rfl, hh.st⟩
                  exact hh.dep 30 89 (by kernel_rfl) (by kernel_rfl)
                · refine regs.StepOK.no 30 true 89 rfl rfl (fun L a w1 hh => ?_) fun L a w1 hh => ⟨rfl, hh.st⟩
                  exact hh.dep 30 89 (by kernel_rfl) (by kernel_rfl)
                · refine regs.StepOK.no 30 true 89 rfl rfl (fun L a w1 hh => ?_) fun L a w1 hh => ⟨rfl, hh.st⟩
                  exact hh.dep 30 89 (by kernel_rfl) (by kernel_rfl)
                · refine regs.StepOK.no 30 true 89 rfl rfl (fun L a w1 hh => ?_) fun L a w1 hh => ⟨rfl, hh.st⟩
                  exact hh.dep 30 89 (by kernel_rfl) (by kernel_rfl)
                · refine regs.StepOK.no 30 true 89 rfl rfl (fun L a w1 hh => ?_) fun L a w1 hh => ⟨rfl, hh.st⟩
                  exact hh.dep 30 89 (by kernel_rfl) (by kernel_rfl)
                · refine regs.StepOK.yes 15 false 74 rfl rfl (fun L a w1 hh => hh.dep 15 74 (by kernel_rfl) (by kernel_rfl)) fun L a w1 hh => ?_
                  have h89 : a.tmps[89]?.getD undef = .bool false := by rw [← Array.getD_eq_getD_getElem?]; exact hh.dep 30 89 (by kernel_rfl) (by kernel_rfl)
                  have hJ := Lib.hid hh.st
                  clear hh
                  go_simp
                  exact ⟨_, rfl, regs.bl_refl _, rfl, hJ.out⟩
                · refine regs.StepOK.yes 15 false 74 rfl rfl (fun L a w1 hh => hh.dep 15 74 (by kernel_rfl) (by kernel_rfl)) fun L a w1 hh => ?_
                  have h82 : a.tmps[82]?.getD undef = .bool false := by rw [← Array.getD_eq_getD_getElem?]; exact hh.dep 23 82 (by kernel_rfl) (by kernel_rfl)
                  have h96 : a.tmps[96]?.getD undef = .bool false := by rw [← Array.getD_eq_getD_getElem?]; exact hh.dep 37 96 (by kernel_rfl) (by kernel_rfl)
                  have hJ := Lib.hid hh.st
                  clear hh
                  go_simp
                  exact ⟨_, rfl, regs.bl_refl _, rfl, hJ.out⟩
                · refine regs.StepOK.plain rfl fun L a w1 hh => ?_
                  have h74 : a.tmps[74]?.getD undef = .bool false := by rw [← Array.getD_eq_getD_getElem?]; exact hh.dep 15 74 (by kernel_rfl) (by kernel_rfl)
                  have h97 : a.tmps[97]?.getD undef = .bool false := by rw [← Array.getD_eq_getD_getElem?]; exact hh.dep 38 97 (by kernel_rfl) (by kernel_rfl)
                  have hJ := Lib.hid hh.st
                  clear hh
                  go_simp
                  exact ⟨_, rfl, regs.bl_refl _, rfl, hJ.out⟩
                intro L' w5 val hL hJ hR hv
                have h98 : val 98 = .bool false := hv 39 98 (by kernel_rfl)
                have HR5 : Hid (Below wr.heap.size wr w5) := hR
                clear hv hL hJ hR FC
                simp only [regs.putAll, List.map_cons, List.map_nil, h98]
                simp only [Act.put, List.setIfInBounds_toArray, List.set_cons_zero, List.set_cons_succ]
                clear h98
                generalize val 59 = y59 at *
                generalize val 60 = y60 at *
                generalize val 61 = y61 at *
                generalize val 62 = y62 at *
                generalize val 63 = y63 at *
                generalize val 64 = y64 at *
                generalize val 65 = y65 at *
                generalize val 66 = y66 at *
                generalize val 67 = y67 at *
                generalize val 68 = y68 at *
                generalize val 69 = y69 at *
                generalize val 70 = y70 at *
                generalize val 71 = y71 at *
                generalize val 72 = y72 at *
                generalize val 73 = y73 at *
                generalize val 74 = y74 at *
                generalize val 75 = y75 at *
                generalize val 76 = y76 at *
                generalize val 77 = y77 at *
                generalize val 78 = y78 at *
                generalize val 79 = y79 at *
                generalize val 80 = y80 at *
                generalize val 81 = y81 at *
                generalize val 82 = y82 at *
                generalize val 83 = y83 at *
                generalize val 84 = y84 at *
                generalize val 85 = y85 at *
                generalize val 86 = y86 at *
                generalize val 87 = y87 at *
                generalize val 88 = y88 at *
                generalize val 89 = y89 at *
                generalize val 90 = y90 at *
                generalize val 91 = y91 at *
                generalize val 92 = y92 at *
                generalize val 93 = y93 at *
                generalize val 94 = y94 at *
                generalize val 95 = y95 at *
                generalize val 96 = y96 at *
                generalize val 97 = y97 at *
                simp only [Exit.then]
                go_wp2_with (fail)
                go_roundw
                case rel => exact ⟨k3 + 1, HLT3.out, by go_num, HB6.out.trans (HR5.out.mono HB6.out.size)⟩
                case measure => have := HLT3.out; simp [intOf]; omega
            · obtain rfl : k3 = LL.length := by omega
              have t1 : decide (LL.length < LL.length) = false := by simp
              go_wp2_with (fail)
              go_roundw
              case rel => exact ⟨k2 + 1, HLT2.out, by go_num, HB6⟩
              case measure => have := HLT2.out; simp [intOf]; omega
        · obtain rfl : k2 = LL.length := by omega
          have t1 : decide (LL.length < LL.length) = false := by simp
          have HB7 := Lib.hid (HB4.out.trans (HB5.out.mono HB4.out.size))
          clear HB5
          have HBA := Lib.hid (HBK.out.trans (HB7.out.mono HBK.out.size))
          obtain ⟨q0, q1, qi⟩ := HPC.out _ HB7.out
          have HCA := Lib.hid (dhas A0 t c0 a wB (HD.out _ HB7.out) (by have := HT0.out.1; omega))
          have HE : Hid (∀ W, Below wB.heap.size wB W → Below wA.heap.size wA W) := fun W hb => HB7.out.trans (hb.mono HB7.out.size)
          obtain ⟨ab, hab⟩ : ∃ q, has t a = q := ⟨_, rfl⟩
          rw [hab] at HCA
          have HAB := Lib.hid hab
          clear hab
          cases ab with
          | true =>
            go_wp2_with (fail)
            refine HCA.out.mono ?_
            rintro e w5 ⟨rfl, hb5⟩
            have HB5 := Lib.hid hb5
            clear hb5 q0 q1 qi HCA
            obtain ⟨q0, q1, qi⟩ := HPC.out _ (HE.out _ HB5.out)
            go_wp2_with (fail)
            have hC := tparent (HTT.out _ (HE.out _ HB5.out)) 0 (by constructor <;> decide)
            rw [par_missing (fun e => HT0.out.2.ne0 e rfl)] at hC
            refine hC.mono ?_
            rintro e w8 ⟨rfl, hb8⟩
            have HB8 := Lib.hid (HB5.out.trans (hb8.mono HB5.out.size))
            clear hb8 q0 q1 qi hC
            obtain ⟨q0, q1, qi⟩ := HPC.out _ (HE.out _ HB8.out)
            go_wp2_with (fail)
            refine (thas (HTT.out _ (HE.out _ HB8.out)) none [] 0 (Row.none_ rfl) (fun _ h => (nomatch h)) (by simp)).mono ?_
            rintro e w9 ⟨rfl, hb9⟩
            rw [show ([] : List Int).all (has t) = true from rfl]
            have HB9 := Lib.hid (HB8.out.trans (hb9.mono HB8.out.size))
            clear hb9 q0 q1 qi
            go_wp2_with (fail)
            refine (awake_any w9).mono ?_
            rintro e w10 ⟨rfl, hb10⟩
            have HB10 := Lib.hid (HB9.out.trans (hb10.mono HB9.out.size))
            clear hb10
            go_wp2_with (fail)
            go_ret
            exact ⟨rfl, HBA.out.trans (HB10.out.mono HBA.out.size)⟩
          | false =>
            have HNI : Hid (a ∉ ids t) := fun e => by have := HAB.out; rw [has_iff.2 (.inr e)] at this; cases this
            go_wp2_with (fail)
            refine HCA.out.mono ?_
            rintro e w5 ⟨rfl, hb5⟩
            have HB5 := Lib.hid hb5
            clear hb5 q0 q1 qi HCA
            obtain ⟨q0, q1, qi⟩ := HPC.out _ (HE.out _ HB5.out)
            go_wp2_with (fail)
            have hC := tparent (HTT.out _ (HE.out _ HB5.out)) a HA.out.1
            rw [par_missing HNI.out] at hC
            refine hC.mono ?_
            rintro e w6 ⟨rfl, hb6⟩
            have HB6 := Lib.hid (HB5.out.trans (hb6.mono HB5.out.size))
            clear hb6 q0 q1 qi hC
            obtain ⟨q0, q1, qi⟩ := HPC.out _ (HE.out _ HB6.out)
            go_wp2_with (fail)
            have hC := tkids (HTT.out _ (HE.out _ HB6.out)) (by have := HT0.out.1; omega) a HA.out.1
            rw [kids_none HT0.out.2 (by rw [HAB.out]; decide)] at hC
            refine hC.mono ?_
            rintro e w7 ⟨v7, rfl, ho7, hb7⟩
            obtain ⟨A7, c7, rfl, -, -, -⟩ := IOwn.irow ho7
            have HB7' := Lib.hid (HB6.out.trans (hb7.mono HB6.out.size))
            clear hb7 q0 q1 qi hC ho7
            obtain ⟨q0, q1, qi⟩ := HPC.out _ (HE.out _ HB7'.out)
            go_wp2_with (fail)
            have hC := tparent (HTT.out _ (HE.out _ HB7'.out)) 0 (by constructor <;> decide)
            rw [par_missing (fun e => HT0.out.2.ne0 e rfl)] at hC
            refine hC.mono ?_
            rintro e w8 ⟨rfl, hb8⟩
            have HB8 := Lib.hid (HB7'.out.trans (hb8.mono HB7'.out.size))
            clear hb8 q0 q1 qi hC
            obtain ⟨q0, q1, qi⟩ := HPC.out _ (HE.out _ HB8.out)
            go_wp2_with (fail)
            refine (thas (HTT.out _ (HE.out _ HB8.out)) none [] 0 (Row.none_ rfl) (fun _ h => (nomatch h)) (by simp)).mono ?_
            rintro e w9 ⟨rfl, hb9⟩
            rw [show ([] : List Int).all (has t) = true from rfl]
            have HB9 := Lib.hid (HB8.out.trans (hb9.mono HB8.out.size))
            clear hb9 q0 q1 qi
            go_wp2_with (fail)
            refine (awake_any w9).mono ?_
            rintro e w10 ⟨rfl, hb10⟩
            have HB10 := Lib.hid (HB9.out.trans (hb10.mono HB9.out.size))
            clear hb10
            go_wp2_with (fail)
            go_ret
            exact ⟨rfl, HBA.out.trans (HB10.out.mono HBA.out.size)⟩
end Go.Proofs.Ytjnccggfbjkecaa
