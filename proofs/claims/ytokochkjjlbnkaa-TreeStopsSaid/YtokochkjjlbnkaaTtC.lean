/-
  Layer 12: the law's play.is: has the tree just what the document's has?
-/
import Derived.Test.YtokochkjjlbnkaaTtA
import Derived.Test.YtokochkjjlbnkaaTsH
namespace Go.Proofs.Ytokochkjjlbnkaa
open Go.RowKit trm

theorem pair_eqs (x y : Int) (w : World) : (binOp .eql 79 (.agg #[.int .i64 x, .int .i64 y]) (.agg #[.int .i64 x, .int .i64 y])).run Try.prog w = .ok (.bool true) w := by
  obtain ⟨i, hi⟩ := Option.isSome_iff_exists.1 (show (Try.prog.info? 3).isSome = true by kernel_rfl)
  have hc : Try.prog.cellsOf 3 = 1 := by kernel_rfl
  have h := run_equalIn_array (P := Try.prog) w 9999 #[.int .i64 x, .int .i64 y] #[.int .i64 x, .int .i64 y] Try.underlying79 hi
  rw [hc] at h
  rw [run_eql_struct, h]
  simp [Op.eqItems, List.range, List.range.loop, part, go_sem]
theorem pair_nes (x y : Int) (w : World) : (binOp .neq 79 (.agg #[.int .i64 x, .int .i64 y]) (.agg #[.int .i64 x, .int .i64 y])).run Try.prog w = .ok (.bool false) w := by
  obtain ⟨i, hi⟩ := Option.isSome_iff_exists.1 (show (Try.prog.info? 3).isSome = true by kernel_rfl)
  have hc : Try.prog.cellsOf 3 = 1 := by kernel_rfl
  have h := run_equalIn_array (P := Try.prog) w 9999 #[.int .i64 x, .int .i64 y] #[.int .i64 x, .int .i64 y] Try.underlying79 hi
  rw [hc] at h
  rw [run_neq_struct, h]
  simp [Op.eqItems, List.range, List.range.loop, part, go_sem]
theorem pair_in (x y : Int) (w : World) : (Op.equalIn 10000 79 (.agg #[.int .i64 x, .int .i64 y]) (.agg #[.int .i64 x, .int .i64 y])).run Try.prog w = .ok true w := by
  obtain ⟨i, hi⟩ := Option.isSome_iff_exists.1 (show (Try.prog.info? 3).isSome = true by kernel_rfl)
  have hc : Try.prog.cellsOf 3 = 1 := by kernel_rfl
  have h := run_equalIn_array (P := Try.prog) w 9999 #[.int .i64 x, .int .i64 y] #[.int .i64 x, .int .i64 y] Try.underlying79 hi
  rw [hc] at h
  rw [h]
  simp [Op.eqItems, List.range, List.range.loop, part, go_sem]
/-- a slice of ints that holds l -/
def sayR (l : List Int) : regs.Say regs.bl := ⟨fun x w => ∃ A c, x = .slice A l.length c ∧ Row eI w A l, fun x w w' h hb => by
  obtain ⟨A, c, eu, hr⟩ := h
  exact ⟨A, c, eu, Row.below hr hb⟩⟩
def sayR1 (z : Int) : regs.Say regs.bl := ⟨fun x w => ∃ g, x = .slice (some ⟨g, 0, none⟩) 1 1 ∧ Row eI w (some ⟨g, 0, none⟩) [z], fun x w w' h hb => by
  obtain ⟨g, eu, hr⟩ := h
  exact ⟨g, eu, Row.below hr hb⟩⟩
theorem walkL_at {t : T} {k : Nat} (h : k < (trm.walk t 0).length) (h2 : k < (walkL t).length) : (walkL t)[k] = ((trm.walk t 0)[k], (depth t (trm.walk t 0)[k] : Int)) := by
  simp only [walkL, wd, List.getElem_map, depth_0]
  simp
theorem has_i64 {t : T} (ok : Ok t) {x : Int} (h : has t x = true) : I64 x := by
  rcases has_iff.1 h with rfl | h
  · exact ⟨by omega, by omega⟩
  · obtain ⟨p, hp⟩ := mem_ids.1 h
    have := ok.rng _ hp
    simp only at this
    unfold I64
    omega
section
variable {w : World} {g b : Nat} {s : Sh} {v : Value} {t : T}
set_option maxRecDepth 100000 in
set_option maxHeartbeats 4000000 in
theorem is_any (h : PlayAt w g b s v t) (hn : t.length ≤ 1000) :
    Calls Try.prog 12 #[.pointer (some ⟨g, 0, none⟩)] w fun e w' => e = .returned (.bool true) ∧ Below w.heap.size w w' := by
  obtain ⟨A, c, rfl, hdr, hdy⟩ := h.doc
  have ok := h.tree.ok
  have HP := Lib.hid h
  have HN := Lib.hid hn
  have HD : Hid (∀ W, Below w.heap.size w W → RRow W A t) := fun W hb => SRow.below hdr hb
  have HT : Hid (∀ W, Below w.heap.size w W → TreeAt W b s t) := fun W hb => h.tree.below hb
  have HW := Lib.hid (dwalk A t c ok (by omega) (t.length + 1) 0 w hdr (.inl rfl) (by omega))
  have HLW : Hid (∀ W, Below w.heap.size w W → Calls Try.prog 25 #[.pointer (some ⟨b, 0, none⟩)] W (LWalkQ t W)) := fun W hb => lwalk (h.tree.below hb) hn
  have HLEN : Hid (∀ W, Below w.heap.size w W → Calls Try.prog 33 #[.pointer (some ⟨b, 0, none⟩)] W fun e w' => e = .returned (.int .i64 (((trm.walk t 0).length : Nat) : Int)) ∧ Below W.heap.size W w') := fun W hb => by
    rw [walk_len ok]
    exact tlen (h.tree.below hb)
  have HX : Hid (∀ x ∈ trm.walk t 0, has t x = true) := fun x hx => (walk_all ok).1 hx
  have HL : Hid ((trm.walk t 0).length ≤ 1001) := by show _ ≤ _; rw [walk_len ok]; omega
  have HOK := Lib.hid ok
  have HXI : Hid (∀ x, has t x = true → I64 x) := fun x hx => has_i64 ok hx
  have HPC : Hid (∀ W, Below w.heap.size w W → W.cell? ⟨g, 0, none⟩ = some (.pointer (some ⟨b, 0, none⟩)) ∧ W.cell? ⟨g, 1, none⟩ = some (.slice A t.length c) ∧ g < W.heap.size) := fun W hb =>
    have := (HP.out.below hb).blk
    ⟨this.blk.cell 0, this.blk.cell 1, this.inside⟩
  unfold KidsQ at HW
  unfold LWalkQ at HLW
  obtain ⟨q0, q1, qi⟩ := HPC.out w (Below.refl _ _)
  clear h hn hdr hdy ok
  have HWL : Hid ((walkL t).length = (trm.walk t 0).length ∧ ∀ k (h : k < (trm.walk t 0).length) (h2 : k < (walkL t).length), (walkL t)[k] = ((trm.walk t 0)[k], (depth t (trm.walk t 0)[k] : Int))) := ⟨by simp [walkL, wd], fun k h h2 => walkL_at h h2⟩
  generalize trm.walk t 0 = LL at *
  generalize walkL t = LW at *
  go_enter Try.func12, Try.ntmps12
  go_wp2_with (fail)
  refine HW.out.mono ?_
  rintro e w1 ⟨v1, rfl, ho1, hb1⟩
  obtain ⟨A1, c1, rfl, _, _, hr1⟩ := IOwn.irow ho1
  have HB1 := Lib.hid hb1
  have HR1 := Lib.hid hr1
  clear ho1 hr1 HW
  obtain ⟨q0, q1, qi⟩ := HPC.out w1 hb1
  clear hb1
  go_wp2_with (fail)
  refine (HLW.out _ HB1.out).mono ?_
  rintro e w2 ⟨v2, rfl, ho2, hb2⟩
  obtain ⟨A2, c2, rfl, _, _, hr2⟩ := SOwn.row ho2 rcs_len
  have hb2' := HB1.out.trans (hb2.mono HB1.out.size)
  have HB2 := Lib.hid hb2'
  have HR2 := Lib.hid hr2
  have HRR : Hid (Row eI w2 A1 LL) := Row.below HR1.out hb2
  rw [HWL.out.1]
  clear ho2 hr2 HLW hb2 HR1 HB1 q0 q1 qi
  obtain ⟨q0, q1, qi⟩ := HPC.out w2 hb2'
  clear hb2'
  go_wp2_with (fail)
  refine (HLEN.out _ HB2.out).mono ?_
  rintro e w3 ⟨rfl, hb3⟩
  have hb3' := HB2.out.trans (hb3.mono HB2.out.size)
  have HB3 := Lib.hid hb3'
  have HR3 : Hid (Row eI w3 A1 LL) := Row.below HRR.out hb3
  have HS3 : Hid (RRow w3 A2 LW) := SRow.below HR2.out hb3
  clear hb3 hb3' HRR HR2 HB2 HLEN q0 q1 qi
  go_wp2_with (fail)
  go_loopw [34] (fun x wr => ∃ k : Nat, k ≤ LL.length ∧ x = .int .i64 k ∧ Hid (Below w3.heap.size w3 wr)) (fun x _ => LL.length - (intOf x).toNat)
  case atStart => exact ⟨0, Nat.zero_le _, rfl, Below.refl _ _⟩
  case round =>
    obtain ⟨k, hk, rfl, HB⟩ := hrel
    by_cases hlt : k < LL.length
    · have t1 : decide (k < LL.length) = true := by simpa using hlt
      have HLT := Lib.hid hlt
      have hkb : (k : Int) ≤ 10000 := by have := HL.out; omega
      obtain ⟨b1, o1, rA, k1'⟩ := HR3.out.in_ hlt
      subst rA
      have k1 := k1' _ HB.out
      clear k1'
      unfold eI at k1
      obtain ⟨b2, o2, rB, k2'⟩ := HS3.out.in_ (j := k) (by rw [HWL.out.1]; exact hlt)
      subst rB
      rw [HWL.out.2 k hlt] at k2'
      have HK2 := Lib.hid k2'
      have hx := HX.out _ (List.getElem_mem hlt)
      have hx2 := has_iff.1 hx
      clear k2'
      generalize LL[k] = x at *
      have HXX := Lib.hid (And.intro hx hx2)
      clear hx hx2
      have hxi : I64 x := HXI.out _ HXX.out.1
      have HWw : Hid (∀ W, regs.bl wr W → Below w.heap.size w W) := fun W hb => HB3.out.trans ((HB.out.trans (Below.mono hb HB.out.size)).mono HB3.out.size)
      have FC : Hid (∀ W, regs.bl wr W → (W.cell? ⟨g, 0, none⟩ = some (.pointer (some ⟨b, 0, none⟩)) ∧ W.cell? ⟨g, 1, none⟩ = some (.slice A t.length c) ∧ g < W.heap.size) ∧ W.cell? ⟨b2, o2 + k * 2, none⟩ = some (.int .i64 x) ∧ W.cell? ⟨b2, o2 + k * 2 + 1, none⟩ = some (.int .i64 (depth t x : Int))) := fun W hb =>
        ⟨HPC.out W (HWw.out W hb), HK2.out W (HB.out.trans (Below.mono hb HB.out.size))⟩
      have HC1 : Hid (∀ W, regs.bl wr W → Calls Try.prog 37 #[.slice A t.length c, .int .i64 x] W fun e w' => e = .returned (.int .i64 (depth t x : Nat)) ∧ Below W.heap.size W w') := fun W hb =>
        ddepth A t c HOK.out (by have := HN.out; omega) (depth t x) x W (HD.out W (HWw.out W hb)) HXX.out.2 (Nat.le_refl _)
      have HC2 : Hid (∀ W g9, regs.bl wr W → Row eI W (some ⟨g9, 0, none⟩) [x] → Calls Try.prog 16 #[.pointer (some ⟨b, 0, none⟩), .slice (some ⟨g9, 0, none⟩) 1 1] W fun e w' => e = .returned (.bool true) ∧ Below W.heap.size W w') := fun W g9 hb hr => by
        have h := thas (HT.out W (HWw.out W hb)) (some ⟨g9, 0, none⟩) [x] 1 hr (fun y hy => by rw [List.mem_singleton.1 hy]; exact hxi) (by simp)
        rw [show [x].all (has t) = true by simp [HXX.out.1]] at h
        exact h
      have HC3 : Hid (∀ W, regs.bl wr W → Calls Try.prog 18 #[.pointer (some ⟨b, 0, none⟩), .int .i64 x] W fun e w' => e = .returned (.int .i64 (par t x)) ∧ Below W.heap.size W w') := fun W hb => tparent (HT.out W (HWw.out W hb)) x hxi
      have HC4 : Hid (∀ W, regs.bl wr W → Calls Try.prog 23 #[.slice A t.length c, .int .i64 x] W fun e w' => e = .returned (.int .i64 (par t x)) ∧ Below W.heap.size W w') := fun W hb => dpar A t c x W (HD.out W (HWw.out W hb)) (by have := HN.out; omega)
      have HC5 : Hid (∀ W, regs.bl wr W → Calls Try.prog 19 #[.pointer (some ⟨b, 0, none⟩), .int .i64 x] W (KidsQ (kids t x) W)) := fun W hb => tkids (HT.out W (HWw.out W hb)) (by have := HN.out; omega) x hxi
      have HC6 : Hid (∀ W, regs.bl wr W → Calls Try.prog 38 #[.slice A t.length c, .int .i64 x] W (KidsQ (kids t x) W)) := fun W hb => dkids A t c x W (HD.out W (HWw.out W hb)) (by have := HN.out; omega)
      have HC7 : Hid (∀ W A8 c8 A9 c9, Row eI W A8 (kids t x) → Row eI W A9 (kids t x) → Calls Try.prog 22 #[.slice A8 (kids t x).length c8, .slice A9 (kids t x).length c9] W fun e w' => e = .returned (.bool true) ∧ Below W.heap.size W w') := fun W A8 c8 A9 c9 h1 h2 => by
        have hl : (kids t x).length ≤ 100000 := by have := kids_le t x; have := HN.out; omega
        have h := same_any A8 A9 (kids t x) (kids t x) c8 c9 W h1 h2 hl hl
        rw [decide_eq_true rfl] at h
        exact h
      unfold KidsQ at HC5 HC6
      clear hxi HWw HK2 HXX
      generalize ((depth t x : Nat) : Int) = D at *
      generalize par t x = PP at *
      generalize kids t x = KK at *
      go_wp2_with (fail)
      refine regs.wp_region_put (regs.bl) (regs.noJ) [39, 40, 41, 42, 43, 44, 45, 46, 47, 48, 49, 50, 51, 52, 53, 54, 55, 56, 57, 58, 59, 60, 61, 62, 63, 64, 65, 66, 67, 68, 69, 70, 71, 72, 73, 74, 75, 76, 77, 78, 79, 80, 81, 82, 83, 84, 85, 86, 87, 88, 89, 90, 91, 92] (by kernel_rfl) (by kernel_rfl) (fun _ => regs.bl_refl _) (regs.bl_trans) (fun i => (match i with
        | 0 => regs.Say.val _ (.slice (some ⟨b2, o2, none⟩) LL.length c2)
        | 1 => regs.Say.val _ (.int .i64 (k : Nat))
        | 2 => regs.Say.val _ (.pointer (some ⟨b2, o2 + k * 2, none⟩))
        | 3 => regs.Say.val _ (.agg #[.int .i64 x, .int .i64 D])
        | 4 => regs.Say.val _ (.int .i64 x)
        | 5 => regs.Say.val _ (.pointer (some ⟨g, 0, none⟩))
        | 6 => regs.Say.val _ (.pointer (some ⟨g, 0, none⟩))
        | 7 => regs.Say.val _ (.pointer (some ⟨g, 1, none⟩))
        | 8 => regs.Say.val _ (.slice A t.length c)
        | 9 => regs.Say.val _ (.int .i64 x)
        | 10 => regs.Say.val _ (.int .i64 D)
        | 11 => regs.Say.val _ (.agg #[.int .i64 x, .int .i64 D])
        | 12 => regs.Say.val _ (.bool false)
        | 13 => regs.Say.val _ (.bool false)
        | 14 => regs.Say.val _ (.pointer (some ⟨g, 0, none⟩))
        | 15 => regs.Say.val _ (.pointer (some ⟨g, 0, none⟩))
        | 16 => regs.Say.val _ (.pointer (some ⟨g, 0, none⟩))
        | 17 => regs.Say.val _ (.pointer (some ⟨b, 0, none⟩))
        | 18 => regs.Say.val _ (.int .i64 x)
        | 19 => sayR1 x
        | 20 => regs.Say.val _ (.bool true)
        | 21 => regs.Say.val _ (.bool false)
        | 22 => regs.Say.val _ (.bool false)
        | 23 => regs.Say.val _ (.bool false)
        | 24 => regs.Say.val _ (.pointer (some ⟨g, 0, none⟩))
        | 25 => regs.Say.val _ (.pointer (some ⟨g, 0, none⟩))
        | 26 => regs.Say.val _ (.pointer (some ⟨g, 0, none⟩))
        | 27 => regs.Say.val _ (.pointer (some ⟨b, 0, none⟩))
        | 28 => regs.Say.val _ (.int .i64 x)
        | 29 => regs.Say.val _ (.int .i64 PP)
        | 30 => regs.Say.val _ (.pointer (some ⟨g, 0, none⟩))
        | 31 => regs.Say.val _ (.pointer (some ⟨g, 0, none⟩))
        | 32 => regs.Say.val _ (.pointer (some ⟨g, 1, none⟩))
        | 33 => regs.Say.val _ (.slice A t.length c)
        | 34 => regs.Say.val _ (.int .i64 x)
        | 35 => regs.Say.val _ (.int .i64 PP)
        | 36 => regs.Say.val _ (.bool false)
        | 37 => regs.Say.val _ (.bool false)
        | 38 => regs.Say.val _ (.bool false)
        | 39 => regs.Say.val _ (.pointer (some ⟨g, 0, none⟩))
        | 40 => regs.Say.val _ (.pointer (some ⟨g, 0, none⟩))
        | 41 => regs.Say.val _ (.pointer (some ⟨g, 0, none⟩))
        | 42 => regs.Say.val _ (.pointer (some ⟨b, 0, none⟩))
        | 43 => regs.Say.val _ (.int .i64 x)
        | 44 => sayR KK
        | 45 => regs.Say.val _ (.pointer (some ⟨g, 0, none⟩))
        | 46 => regs.Say.val _ (.pointer (some ⟨g, 0, none⟩))
        | 47 => regs.Say.val _ (.pointer (some ⟨g, 1, none⟩))
        | 48 => regs.Say.val _ (.slice A t.length c)
        | 49 => regs.Say.val _ (.int .i64 x)
        | 50 => sayR KK
        | 51 => regs.Say.val _ (.bool true)
        | 52 => regs.Say.val _ (.bool false)
        | 53 => regs.Say.val _ (.bool false)
        | _ => regs.Say.any _ : regs.Say (regs.bl)).p) (fun _ => regs.Say.mono _) (by kernel_rfl) ((Below.refl _ _).drew) (regs.noJ_ok _ _) ⟨?_, ?_, ?_, ?_, ?_, ?_, ?_, ?_, ?_, ?_, ?_, ?_, ?_, ?_, ?_, ?_, ?_, ?_, ?_, ?_, ?_, ?_, ?_, ?_, ?_, ?_, ?_, ?_, ?_, ?_, ?_, ?_, ?_, ?_, ?_, ?_, ?_, ?_, ?_, ?_, ?_, ?_, ?_, ?_, ?_, ?_, ?_, ?_, ?_, ?_, ?_, ?_, ?_, ?_, trivial⟩ ?_
      · refine regs.StepOK.plain rfl fun L a w1 hh => ?_
        have h4 : a.tmps[4]?.getD undef = .slice (some ⟨b2, o2, none⟩) LL.length c2 := by rw [← Array.getD_eq_getD_getElem?]; exact hh.old 4 rfl
        have hJ := Lib.hid hh.st
        clear hh
        go_simp
        exact ⟨_, rfl, regs.bl_refl _, rfl, hJ.out⟩
      · refine regs.StepOK.plain rfl fun L a w1 hh => ?_
        have h5 : a.tmps[5]?.getD undef = .int .i64 (k : Nat) := by rw [← Array.getD_eq_getD_getElem?]; exact hh.old 5 rfl
        have hJ := Lib.hid hh.st
        clear hh
        go_simp
        exact ⟨_, rfl, regs.bl_refl _, rfl, hJ.out⟩
      · refine regs.StepOK.plain rfl fun L a w1 hh => ?_
        have h39 : a.tmps[39]?.getD undef = .slice (some ⟨b2, o2, none⟩) LL.length c2 := by rw [← Array.getD_eq_getD_getElem?]; exact hh.dep 0 39 (by kernel_rfl) (by kernel_rfl)
        have h40 : a.tmps[40]?.getD undef = .int .i64 (k : Nat) := by rw [← Array.getD_eq_getD_getElem?]; exact hh.dep 1 40 (by kernel_rfl) (by kernel_rfl)
        have hJ := Lib.hid hh.st
        clear hh
        go_simp
        exact ⟨_, rfl, regs.bl_refl _, rfl, hJ.out⟩
      · refine regs.StepOK.plain rfl fun L a w1 hh => ?_
        have h41 : a.tmps[41]?.getD undef = .pointer (some ⟨b2, o2 + k * 2, none⟩) := by rw [← Array.getD_eq_getD_getElem?]; exact hh.dep 2 41 (by kernel_rfl) (by kernel_rfl)
        obtain ⟨⟨p0, p1, pi⟩, k2, k3⟩ := FC.out _ hh.rel
        have hJ := Lib.hid hh.st
        clear hh
        go_simp
        exact ⟨_, rfl, regs.bl_refl _, rfl, hJ.out⟩
      · refine regs.StepOK.plain rfl fun L a w1 hh => ?_
        have h6 : a.tmps[6]?.getD undef = .int .i64 x := by rw [← Array.getD_eq_getD_getElem?]; exact hh.old 6 rfl
        have hJ := Lib.hid hh.st
        clear hh
        go_simp
        exact ⟨_, rfl, regs.bl_refl _, rfl, hJ.out⟩
      · refine regs.StepOK.plain rfl fun L a w1 hh => ?_
        have h0 : a.tmps[0]?.getD undef = .pointer (some ⟨g, 0, none⟩) := by rw [← Array.getD_eq_getD_getElem?]; exact hh.old 0 rfl
        have hJ := Lib.hid hh.st
        clear hh
        go_simp
        exact ⟨_, rfl, regs.bl_refl _, rfl, hJ.out⟩
      · refine regs.StepOK.plain rfl fun L a w1 hh => ?_
        have h44 : a.tmps[44]?.getD undef = .pointer (some ⟨g, 0, none⟩) := by rw [← Array.getD_eq_getD_getElem?]; exact hh.dep 5 44 (by kernel_rfl) (by kernel_rfl)
        obtain ⟨⟨p0, p1, pi⟩, k2, k3⟩ := FC.out _ hh.rel
        have hJ := Lib.hid hh.st
        clear hh
        go_simp
        exact ⟨_, rfl, regs.bl_refl _, rfl, hJ.out⟩
      · refine regs.StepOK.plain rfl fun L a w1 hh => ?_
        have h45 : a.tmps[45]?.getD undef = .pointer (some ⟨g, 0, none⟩) := by rw [← Array.getD_eq_getD_getElem?]; exact hh.dep 6 45 (by kernel_rfl) (by kernel_rfl)
        obtain ⟨⟨p0, p1, pi⟩, k2, k3⟩ := FC.out _ hh.rel
        have hJ := Lib.hid hh.st
        clear hh
        go_simp
        exact ⟨_, rfl, regs.bl_refl _, rfl, hJ.out⟩
      · refine regs.StepOK.plain rfl fun L a w1 hh => ?_
        have h46 : a.tmps[46]?.getD undef = .pointer (some ⟨g, 1, none⟩) := by rw [← Array.getD_eq_getD_getElem?]; exact hh.dep 7 46 (by kernel_rfl) (by kernel_rfl)
        obtain ⟨⟨p0, p1, pi⟩, k2, k3⟩ := FC.out _ hh.rel
        have hJ := Lib.hid hh.st
        clear hh
        go_simp
        exact ⟨_, rfl, regs.bl_refl _, rfl, hJ.out⟩
      · refine regs.StepOK.plain rfl fun L a w1 hh => ?_
        have h6 : a.tmps[6]?.getD undef = .int .i64 x := by rw [← Array.getD_eq_getD_getElem?]; exact hh.old 6 rfl
        have hJ := Lib.hid hh.st
        clear hh
        go_simp
        exact ⟨_, rfl, regs.bl_refl _, rfl, hJ.out⟩
      · refine regs.StepOK.plain rfl fun L a w1 hh => ?_
        have h47 : a.tmps[47]?.getD undef = .slice A t.length c := by rw [← Array.getD_eq_getD_getElem?]; exact hh.dep 8 47 (by kernel_rfl) (by kernel_rfl)
        have h48 : a.tmps[48]?.getD undef = .int .i64 x := by rw [← Array.getD_eq_getD_getElem?]; exact hh.dep 9 48 (by kernel_rfl) (by kernel_rfl)
        have hC := Lib.hid (HC1.out _ hh.rel)
        have hJ := Lib.hid hh.st
        clear hh
        go_simp
        refine hC.out.mono ?_
        rintro e w9 ⟨rfl, hb9⟩
        exact ⟨_, rfl, hb9, rfl, hJ.out⟩
      · refine regs.StepOK.plain rfl fun L a w1 hh => ?_
        have h43 : a.tmps[43]?.getD undef = .int .i64 x := by rw [← Array.getD_eq_getD_getElem?]; exact hh.dep 4 43 (by kernel_rfl) (by kernel_rfl)
        have h49 : a.tmps[49]?.getD undef = .int .i64 D := by rw [← Array.getD_eq_getD_getElem?]; exact hh.dep 10 49 (by kernel_rfl) (by kernel_rfl)
        have hJ := Lib.hid hh.st
        clear hh
        go_simp
        exact ⟨_, rfl, regs.bl_refl _, rfl, hJ.out⟩
      · refine regs.StepOK.plain rfl fun L a w1 hh => ?_
        have h42 : a.tmps[42]?.getD undef = .agg #[.int .i64 x, .int .i64 D] := by rw [← Array.getD_eq_getD_getElem?]; exact hh.dep 3 42 (by kernel_rfl) (by kernel_rfl)
        have h50 : a.tmps[50]?.getD undef = .agg #[.int .i64 x, .int .i64 D] := by rw [← Array.getD_eq_getD_getElem?]; exact hh.dep 11 50 (by kernel_rfl) (by kernel_rfl)
        have pq := pair_in x D w1
        have hJ := Lib.hid hh.st
        clear hh
        go_simp
        exact ⟨_, rfl, regs.bl_refl _, rfl, hJ.out⟩
      · refine regs.StepOK.plain rfl fun L a w1 hh => ?_
        have h51 : a.tmps[51]?.getD undef = .bool false := by rw [← Array.getD_eq_getD_getElem?]; exact hh.dep 12 51 (by kernel_rfl) (by kernel_rfl)
        have hJ := Lib.hid hh.st
        clear hh
        go_simp
        exact ⟨_, rfl, regs.bl_refl _, rfl, hJ.out⟩
      · refine regs.StepOK.yes 13 false 52 rfl rfl (fun L a w1 hh => hh.dep 13 52 (by kernel_rfl) (by kernel_rfl)) fun L a w1 hh => ?_
        have h0 : a.tmps[0]?.getD undef = .pointer (some ⟨g, 0, none⟩) := by rw [← Array.getD_eq_getD_getElem?]; exact hh.old 0 rfl
        have hJ := Lib.hid hh.st
        clear hh
        go_simp
        exact ⟨_, rfl, regs.bl_refl _, rfl, hJ.out⟩
      · refine regs.StepOK.yes 13 false 52 rfl rfl (fun L a w1 hh => hh.dep 13 52 (by kernel_rfl) (by kernel_rfl)) fun L a w1 hh => ?_
        have h53 : a.tmps[53]?.getD undef = .pointer (some ⟨g, 0, none⟩) := by rw [← Array.getD_eq_getD_getElem?]; exact hh.dep 14 53 (by kernel_rfl) (by kernel_rfl)
        obtain ⟨⟨p0, p1, pi⟩, k2, k3⟩ := FC.out _ hh.rel
        have hJ := Lib.hid hh.st
        clear hh
        go_simp
        exact ⟨_, rfl, regs.bl_refl _, rfl, hJ.out⟩
      · refine regs.StepOK.yes 13 false 52 rfl rfl (fun L a w1 hh => hh.dep 13 52 (by kernel_rfl) (by kernel_rfl)) fun L a w1 hh => ?_
        have h54 : a.tmps[54]?.getD undef = .pointer (some ⟨g, 0, none⟩) := by rw [← Array.getD_eq_getD_getElem?]; exact hh.dep 15 54 (by kernel_rfl) (by kernel_rfl)
        obtain ⟨⟨p0, p1, pi⟩, k2, k3⟩ := FC.out _ hh.rel
        have hJ := Lib.hid hh.st
        clear hh
        go_simp
        exact ⟨_, rfl, regs.bl_refl _, rfl, hJ.out⟩
      · refine regs.StepOK.yes 13 false 52 rfl rfl (fun L a w1 hh => hh.dep 13 52 (by kernel_rfl) (by kernel_rfl)) fun L a w1 hh => ?_
        have h55 : a.tmps[55]?.getD undef = .pointer (some ⟨g, 0, none⟩) := by rw [← Array.getD_eq_getD_getElem?]; exact hh.dep 16 55 (by kernel_rfl) (by kernel_rfl)
        obtain ⟨⟨p0, p1, pi⟩, k2, k3⟩ := FC.out _ hh.rel
        have hJ := Lib.hid hh.st
        clear hh
        go_simp
        exact ⟨_, rfl, regs.bl_refl _, rfl, hJ.out⟩
      · refine regs.StepOK.yes 13 false 52 rfl rfl (fun L a w1 hh => hh.dep 13 52 (by kernel_rfl) (by kernel_rfl)) fun L a w1 hh => ?_
        have h6 : a.tmps[6]?.getD undef = .int .i64 x := by rw [← Array.getD_eq_getD_getElem?]; exact hh.old 6 rfl
        have hJ := Lib.hid hh.st
        clear hh
        go_simp
        exact ⟨_, rfl, regs.bl_refl _, rfl, hJ.out⟩
      · refine regs.StepOK.yes 13 false 52 rfl rfl (fun L a w1 hh => hh.dep 13 52 (by kernel_rfl) (by kernel_rfl)) fun L a w1 hh => ?_
        have h57 : a.tmps[57]?.getD undef = .int .i64 x := by rw [← Array.getD_eq_getD_getElem?]; exact hh.dep 18 57 (by kernel_rfl) (by kernel_rfl)
        have hJ := Lib.hid hh.st
        clear hh
        go_simp
        exact ⟨_, rfl, (Below.refl _ _).alloc (Nat.le_refl _) _, ⟨_, rfl, row_new' (enc := eI) w1 [x] 3 rfl⟩, hJ.out⟩
      · refine regs.StepOK.yes 13 false 52 rfl rfl (fun L a w1 hh => hh.dep 13 52 (by kernel_rfl) (by kernel_rfl)) fun L a w1 hh => ?_
        have h56 : a.tmps[56]?.getD undef = .pointer (some ⟨b, 0, none⟩) := by rw [← Array.getD_eq_getD_getElem?]; exact hh.dep 17 56 (by kernel_rfl) (by kernel_rfl)
        obtain ⟨g9, e9, hr9⟩ := hh.dep 19 58 (by kernel_rfl) (by kernel_rfl)
        have h58 : a.tmps[58]?.getD undef = .slice (some ⟨g9, 0, none⟩) 1 1 := by rw [← Array.getD_eq_getD_getElem?]; exact e9
        clear e9
        have hC := Lib.hid (HC2.out _ g9 hh.rel hr9)
        clear hr9
        have hJ := Lib.hid hh.st
        clear hh
        go_simp
        refine hC.out.mono ?_
        rintro e w9 ⟨rfl, hb9⟩
        exact ⟨_, rfl, hb9, rfl, hJ.out⟩
      · refine regs.StepOK.yes 13 false 52 rfl rfl (fun L a w1 hh => hh.dep 13 52 (by kernel_rfl) (by kernel_rfl)) fun L a w1 hh => ?_
        have h59 : a.tmps[59]?.getD undef = .bool true := by rw [← Array.getD_eq_getD_getElem?]; exact hh.dep 20 59 (by kernel_rfl) (by kernel_rfl)
        have hJ := Lib.hid hh.st
        clear hh
        go_simp
        exact ⟨_, rfl, regs.bl_refl _, rfl, hJ.out⟩
      · refine regs.StepOK.plain rfl fun L a w1 hh => ?_
        have h52 : a.tmps[52]?.getD undef = .bool false := by rw [← Array.getD_eq_getD_getElem?]; exact hh.dep 13 52 (by kernel_rfl) (by kernel_rfl)
        have h60 : a.tmps[60]?.getD undef = .bool false := by rw [← Array.getD_eq_getD_getElem?]; exact hh.dep 21 60 (by kernel_rfl) (by kernel_rfl)
        have hJ := Lib.hid hh.st
        clear hh
        go_simp
        exact ⟨_, rfl, regs.bl_refl _, rfl, hJ.out⟩
      · refine regs.StepOK.plain rfl fun L a w1 hh => ?_
        have h61 : a.tmps[61]?.getD undef = .bool false := by rw [← Array.getD_eq_getD_getElem?]; exact hh.dep 22 61 (by kernel_rfl) (by kernel_rfl)
        have hJ := Lib.hid hh.st
        clear hh
        go_simp
        exact ⟨_, rfl, regs.bl_refl _, rfl, hJ.out⟩
      · refine regs.StepOK.yes 23 false 62 rfl rfl (fun L a w1 hh => hh.dep 23 62 (by kernel_rfl) (by kernel_rfl)) fun L a w1 hh => ?_
        have h0 : a.tmps[0]?.getD undef = .pointer (some ⟨g, 0, none⟩) := by rw [← Array.getD_eq_getD_getElem?]; exact hh.old 0 rfl
        have hJ := Lib.hid hh.st
        clear hh
        go_simp
        exact ⟨_, rfl, regs.bl_refl _, rfl, hJ.out⟩
      · refine regs.StepOK.yes 23 false 62 rfl rfl (fun L a w1 hh => hh.dep 23 62 (by kernel_rfl) (by kernel_rfl)) fun L a w1 hh => ?_
        have h63 : a.tmps[63]?.getD undef = .pointer (some ⟨g, 0, none⟩) := by rw [← Array.getD_eq_getD_getElem?]; exact hh.dep 24 63 (by kernel_rfl) (by kernel_rfl)
        obtain ⟨⟨p0, p1, pi⟩, k2, k3⟩ := FC.out _ hh.rel
        have hJ := Lib.hid hh.st
        clear hh
        go_simp
        exact ⟨_, rfl, regs.bl_refl _, rfl, hJ.out⟩
      · refine regs.StepOK.yes 23 false 62 rfl rfl (fun L a w1 hh => hh.dep 23 62 (by kernel_rfl) (by kernel_rfl)) fun L a w1 hh => ?_
        have h64 : a.tmps[64]?.getD undef = .pointer (some ⟨g, 0, none⟩) := by rw [← Array.getD_eq_getD_getElem?]; exact hh.dep 25 64 (by kernel_rfl) (by kernel_rfl)
        obtain ⟨⟨p0, p1, pi⟩, k2, k3⟩ := FC.out _ hh.rel
        have hJ := Lib.hid hh.st
        clear hh
        go_simp
        exact ⟨_, rfl, regs.bl_refl _, rfl, hJ.out⟩
      · refine regs.StepOK.yes 23 false 62 rfl rfl (fun L a w1 hh => hh.dep 23 62 (by kernel_rfl) (by kernel_rfl)) fun L a w1 hh => ?_
        have h65 : a.tmps[65]?.getD undef = .pointer (some ⟨g, 0, none⟩) := by rw [← Array.getD_eq_getD_getElem?]; exact hh.dep 26 65 (by kernel_rfl) (by kernel_rfl)
        obtain ⟨⟨p0, p1, pi⟩, k2, k3⟩ := FC.out _ hh.rel
        have hJ := Lib.hid hh.st
        clear hh
        go_simp
        exact ⟨_, rfl, regs.bl_refl _, rfl, hJ.out⟩
      · refine regs.StepOK.yes 23 false 62 rfl rfl (fun L a w1 hh => hh.dep 23 62 (by kernel_rfl) (by kernel_rfl)) fun L a w1 hh => ?_
        have h6 : a.tmps[6]?.getD undef = .int .i64 x := by rw [← Array.getD_eq_getD_getElem?]; exact hh.old 6 rfl
        have hJ := Lib.hid hh.st
        clear hh
        go_simp
        exact ⟨_, rfl, regs.bl_refl _, rfl, hJ.out⟩
      · refine regs.StepOK.yes 23 false 62 rfl rfl (fun L a w1 hh => hh.dep 23 62 (by kernel_rfl) (by kernel_rfl)) fun L a w1 hh => ?_
        have h66 : a.tmps[66]?.getD undef = .pointer (some ⟨b, 0, none⟩) := by rw [← Array.getD_eq_getD_getElem?]; exact hh.dep 27 66 (by kernel_rfl) (by kernel_rfl)
        have h67 : a.tmps[67]?.getD undef = .int .i64 x := by rw [← Array.getD_eq_getD_getElem?]; exact hh.dep 28 67 (by kernel_rfl) (by kernel_rfl)
        have hC := Lib.hid (HC3.out _ hh.rel)
        have hJ := Lib.hid hh.st
        clear hh
        go_simp
        refine hC.out.mono ?_
        rintro e w9 ⟨rfl, hb9⟩
        exact ⟨_, rfl, hb9, rfl, hJ.out⟩
      · refine regs.StepOK.yes 23 false 62 rfl rfl (fun L a w1 hh => hh.dep 23 62 (by kernel_rfl) (by kernel_rfl)) fun L a w1 hh => ?_
        have h0 : a.tmps[0]?.getD undef = .pointer (some ⟨g, 0, none⟩) := by rw [← Array.getD_eq_getD_getElem?]; exact hh.old 0 rfl
        have hJ := Lib.hid hh.st
        clear hh
        go_simp
        exact ⟨_, rfl, regs.bl_refl _, rfl, hJ.out⟩
      · refine regs.StepOK.yes 23 false 62 rfl rfl (fun L a w1 hh => hh.dep 23 62 (by kernel_rfl) (by kernel_rfl)) fun L a w1 hh => ?_
        have h69 : a.tmps[69]?.getD undef = .pointer (some ⟨g, 0, none⟩) := by rw [← Array.getD_eq_getD_getElem?]; exact hh.dep 30 69 (by kernel_rfl) (by kernel_rfl)
        obtain ⟨⟨p0, p1, pi⟩, k2, k3⟩ := FC.out _ hh.rel
        have hJ := Lib.hid hh.st
        clear hh
        go_simp
        exact ⟨_, rfl, regs.bl_refl _, rfl, hJ.out⟩
      · refine regs.StepOK.yes 23 false 62 rfl rfl (fun L a w1 hh => hh.dep 23 62 (by kernel_rfl) (by kernel_rfl)) fun L a w1 hh => ?_
        have h70 : a.tmps[70]?.getD undef = .pointer (some ⟨g, 0, none⟩) := by rw [← Array.getD_eq_getD_getElem?]; exact hh.dep 31 70 (by kernel_rfl) (by kernel_rfl)
        obtain ⟨⟨p0, p1, pi⟩, k2, k3⟩ := FC.out _ hh.rel
        have hJ := Lib.hid hh.st
        clear hh
        go_simp
        exact ⟨_, rfl, regs.bl_refl _, rfl, hJ.out⟩
      · refine regs.StepOK.yes 23 false 62 rfl rfl (fun L a w1 hh => hh.dep 23 62 (by kernel_rfl) (by kernel_rfl)) fun L a w1 hh => ?_
        have h71 : a.tmps[71]?.getD undef = .pointer (some ⟨g, 1, none⟩) := by rw [← Array.getD_eq_getD_getElem?]; exact hh.dep 32 71 (by kernel_rfl) (by kernel_rfl)
        obtain ⟨⟨p0, p1, pi⟩, k2, k3⟩ := FC.out _ hh.rel
        have hJ := Lib.hid hh.st
        clear hh
        go_simp
        exact ⟨_, rfl, regs.bl_refl _, rfl, hJ.out⟩
      · refine regs.StepOK.yes 23 false 62 rfl rfl (fun L a w1 hh => hh.dep 23 62 (by kernel_rfl) (by kernel_rfl)) fun L a w1 hh => ?_
        have h6 : a.tmps[6]?.getD undef = .int .i64 x := by rw [← Array.getD_eq_getD_getElem?]; exact hh.old 6 rfl
        have hJ := Lib.hid hh.st
        clear hh
        go_simp
        exact ⟨_, rfl, regs.bl_refl _, rfl, hJ.out⟩
      · refine regs.StepOK.yes 23 false 62 rfl rfl (fun L a w1 hh => hh.dep 23 62 (by kernel_rfl) (by kernel_rfl)) fun L a w1 hh => ?_
        have h72 : a.tmps[72]?.getD undef = .slice A t.length c := by rw [← Array.getD_eq_getD_getElem?]; exact hh.dep 33 72 (by kernel_rfl) (by kernel_rfl)
        have h73 : a.tmps[73]?.getD undef = .int .i64 x := by rw [← Array.getD_eq_getD_getElem?]; exact hh.dep 34 73 (by kernel_rfl) (by kernel_rfl)
        have hC := Lib.hid (HC4.out _ hh.rel)
        have hJ := Lib.hid hh.st
        clear hh
        go_simp
        refine hC.out.mono ?_
        rintro e w9 ⟨rfl, hb9⟩
        exact ⟨_, rfl, hb9, rfl, hJ.out⟩
      · refine regs.StepOK.yes 23 false 62 rfl rfl (fun L a w1 hh => hh.dep 23 62 (by kernel_rfl) (by kernel_rfl)) fun L a w1 hh => ?_
        have h68 : a.tmps[68]?.getD undef = .int .i64 PP := by rw [← Array.getD_eq_getD_getElem?]; exact hh.dep 29 68 (by kernel_rfl) (by kernel_rfl)
        have h74 : a.tmps[74]?.getD undef = .int .i64 PP := by rw [← Array.getD_eq_getD_getElem?]; exact hh.dep 35 74 (by kernel_rfl) (by kernel_rfl)
        have hJ := Lib.hid hh.st
        clear hh
        go_simp
        exact ⟨_, rfl, regs.bl_refl _, rfl, hJ.out⟩
      · refine regs.StepOK.plain rfl fun L a w1 hh => ?_
        have h62 : a.tmps[62]?.getD undef = .bool false := by rw [← Array.getD_eq_getD_getElem?]; exact hh.dep 23 62 (by kernel_rfl) (by kernel_rfl)
        have h75 : a.tmps[75]?.getD undef = .bool false := by rw [← Array.getD_eq_getD_getElem?]; exact hh.dep 36 75 (by kernel_rfl) (by kernel_rfl)
        have hJ := Lib.hid hh.st
        clear hh
        go_simp
        exact ⟨_, rfl, regs.bl_refl _, rfl, hJ.out⟩
      · refine regs.StepOK.plain rfl fun L a w1 hh => ?_
        have h76 : a.tmps[76]?.getD undef = .bool false := by rw [← Array.getD_eq_getD_getElem?]; exact hh.dep 37 76 (by kernel_rfl) (by kernel_rfl)
        have hJ := Lib.hid hh.st
        clear hh
        go_simp
        exact ⟨_, rfl, regs.bl_refl _, rfl, hJ.out⟩
      · refine regs.StepOK.yes 38 false 77 rfl rfl (fun L a w1 hh => hh.dep 38 77 (by kernel_rfl) (by kernel_rfl)) fun L a w1 hh => ?_
        have h0 : a.tmps[0]?.getD undef = .pointer (some ⟨g, 0, none⟩) := by rw [← Array.getD_eq_getD_getElem?]; exact hh.old 0 rfl
        have hJ := Lib.hid hh.st
        clear hh
        go_simp
        exact ⟨_, rfl, regs.bl_refl _, rfl, hJ.out⟩
      · refine regs.StepOK.yes 38 false 77 rfl rfl (fun L a w1 hh => hh.dep 38 77 (by kernel_rfl) (by kernel_rfl)) fun L a w1 hh => ?_
        have h78 : a.tmps[78]?.getD undef = .pointer (some ⟨g, 0, none⟩) := by rw [← Array.getD_eq_getD_getElem?]; exact hh.dep 39 78 (by kernel_rfl) (by kernel_rfl)
        obtain ⟨⟨p0, p1, pi⟩, k2, k3⟩ := FC.out _ hh.rel
        have hJ := Lib.hid hh.st
        clear hh
        go_simp
        exact ⟨_, rfl, regs.bl_refl _, rfl, hJ.out⟩
      · refine regs.StepOK.yes 38 false 77 rfl rfl (fun L a w1 hh => hh.dep 38 77 (by kernel_rfl) (by kernel_rfl)) fun L a w1 hh => ?_
        have h79 : a.tmps[79]?.getD undef = .pointer (some ⟨g, 0, none⟩) := by rw [← Array.getD_eq_getD_getElem?]; exact hh.dep 40 79 (by kernel_rfl) (by kernel_rfl)
        obtain ⟨⟨p0, p1, pi⟩, k2, k3⟩ := FC.out _ hh.rel
        have hJ := Lib.hid hh.st
        clear hh
        go_simp
        exact ⟨_, rfl, regs.bl_refl _, rfl, hJ.out⟩
      · refine regs.StepOK.yes 38 false 77 rfl rfl (fun L a w1 hh => hh.dep 38 77 (by kernel_rfl) (by kernel_rfl)) fun L a w1 hh => ?_
        have h80 : a.tmps[80]?.getD undef = .pointer (some ⟨g, 0, none⟩) := by rw [← Array.getD_eq_getD_getElem?]; exact hh.dep 41 80 (by kernel_rfl) (by kernel_rfl)
        obtain ⟨⟨p0, p1, pi⟩, k2, k3⟩ := FC.out _ hh.rel
        have hJ := Lib.hid hh.st
        clear hh
        go_simp
        exact ⟨_, rfl, regs.bl_refl _, rfl, hJ.out⟩
      · refine regs.StepOK.yes 38 false 77 rfl rfl (fun L a w1 hh => hh.dep 38 77 (by kernel_rfl) (by kernel_rfl)) fun L a w1 hh => ?_
        have h6 : a.tmps[6]?.getD undef = .int .i64 x := by rw [← Array.getD_eq_getD_getElem?]; exact hh.old 6 rfl
        have hJ := Lib.hid hh.st
        clear hh
        go_simp
        exact ⟨_, rfl, regs.bl_refl _, rfl, hJ.out⟩
      · refine regs.StepOK.yes 38 false 77 rfl rfl (fun L a w1 hh => hh.dep 38 77 (by kernel_rfl) (by kernel_rfl)) fun L a w1 hh => ?_
        have h81 : a.tmps[81]?.getD undef = .pointer (some ⟨b, 0, none⟩) := by rw [← Array.getD_eq_getD_getElem?]; exact hh.dep 42 81 (by kernel_rfl) (by kernel_rfl)
        have h82 : a.tmps[82]?.getD undef = .int .i64 x := by rw [← Array.getD_eq_getD_getElem?]; exact hh.dep 43 82 (by kernel_rfl) (by kernel_rfl)
        have hC := Lib.hid (HC5.out _ hh.rel)
        have hJ := Lib.hid hh.st
        clear hh
        go_simp
        refine hC.out.mono ?_
        rintro e w9 ⟨v9, rfl, ho9, hb9⟩
        obtain ⟨A9, c9, e9, -, -, hr9⟩ := IOwn.irow ho9
        exact ⟨_, rfl, hb9, ⟨A9, c9, e9, hr9⟩, hJ.out⟩
      · refine regs.StepOK.yes 38 false 77 rfl rfl (fun L a w1 hh => hh.dep 38 77 (by kernel_rfl) (by kernel_rfl)) fun L a w1 hh => ?_
        have h0 : a.tmps[0]?.getD undef = .pointer (some ⟨g, 0, none⟩) := by rw [← Array.getD_eq_getD_getElem?]; exact hh.old 0 rfl
        have hJ := Lib.hid hh.st
        clear hh
        go_simp
        exact ⟨_, rfl, regs.bl_refl _, rfl, hJ.out⟩
      · refine regs.StepOK.yes 38 false 77 rfl rfl (fun L a w1 hh => hh.dep 38 77 (by kernel_rfl) (by kernel_rfl)) fun L a w1 hh => ?_
        have h84 : a.tmps[84]?.getD undef = .pointer (some ⟨g, 0, none⟩) := by rw [← Array.getD_eq_getD_getElem?]; exact hh.dep 45 84 (by kernel_rfl) (by kernel_rfl)
        obtain ⟨⟨p0, p1, pi⟩, k2, k3⟩ := FC.out _ hh.rel
        have hJ := Lib.hid hh.st
        clear hh
        go_simp
        exact ⟨_, rfl, regs.bl_refl _, rfl, hJ.out⟩
      · refine regs.StepOK.yes 38 false 77 rfl rfl (fun L a w1 hh => hh.dep 38 77 (by kernel_rfl) (by kernel_rfl)) fun L a w1 hh => ?_
        have h85 : a.tmps[85]?.getD undef = .pointer (some ⟨g, 0, none⟩) := by rw [← Array.getD_eq_getD_getElem?]; exact hh.dep 46 85 (by kernel_rfl) (by kernel_rfl)
        obtain ⟨⟨p0, p1, pi⟩, k2, k3⟩ := FC.out _ hh.rel
        have hJ := Lib.hid hh.st
        clear hh
        go_simp
        exact ⟨_, rfl, regs.bl_refl _, rfl, hJ.out⟩
      · refine regs.StepOK.yes 38 false 77 rfl rfl (fun L a w1 hh => hh.dep 38 77 (by kernel_rfl) (by kernel_rfl)) fun L a w1 hh => ?_
        have h86 : a.tmps[86]?.getD undef = .pointer (some ⟨g, 1, none⟩) := by rw [← Array.getD_eq_getD_getElem?]; exact hh.dep 47 86 (by kernel_rfl) (by kernel_rfl)
        obtain ⟨⟨p0, p1, pi⟩, k2, k3⟩ := FC.out _ hh.rel
        have hJ := Lib.hid hh.st
        clear hh
        go_simp
        exact ⟨_, rfl, regs.bl_refl _, rfl, hJ.out⟩
      · refine regs.StepOK.yes 38 false 77 rfl rfl (fun L a w1 hh => hh.dep 38 77 (by kernel_rfl) (by kernel_rfl)) fun L a w1 hh => ?_
        have h6 : a.tmps[6]?.getD undef = .int .i64 x := by rw [← Array.getD_eq_getD_getElem?]; exact hh.old 6 rfl
        have hJ := Lib.hid hh.st
        clear hh
        go_simp
        exact ⟨_, rfl, regs.bl_refl _, rfl, hJ.out⟩
      · refine regs.StepOK.yes 38 false 77 rfl rfl (fun L a w1 hh => hh.dep 38 77 (by kernel_rfl) (by kernel_rfl)) fun L a w1 hh => ?_
        have h87 : a.tmps[87]?.getD undef = .slice A t.length c := by rw [← Array.getD_eq_getD_getElem?]; exact hh.dep 48 87 (by kernel_rfl) (by kernel_rfl)
        have h88 : a.tmps[88]?.getD undef = .int .i64 x := by rw [← Array.getD_eq_getD_getElem?]; exact hh.dep 49 88 (by kernel_rfl) (by kernel_rfl)
        have hC := Lib.hid (HC6.out _ hh.rel)
        have hJ := Lib.hid hh.st
        clear hh
        go_simp
        refine hC.out.mono ?_
        rintro e w9 ⟨v9, rfl, ho9, hb9⟩
        obtain ⟨A9, c9, e9, -, -, hr9⟩ := IOwn.irow ho9
        exact ⟨_, rfl, hb9, ⟨A9, c9, e9, hr9⟩, hJ.out⟩
      · refine regs.StepOK.yes 38 false 77 rfl rfl (fun L a w1 hh => hh.dep 38 77 (by kernel_rfl) (by kernel_rfl)) fun L a w1 hh => ?_
        obtain ⟨A8, c8, e8, hr8⟩ := hh.dep 44 83 (by kernel_rfl) (by kernel_rfl)
        have h83 : a.tmps[83]?.getD undef = .slice A8 KK.length c8 := by rw [← Array.getD_eq_getD_getElem?]; exact e8
        clear e8
        obtain ⟨A9, c9, e9, hr9⟩ := hh.dep 50 89 (by kernel_rfl) (by kernel_rfl)
        have h89 : a.tmps[89]?.getD undef = .slice A9 KK.length c9 := by rw [← Array.getD_eq_getD_getElem?]; exact e9
        clear e9
        have hC := Lib.hid (HC7.out w1 A8 c8 A9 c9 hr8 hr9)
        clear hr8 hr9
        have hJ := Lib.hid hh.st
        clear hh
        go_simp
        refine hC.out.mono ?_
        rintro e w9 ⟨rfl, hb9⟩
        exact ⟨_, rfl, hb9, rfl, hJ.out⟩
      · refine regs.StepOK.yes 38 false 77 rfl rfl (fun L a w1 hh => hh.dep 38 77 (by kernel_rfl) (by kernel_rfl)) fun L a w1 hh => ?_
        have h90 : a.tmps[90]?.getD undef = .bool true := by rw [← Array.getD_eq_getD_getElem?]; exact hh.dep 51 90 (by kernel_rfl) (by kernel_rfl)
        have hJ := Lib.hid hh.st
        clear hh
        go_simp
        exact ⟨_, rfl, regs.bl_refl _, rfl, hJ.out⟩
      · refine regs.StepOK.plain rfl fun L a w1 hh => ?_
        have h77 : a.tmps[77]?.getD undef = .bool false := by rw [← Array.getD_eq_getD_getElem?]; exact hh.dep 38 77 (by kernel_rfl) (by kernel_rfl)
        have h91 : a.tmps[91]?.getD undef = .bool false := by rw [← Array.getD_eq_getD_getElem?]; exact hh.dep 52 91 (by kernel_rfl) (by kernel_rfl)
        have hJ := Lib.hid hh.st
        clear hh
        go_simp
        exact ⟨_, rfl, regs.bl_refl _, rfl, hJ.out⟩
      intro L' w4 val hL hJ hR hv
      have h92 : val 92 = .bool false := hv 53 92 (by kernel_rfl)
      have HR4 : Hid (Below wr.heap.size wr w4) := hR
      clear hv hL hJ hR FC
      simp only [regs.putAll, List.map_cons, List.map_nil, h92]
      simp only [Act.put, List.setIfInBounds_toArray, List.set_cons_zero, List.set_cons_succ]
      clear h92
      generalize val 39 = y39 at *
      generalize val 40 = y40 at *
      generalize val 41 = y41 at *
      generalize val 42 = y42 at *
      generalize val 43 = y43 at *
      generalize val 44 = y44 at *
      generalize val 45 = y45 at *
      generalize val 46 = y46 at *
      generalize val 47 = y47 at *
      generalize val 48 = y48 at *
      generalize val 49 = y49 at *
      generalize val 50 = y50 at *
      generalize val 51 = y51 at *
      generalize val 52 = y52 at *
      generalize val 53 = y53 at *
      generalize val 54 = y54 at *
      generalize val 55 = y55 at *
      generalize val 56 = y56 at *
      generalize val 57 = y57 at *
      generalize val 58 = y58 at *
      generalize val 59 = y59 at *
      generalize val 60 = y60 at *
      generalize val 61 = y61 at *
      generalize val 62 = y62 at *
      generalize val 63 = y63 at *
      generalize val 64 = y64 at *
      generalize val 65 = y65 at *
      generalize val 66 = y66 at *
      generalize val 67 = y67 at *
      generalize val 68 = y68 at *
      generalize val 69 = y69 at *
      generalize val 70 = y70 at *
      generalize val 71 = y71 at *
      generalize val 72 = y72 at *
      generalize val 73 = y73 at *
      generalize val 74 = y74 at *
      generalize val 75 = y75 at *
      generalize val 76 = y76 at *
      generalize val 77 = y77 at *
      generalize val 78 = y78 at *
      generalize val 79 = y79 at *
      generalize val 80 = y80 at *
      generalize val 81 = y81 at *
      generalize val 82 = y82 at *
      generalize val 83 = y83 at *
      generalize val 84 = y84 at *
      generalize val 85 = y85 at *
      generalize val 86 = y86 at *
      generalize val 87 = y87 at *
      generalize val 88 = y88 at *
      generalize val 89 = y89 at *
      generalize val 90 = y90 at *
      generalize val 91 = y91 at *
      simp only [Exit.then]
      go_wp2_with (fail)
      go_roundw
      case rel => exact ⟨k + 1, HLT.out, by go_num, HB.out.trans (HR4.out.mono HB.out.size)⟩
      case measure => have := HLT.out; simp [intOf]; omega
    · obtain rfl : k = LL.length := by omega
      have t1 : decide (LL.length < LL.length) = false := by simp
      go_wp2_with (fail)
      go_ret
      exact ⟨rfl, HB3.out.trans (HB.out.mono HB3.out.size)⟩
end
end Go.Proofs.Ytokochkjjlbnkaa
