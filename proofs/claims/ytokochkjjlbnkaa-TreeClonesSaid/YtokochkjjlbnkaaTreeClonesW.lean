/-
  Layer 12: TreeClones.
-/
import Derived.Test.YtokochkjjlbnkaaTtOpen
import Derived.Test.YtokochkjjlbnkaaTtF
import Derived.Test.YtokochkjjlbnkaaTtC
namespace Go.Proofs.Ytokochkjjlbnkaa
open Go.RowKit trm

/-- a slot that is read, and later written, in one region that draws its order -/
structure KW (q r l0 l1 l15 l16 : Bool) (v : Value) : Prop where
  val : v = .bool (bif l16 then r else q)
  o1 : l16 = true → l15 = true
  o2 : l15 = true → l1 = true
  o3 : l1 = true → l0 = true
theorem KW.slot {q r l0 l1 l15 l16 : Bool} {u v : Value} (h : KW q r l0 l1 l15 l16 v) (e : u = v) : KW q r l0 l1 l15 l16 u := e ▸ h
theorem KW.old {q r l0 l1 l15 l16 : Bool} {v : Value} (h : KW q r l0 l1 l15 l16 v) (e : l0 = false) : v = .bool q := by
  have : l16 = false := by
    cases h1 : l16 with
    | false => rfl
    | true => have := h.o3 (h.o2 (h.o1 h1)); rw [e] at this; cases this
  rw [h.val, this]; rfl
theorem sl_put {a : Act} {d s : Tmp} {v : Value} (h : d ≠ s) : regv.sl (a.put (some d) v) s = regv.sl a s := regs.getD_set_ne a.tmps d s v h
/-- while the clone is made -/
def sayC1 (wA : World) (t : T) : regs.Say regs.bl := ⟨fun x w => ∃ d s2, x = .pointer (some ⟨d, 0, none⟩) ∧ Below wA.heap.size wA w ∧ TreeAt w d s2 t ∧ ∀ k, FootT d s2 t k → wA.heap.size ≤ k, fun x w w' h hb => by
  obtain ⟨d, s2, e, h1, h2, h3⟩ := h
  exact ⟨d, s2, e, h1.trans (Below.mono hb h1.size), h2.below hb, h3⟩⟩
def sayC2 (wA : World) (v : Value) (t : T) : regs.Say regs.bl := ⟨fun x w => ∃ d s2, x = .agg #[.pointer (some ⟨d, 0, none⟩), v] ∧ Below wA.heap.size wA w ∧ TreeAt w d s2 t ∧ ∀ k, FootT d s2 t k → wA.heap.size ≤ k, fun x w w' h hb => by
  obtain ⟨d, s2, e, h1, h2, h3⟩ := h
  exact ⟨d, s2, e, h1.trans (Below.mono hb h1.size), h2.below hb, h3⟩⟩
def sayC3 (W0 : World) (g b : Nat) (t : T) : regs.Say regs.bl := ⟨fun x w => ∃ g2 d, x = .pointer (some ⟨g2, 0, none⟩) ∧ Two W0 g b t g2 d t w, fun x w w' h hb => by
  obtain ⟨g2, d, e, h1⟩ := h
  exact ⟨g2, d, e, h1.below hb⟩⟩
set_option maxRecDepth 100000 in
set_option maxHeartbeats 4000000 in
theorem clones_in (A : Option Addr) (l : List O4) (c : Nat) (Aa : Option Addr) (la : List O4) (ca : Nat) (Ab : Option Addr) (lb : List O4) (cb : Nat) (w : World) (hr : OpRow w A l) (ho : ∀ o ∈ l, o.ok) (hm : l.length ≤ 9223372036854775807)
    (hra : OpRow w Aa la) (hoa : ∀ o ∈ la, o.ok) (hma : la.length ≤ 9223372036854775807) (hrb : OpRow w Ab lb) (hob : ∀ o ∈ lb, o.ok) (hmb : lb.length ≤ 9223372036854775807) :
    Calls Try.prog 5 #[.slice A l.length c, .slice Aa la.length ca, .slice Ab lb.length cb] w fun e w' => e = .returned (.bool true) ∧ Below w.heap.size w w' := by
  have HL0 : Hid (l.length ≤ 9223372036854775807 ∧ la.length ≤ 9223372036854775807 ∧ lb.length ≤ 9223372036854775807) := ⟨hm, hma, hmb⟩
  have HR := Lib.hid hr
  have HO := Lib.hid ho
  have HRa := Lib.hid hra
  have HOa := Lib.hid hoa
  have HRb := Lib.hid hrb
  have HOb := Lib.hid hob
  clear hr ho hra hoa hrb hob hm hma hmb
  by_cases h1 : 40 < l.length
  · have t1 : decide ((40 : Int) < (l.length : Int)) = true := decide_eq_true (by omega)
    clear h1
    go_enter Try.func5, Try.ntmps5
    go_wp2_with (fail)
    refine (awake_any w).mono ?_
    rintro e w1 ⟨rfl, hb⟩
    have HB := Lib.hid hb
    clear hb
    go_wp2_with (fail)
    go_ret
    exact ⟨rfl, HB.out⟩
  have t1 : decide ((40 : Int) < (l.length : Int)) = false := decide_eq_false (by omega)
  have HL : Hid (l.length ≤ 40) := Nat.le_of_not_lt h1
  clear h1
  by_cases h2 : 20 < la.length
  · have t2 : decide ((20 : Int) < (la.length : Int)) = true := decide_eq_true (by omega)
    clear h2
    go_enter Try.func5, Try.ntmps5
    go_wp2_with (fail)
    refine (awake_any w).mono ?_
    rintro e w1 ⟨rfl, hb⟩
    have HB := Lib.hid hb
    clear hb
    go_wp2_with (fail)
    go_ret
    exact ⟨rfl, HB.out⟩
  have t2 : decide ((20 : Int) < (la.length : Int)) = false := decide_eq_false (by omega)
  have HLa : Hid (la.length ≤ 20) := Nat.le_of_not_lt h2
  clear h2
  by_cases h3 : 20 < lb.length
  · have t3 : decide ((20 : Int) < (lb.length : Int)) = true := decide_eq_true (by omega)
    clear h3
    go_enter Try.func5, Try.ntmps5
    go_wp2_with (fail)
    refine (awake_any w).mono ?_
    rintro e w1 ⟨rfl, hb⟩
    have HB := Lib.hid hb
    clear hb
    go_wp2_with (fail)
    go_ret
    exact ⟨rfl, HB.out⟩
  have t3 : decide ((20 : Int) < (lb.length : Int)) = false := decide_eq_false (by omega)
  have HLb : Hid (lb.length ≤ 20) := Nat.le_of_not_lt h3
  clear h3
  go_enter Try.func5, Try.ntmps5
  go_wp2_with (fail)
  refine (tnew w).mono ?_
  rintro e w1 ⟨b, s, rfl, hT, hb, hf⟩
  have HM := Lib.hid (MyPlay.made hb hT hf)
  clear hT hb hf
  go_wp2_with (fail)
  generalize w1.alloc (.cells #[.pointer (some ⟨b, 0, none⟩), .slice none 0 0] tPlay) = w2 at *
  generalize w1.heap.size = g at *
  go_loopw [44] (fun x wr => ∃ k : Nat, k ≤ l.length ∧ x = .int .i64 k ∧ Hid (MyPlay w g b (runT [] (l.take k)) wr)) (fun x _ => l.length - (intOf x).toNat)
  case atStart => exact ⟨0, Nat.zero_le _, rfl, HM.out⟩
  case round =>
    obtain ⟨k, hk, rfl, HK⟩ := hrel
    by_cases hlt : k < l.length
    · have tk : decide (k < l.length) = true := by simpa using hlt
      have HLT := Lib.hid hlt
      have hkb : (k : Int) ≤ 10000 := by have := HL.out; omega
      obtain ⟨b1, o1, rA, k1⟩ := HR.out.in_ hlt
      subst rA
      obtain ⟨c1, c2, c3, c4⟩ := k1 _ HK.out.bel
      have HOK := Lib.hid (HO.out _ (List.getElem_mem hlt))
      have HS := Lib.hid (runT_snoc [] hlt)
      have HN : Hid ((runT [] (l.take k)).length ≤ 1000) := by
        have h1 := (runT_ok ok_nil (l.take k)).2
        rw [List.length_take, List.length_nil] at h1
        have := HL.out
        show _ ≤ _
        omega
      clear k1
      generalize l[k] = o at *
      generalize runT [] (l.take k) = T0 at *
      obtain ⟨T1, hT1⟩ : ∃ x, runT [] (l.take (k + 1)) = x := ⟨_, rfl⟩
      have HT1 := Lib.hid hT1
      rw [hT1] at HS
      clear hT1
      obtain ⟨ok, oi, op, on⟩ := o
      simp only at c1 c2 c3 c4
      go_wp2_with (fail)
      have hb1 : Below wr.heap.size wr (wr.alloc (.cells #[.int .i64 ok, .int .i64 oi, .int .i64 op, .int .i64 on] tOp)) := (Below.refl _ _).alloc (Nat.le_refl _) _
      refine ((HK.out.below hb1).step HN.out ⟨ok, oi, op, on⟩ HOK.out).mono ?_
      rintro e w3 ⟨rfl, hm3⟩
      rw [← HS.out] at hm3
      have HM3 := Lib.hid hm3
      clear hm3 hb1 c1 c2 c3 c4 HK
      go_wp2_with (fail)
      go_roundw
      case rel => exact ⟨k + 1, HLT.out, by go_num, by rw [HT1.out]; exact HM3⟩
      case measure => have := HLT.out; simp [intOf]; omega
    · obtain rfl : k = l.length := by omega
      have tk : decide (l.length < l.length) = false := by simp
      generalize wr = wA at *
      have HT0 : Hid ((runT [] (l.take l.length)).length ≤ 40 ∧ Ok (runT [] (l.take l.length))) := by
        have h1 := runT_ok ok_nil (l.take l.length)
        refine ⟨Nat.le_trans h1.2 ?_, h1.1⟩
        rw [List.length_take, List.length_nil]
        have := HL.out
        omega
      generalize runT [] (l.take l.length) = t at *
      obtain ⟨s0, v0, hp, hfoot⟩ := HK.out.ex
      obtain ⟨A0, c0, rfl, -, -⟩ := hp.doc
      have HP := Lib.hid (And.intro hp hfoot)
      have FC : Hid (∀ W, regs.bl wA W → W.cell? ⟨g, 0, none⟩ = some (.pointer (some ⟨b, 0, none⟩)) ∧ W.cell? ⟨g, 1, none⟩ = some (.slice A0 t.length c0) ∧ g < W.heap.size) := fun W hb =>
        have := (HP.out.1.below hb).blk
        ⟨this.blk.cell 0, this.blk.cell 1, this.inside⟩
      have HCL : Hid (∀ W, regs.bl wA W → Calls Try.prog 20 #[.pointer (some ⟨b, 0, none⟩)] W (CloneQ t W)) := fun W hb => tclone (HP.out.1.below hb).tree (by have := HT0.out.1; omega)
      unfold CloneQ at HCL
      clear hp hfoot HM
      go_wp2_with (fail)
      refine regs.wp_region_put (regs.bl) (regs.noJ) [53, 54, 55, 56, 57, 58, 59, 60, 61, 62, 63, 10] (by kernel_rfl) (by kernel_rfl) (fun _ => regs.bl_refl _) (regs.bl_trans) (fun i => (match i with
        | 0 => regs.Say.val _ (.pointer (some ⟨g, 0, none⟩))
        | 1 => regs.Say.val _ (.pointer (some ⟨g, 0, none⟩))
        | 2 => regs.Say.val _ (.pointer (some ⟨g, 0, none⟩))
        | 3 => regs.Say.val _ (.pointer (some ⟨b, 0, none⟩))
        | 4 => sayC1 wA t
        | 5 => regs.Say.val _ (.pointer (some ⟨g, 0, none⟩))
        | 6 => regs.Say.val _ (.pointer (some ⟨g, 0, none⟩))
        | 7 => regs.Say.val _ (.pointer (some ⟨g, 1, none⟩))
        | 8 => regs.Say.val _ (.slice A0 t.length c0)
        | 9 => sayC2 wA (.slice A0 t.length c0) t
        | 10 => sayC3 w g b t
        | 11 => sayC3 w g b t
        | _ => regs.Say.any _ : regs.Say (regs.bl)).p) (fun _ => regs.Say.mono _) (by kernel_rfl) ((Below.refl _ _).drew) (regs.noJ_ok _ _) ⟨?_, ?_, ?_, ?_, ?_, ?_, ?_, ?_, ?_, ?_, ?_, ?_, trivial⟩ ?_
      · refine regs.StepOK.plain rfl fun L a w1 hh => ?_
        have h7 : a.tmps[7]?.getD undef = .pointer (some ⟨g, 0, none⟩) := by rw [← Array.getD_eq_getD_getElem?]; exact hh.old 7 rfl
        have hJ := Lib.hid hh.st
        clear hh
        go_simp
        exact ⟨_, rfl, regs.bl_refl _, rfl, hJ.out⟩
      · refine regs.StepOK.plain rfl fun L a w1 hh => ?_
        have h53 : a.tmps[53]?.getD undef = .pointer (some ⟨g, 0, none⟩) := by rw [← Array.getD_eq_getD_getElem?]; exact hh.dep 0 53 (by kernel_rfl) (by kernel_rfl)
        obtain ⟨p0, p1, pi⟩ := FC.out _ hh.rel
        have hJ := Lib.hid hh.st
        clear hh
        go_simp
        exact ⟨_, rfl, regs.bl_refl _, rfl, hJ.out⟩
      · refine regs.StepOK.plain rfl fun L a w1 hh => ?_
        have h54 : a.tmps[54]?.getD undef = .pointer (some ⟨g, 0, none⟩) := by rw [← Array.getD_eq_getD_getElem?]; exact hh.dep 1 54 (by kernel_rfl) (by kernel_rfl)
        obtain ⟨p0, p1, pi⟩ := FC.out _ hh.rel
        have hJ := Lib.hid hh.st
        clear hh
        go_simp
        exact ⟨_, rfl, regs.bl_refl _, rfl, hJ.out⟩
      · refine regs.StepOK.plain rfl fun L a w1 hh => ?_
        have h55 : a.tmps[55]?.getD undef = .pointer (some ⟨g, 0, none⟩) := by rw [← Array.getD_eq_getD_getElem?]; exact hh.dep 2 55 (by kernel_rfl) (by kernel_rfl)
        obtain ⟨p0, p1, pi⟩ := FC.out _ hh.rel
        have hJ := Lib.hid hh.st
        clear hh
        go_simp
        exact ⟨_, rfl, regs.bl_refl _, rfl, hJ.out⟩
      · refine regs.StepOK.plain rfl fun L a w1 hh => ?_
        have h56 : a.tmps[56]?.getD undef = .pointer (some ⟨b, 0, none⟩) := by rw [← Array.getD_eq_getD_getElem?]; exact hh.dep 3 56 (by kernel_rfl) (by kernel_rfl)
        have hC := Lib.hid (HCL.out _ hh.rel)
        have hB := Lib.hid (show Below wA.heap.size wA w1 from hh.rel)
        have hJ := Lib.hid hh.st
        clear hh
        go_simp
        refine hC.out.mono ?_
        rintro e w9 ⟨d9, s9, rfl, ht9, hf9, hb9⟩
        exact ⟨_, rfl, hb9, ⟨d9, s9, rfl, hB.out.trans (hb9.mono hB.out.size), ht9, fun k hk => Nat.le_trans hB.out.size (hf9 k hk)⟩, hJ.out⟩
      · refine regs.StepOK.plain rfl fun L a w1 hh => ?_
        have h7 : a.tmps[7]?.getD undef = .pointer (some ⟨g, 0, none⟩) := by rw [← Array.getD_eq_getD_getElem?]; exact hh.old 7 rfl
        have hJ := Lib.hid hh.st
        clear hh
        go_simp
        exact ⟨_, rfl, regs.bl_refl _, rfl, hJ.out⟩
      · refine regs.StepOK.plain rfl fun L a w1 hh => ?_
        have h58 : a.tmps[58]?.getD undef = .pointer (some ⟨g, 0, none⟩) := by rw [← Array.getD_eq_getD_getElem?]; exact hh.dep 5 58 (by kernel_rfl) (by kernel_rfl)
        obtain ⟨p0, p1, pi⟩ := FC.out _ hh.rel
        have hJ := Lib.hid hh.st
        clear hh
        go_simp
        exact ⟨_, rfl, regs.bl_refl _, rfl, hJ.out⟩
      · refine regs.StepOK.plain rfl fun L a w1 hh => ?_
        have h59 : a.tmps[59]?.getD undef = .pointer (some ⟨g, 0, none⟩) := by rw [← Array.getD_eq_getD_getElem?]; exact hh.dep 6 59 (by kernel_rfl) (by kernel_rfl)
        obtain ⟨p0, p1, pi⟩ := FC.out _ hh.rel
        have hJ := Lib.hid hh.st
        clear hh
        go_simp
        exact ⟨_, rfl, regs.bl_refl _, rfl, hJ.out⟩
      · refine regs.StepOK.plain rfl fun L a w1 hh => ?_
        have h60 : a.tmps[60]?.getD undef = .pointer (some ⟨g, 1, none⟩) := by rw [← Array.getD_eq_getD_getElem?]; exact hh.dep 7 60 (by kernel_rfl) (by kernel_rfl)
        obtain ⟨p0, p1, pi⟩ := FC.out _ hh.rel
        have hJ := Lib.hid hh.st
        clear hh
        go_simp
        exact ⟨_, rfl, regs.bl_refl _, rfl, hJ.out⟩
      · refine regs.StepOK.plain rfl fun L a w1 hh => ?_
        have h61 : a.tmps[61]?.getD undef = .slice A0 t.length c0 := by rw [← Array.getD_eq_getD_getElem?]; exact hh.dep 8 61 (by kernel_rfl) (by kernel_rfl)
        obtain ⟨d9, s9, e9, hq9⟩ := hh.dep 4 57 (by kernel_rfl) (by kernel_rfl)
        have h57 : a.tmps[57]?.getD undef = .pointer (some ⟨d9, 0, none⟩) := by rw [← Array.getD_eq_getD_getElem?]; exact e9
        clear e9
        have HQ9 := Lib.hid hq9
        clear hq9
        have hJ := Lib.hid hh.st
        clear hh
        go_simp
        exact ⟨_, rfl, regs.bl_refl _, ⟨d9, s9, rfl, HQ9.out⟩, hJ.out⟩
      · refine regs.StepOK.plain rfl fun L a w1 hh => ?_
        obtain ⟨d9, s9, e9, hq9⟩ := hh.dep 9 62 (by kernel_rfl) (by kernel_rfl)
        have h62 : a.tmps[62]?.getD undef = .agg #[.pointer (some ⟨d9, 0, none⟩), .slice A0 t.length c0] := by rw [← Array.getD_eq_getD_getElem?]; exact e9
        clear e9
        have HQ9 := Lib.hid hq9
        clear hq9
        have hJ := Lib.hid hh.st
        clear hh
        go_simp
        exact ⟨_, rfl, (Below.refl _ _).alloc (Nat.le_refl _) _, ⟨_, d9, rfl, HK.out.two ⟨s0, HP.out⟩ HQ9.out.1 HQ9.out.2.1 HQ9.out.2.2⟩, hJ.out⟩
      · refine regs.StepOK.plain rfl fun L a w1 hh => ?_
        obtain ⟨g9, d9, e9, hq9⟩ := hh.dep 10 63 (by kernel_rfl) (by kernel_rfl)
        have h63 : a.tmps[63]?.getD undef = .pointer (some ⟨g9, 0, none⟩) := by rw [← Array.getD_eq_getD_getElem?]; exact e9
        clear e9
        have HQ9 := Lib.hid hq9
        clear hq9
        have hJ := Lib.hid hh.st
        clear hh
        go_simp
        exact ⟨_, rfl, regs.bl_refl _, ⟨g9, d9, rfl, HQ9.out⟩, hJ.out⟩
      intro L' w3 val hL hJ hR hv
      obtain ⟨g2, d, e10, htwo⟩ := (show ∃ g2 d, val 10 = .pointer (some ⟨g2, 0, none⟩) ∧ Two w g b t g2 d t w3 from hv 11 10 (by kernel_rfl))
      have HTW := Lib.hid htwo
      clear hv hL hJ hR FC HCL htwo HP HK
      simp only [regs.putAll, List.map_cons, List.map_nil, e10]
      simp only [Act.put, List.setIfInBounds_toArray, List.set_cons_zero, List.set_cons_succ]
      clear e10
      generalize val 53 = y53 at *
      generalize val 54 = y54 at *
      generalize val 55 = y55 at *
      generalize val 56 = y56 at *
      generalize val 57 = y57 at *
      generalize val 58 = y58 at *
      generalize val 59 = y59 at *
      generalize val 60 = y60 at *
      generalize val 61 = y61 at *
      generalize val 62 = y62 at *
      generalize val 63 = y63 at *
      simp only [Exit.then]
      have FC : Hid (∀ W, regs.bl w3 W → (W.cell? ⟨g, 0, none⟩ = some (.pointer (some ⟨b, 0, none⟩)) ∧ g < W.heap.size) ∧ W.cell? ⟨g2, 0, none⟩ = some (.pointer (some ⟨d, 0, none⟩)) ∧ g2 < W.heap.size) := fun W hb => by
        obtain ⟨s, v, s2, v2, h1, h2, -, -⟩ := (HTW.out.below hb).ex
        exact ⟨⟨h1.blk.blk.cell 0, h1.blk.inside⟩, h2.blk.blk.cell 0, h2.blk.inside⟩
      have HCS : Hid (∀ W, regs.bl w3 W → Calls Try.prog 21 #[.pointer (some ⟨b, 0, none⟩), .pointer (some ⟨d, 0, none⟩)] W fun e w' => e = .returned (.bool true) ∧ Below W.heap.size W w') := fun W hb => by
        obtain ⟨s, v, s2, v2, h1, h2, -, -⟩ := (HTW.out.below hb).ex
        refine (tsame h1.tree h2.tree (by have := HT0.out.1; omega) (by have := HT0.out.1; omega)).mono ?_
        rintro e w' ⟨r, rfl, hr, hb7⟩
        obtain rfl : r = true := hr.2 fun _ => rfl
        exact ⟨rfl, hb7⟩
      go_wp2_with (fail)
      refine regs.wp_region_put (regs.bl) (regs.noJ) [64, 65, 66, 67, 68, 69, 70, 71, 72, 73, 74, 75, 76, 77, 78, 79, 80] (by kernel_rfl) (by kernel_rfl) (fun _ => regs.bl_refl _) (regs.bl_trans) (fun i => (match i with
        | 0 => regs.Say.val _ (.pointer (some ⟨g2, 0, none⟩))
        | 1 => regs.Say.val _ (.pointer (some ⟨g2, 0, none⟩))
        | 2 => regs.Say.val _ (.pointer (some ⟨g2, 0, none⟩))
        | 3 => regs.Say.val _ (.pointer (some ⟨d, 0, none⟩))
        | 4 => regs.Say.val _ (.bool false)
        | 5 => regs.Say.val _ (.bool false)
        | 6 => regs.Say.val _ (.pointer (some ⟨g, 0, none⟩))
        | 7 => regs.Say.val _ (.pointer (some ⟨g, 0, none⟩))
        | 8 => regs.Say.val _ (.pointer (some ⟨g, 0, none⟩))
        | 9 => regs.Say.val _ (.pointer (some ⟨b, 0, none⟩))
        | 10 => regs.Say.val _ (.pointer (some ⟨g2, 0, none⟩))
        | 11 => regs.Say.val _ (.pointer (some ⟨g2, 0, none⟩))
        | 12 => regs.Say.val _ (.pointer (some ⟨g2, 0, none⟩))
        | 13 => regs.Say.val _ (.pointer (some ⟨d, 0, none⟩))
        | 14 => regs.Say.val _ (.bool true)
        | 15 => regs.Say.val _ (.bool false)
        | 16 => regs.Say.val _ (.bool false)
        | _ => regs.Say.any _ : regs.Say (regs.bl)).p) (fun _ => regs.Say.mono _) (by kernel_rfl) ((Below.refl _ _).drew) (regs.noJ_ok _ _) ⟨?_, ?_, ?_, ?_, ?_, ?_, ?_, ?_, ?_, ?_, ?_, ?_, ?_, ?_, ?_, ?_, ?_, trivial⟩ ?_
      · refine regs.StepOK.plain rfl fun L a w1 hh => ?_
        have h10 : a.tmps[10]?.getD undef = .pointer (some ⟨g2, 0, none⟩) := by rw [← Array.getD_eq_getD_getElem?]; exact hh.old 10 rfl
        have hJ := Lib.hid hh.st
        clear hh
        go_simp
        exact ⟨_, rfl, regs.bl_refl _, rfl, hJ.out⟩
      · refine regs.StepOK.plain rfl fun L a w1 hh => ?_
        have h64 : a.tmps[64]?.getD undef = .pointer (some ⟨g2, 0, none⟩) := by rw [← Array.getD_eq_getD_getElem?]; exact hh.dep 0 64 (by kernel_rfl) (by kernel_rfl)
        obtain ⟨⟨p0, pi⟩, p2, p3⟩ := FC.out _ hh.rel
        have hJ := Lib.hid hh.st
        clear hh
        go_simp
        exact ⟨_, rfl, regs.bl_refl _, rfl, hJ.out⟩
      · refine regs.StepOK.plain rfl fun L a w1 hh => ?_
        have h65 : a.tmps[65]?.getD undef = .pointer (some ⟨g2, 0, none⟩) := by rw [← Array.getD_eq_getD_getElem?]; exact hh.dep 1 65 (by kernel_rfl) (by kernel_rfl)
        obtain ⟨⟨p0, pi⟩, p2, p3⟩ := FC.out _ hh.rel
        have hJ := Lib.hid hh.st
        clear hh
        go_simp
        exact ⟨_, rfl, regs.bl_refl _, rfl, hJ.out⟩
      · refine regs.StepOK.plain rfl fun L a w1 hh => ?_
        have h66 : a.tmps[66]?.getD undef = .pointer (some ⟨g2, 0, none⟩) := by rw [← Array.getD_eq_getD_getElem?]; exact hh.dep 2 66 (by kernel_rfl) (by kernel_rfl)
        obtain ⟨⟨p0, pi⟩, p2, p3⟩ := FC.out _ hh.rel
        have hJ := Lib.hid hh.st
        clear hh
        go_simp
        exact ⟨_, rfl, regs.bl_refl _, rfl, hJ.out⟩
      · refine regs.StepOK.plain rfl fun L a w1 hh => ?_
        have h67 : a.tmps[67]?.getD undef = .pointer (some ⟨d, 0, none⟩) := by rw [← Array.getD_eq_getD_getElem?]; exact hh.dep 3 67 (by kernel_rfl) (by kernel_rfl)
        have hJ := Lib.hid hh.st
        clear hh
        go_simp
        exact ⟨_, rfl, regs.bl_refl _, rfl, hJ.out⟩
      · refine regs.StepOK.plain rfl fun L a w1 hh => ?_
        have h68 : a.tmps[68]?.getD undef = .bool false := by rw [← Array.getD_eq_getD_getElem?]; exact hh.dep 4 68 (by kernel_rfl) (by kernel_rfl)
        have hJ := Lib.hid hh.st
        clear hh
        go_simp
        exact ⟨_, rfl, regs.bl_refl _, rfl, hJ.out⟩
      · refine regs.StepOK.yes 5 false 69 rfl rfl (fun L a w1 hh => hh.dep 5 69 (by kernel_rfl) (by kernel_rfl)) fun L a w1 hh => ?_
        have h7 : a.tmps[7]?.getD undef = .pointer (some ⟨g, 0, none⟩) := by rw [← Array.getD_eq_getD_getElem?]; exact hh.old 7 rfl
        have hJ := Lib.hid hh.st
        clear hh
        go_simp
        exact ⟨_, rfl, regs.bl_refl _, rfl, hJ.out⟩
      · refine regs.StepOK.yes 5 false 69 rfl rfl (fun L a w1 hh => hh.dep 5 69 (by kernel_rfl) (by kernel_rfl)) fun L a w1 hh => ?_
        have h70 : a.tmps[70]?.getD undef = .pointer (some ⟨g, 0, none⟩) := by rw [← Array.getD_eq_getD_getElem?]; exact hh.dep 6 70 (by kernel_rfl) (by kernel_rfl)
        obtain ⟨⟨p0, pi⟩, p2, p3⟩ := FC.out _ hh.rel
        have hJ := Lib.hid hh.st
        clear hh
        go_simp
        exact ⟨_, rfl, regs.bl_refl _, rfl, hJ.out⟩
      · refine regs.StepOK.yes 5 false 69 rfl rfl (fun L a w1 hh => hh.dep 5 69 (by kernel_rfl) (by kernel_rfl)) fun L a w1 hh => ?_
        have h71 : a.tmps[71]?.getD undef = .pointer (some ⟨g, 0, none⟩) := by rw [← Array.getD_eq_getD_getElem?]; exact hh.dep 7 71 (by kernel_rfl) (by kernel_rfl)
        obtain ⟨⟨p0, pi⟩, p2, p3⟩ := FC.out _ hh.rel
        have hJ := Lib.hid hh.st
        clear hh
        go_simp
        exact ⟨_, rfl, regs.bl_refl _, rfl, hJ.out⟩
      · refine regs.StepOK.yes 5 false 69 rfl rfl (fun L a w1 hh => hh.dep 5 69 (by kernel_rfl) (by kernel_rfl)) fun L a w1 hh => ?_
        have h72 : a.tmps[72]?.getD undef = .pointer (some ⟨g, 0, none⟩) := by rw [← Array.getD_eq_getD_getElem?]; exact hh.dep 8 72 (by kernel_rfl) (by kernel_rfl)
        obtain ⟨⟨p0, pi⟩, p2, p3⟩ := FC.out _ hh.rel
        have hJ := Lib.hid hh.st
        clear hh
        go_simp
        exact ⟨_, rfl, regs.bl_refl _, rfl, hJ.out⟩
      · refine regs.StepOK.yes 5 false 69 rfl rfl (fun L a w1 hh => hh.dep 5 69 (by kernel_rfl) (by kernel_rfl)) fun L a w1 hh => ?_
        have h10 : a.tmps[10]?.getD undef = .pointer (some ⟨g2, 0, none⟩) := by rw [← Array.getD_eq_getD_getElem?]; exact hh.old 10 rfl
        have hJ := Lib.hid hh.st
        clear hh
        go_simp
        exact ⟨_, rfl, regs.bl_refl _, rfl, hJ.out⟩
      · refine regs.StepOK.yes 5 false 69 rfl rfl (fun L a w1 hh => hh.dep 5 69 (by kernel_rfl) (by kernel_rfl)) fun L a w1 hh => ?_
        have h74 : a.tmps[74]?.getD undef = .pointer (some ⟨g2, 0, none⟩) := by rw [← Array.getD_eq_getD_getElem?]; exact hh.dep 10 74 (by kernel_rfl) (by kernel_rfl)
        obtain ⟨⟨p0, pi⟩, p2, p3⟩ := FC.out _ hh.rel
        have hJ := Lib.hid hh.st
        clear hh
        go_simp
        exact ⟨_, rfl, regs.bl_refl _, rfl, hJ.out⟩
      · refine regs.StepOK.yes 5 false 69 rfl rfl (fun L a w1 hh => hh.dep 5 69 (by kernel_rfl) (by kernel_rfl)) fun L a w1 hh => ?_
        have h75 : a.tmps[75]?.getD undef = .pointer (some ⟨g2, 0, none⟩) := by rw [← Array.getD_eq_getD_getElem?]; exact hh.dep 11 75 (by kernel_rfl) (by kernel_rfl)
        obtain ⟨⟨p0, pi⟩, p2, p3⟩ := FC.out _ hh.rel
        have hJ := Lib.hid hh.st
        clear hh
        go_simp
        exact ⟨_, rfl, regs.bl_refl _, rfl, hJ.out⟩
      · refine regs.StepOK.yes 5 false 69 rfl rfl (fun L a w1 hh => hh.dep 5 69 (by kernel_rfl) (by kernel_rfl)) fun L a w1 hh => ?_
        have h76 : a.tmps[76]?.getD undef = .pointer (some ⟨g2, 0, none⟩) := by rw [← Array.getD_eq_getD_getElem?]; exact hh.dep 12 76 (by kernel_rfl) (by kernel_rfl)
        obtain ⟨⟨p0, pi⟩, p2, p3⟩ := FC.out _ hh.rel
        have hJ := Lib.hid hh.st
        clear hh
        go_simp
        exact ⟨_, rfl, regs.bl_refl _, rfl, hJ.out⟩
      · refine regs.StepOK.yes 5 false 69 rfl rfl (fun L a w1 hh => hh.dep 5 69 (by kernel_rfl) (by kernel_rfl)) fun L a w1 hh => ?_
        have h73 : a.tmps[73]?.getD undef = .pointer (some ⟨b, 0, none⟩) := by rw [← Array.getD_eq_getD_getElem?]; exact hh.dep 9 73 (by kernel_rfl) (by kernel_rfl)
        have h77 : a.tmps[77]?.getD undef = .pointer (some ⟨d, 0, none⟩) := by rw [← Array.getD_eq_getD_getElem?]; exact hh.dep 13 77 (by kernel_rfl) (by kernel_rfl)
        have hC := Lib.hid (HCS.out _ hh.rel)
        have hJ := Lib.hid hh.st
        clear hh
        go_simp
        refine hC.out.mono ?_
        rintro e w9 ⟨rfl, hb9⟩
        exact ⟨_, rfl, hb9, rfl, hJ.out⟩
      · refine regs.StepOK.yes 5 false 69 rfl rfl (fun L a w1 hh => hh.dep 5 69 (by kernel_rfl) (by kernel_rfl)) fun L a w1 hh => ?_
        have h78 : a.tmps[78]?.getD undef = .bool true := by rw [← Array.getD_eq_getD_getElem?]; exact hh.dep 14 78 (by kernel_rfl) (by kernel_rfl)
        have hJ := Lib.hid hh.st
        clear hh
        go_simp
        exact ⟨_, rfl, regs.bl_refl _, rfl, hJ.out⟩
      · refine regs.StepOK.plain rfl fun L a w1 hh => ?_
        have h69 : a.tmps[69]?.getD undef = .bool false := by rw [← Array.getD_eq_getD_getElem?]; exact hh.dep 5 69 (by kernel_rfl) (by kernel_rfl)
        have h79 : a.tmps[79]?.getD undef = .bool false := by rw [← Array.getD_eq_getD_getElem?]; exact hh.dep 15 79 (by kernel_rfl) (by kernel_rfl)
        have hJ := Lib.hid hh.st
        clear hh
        go_simp
        exact ⟨_, rfl, regs.bl_refl _, rfl, hJ.out⟩
      intro L' w4 val hL hJ hR hv
      have h80 : val 80 = .bool false := hv 16 80 (by kernel_rfl)
      have HTW4 := Lib.hid (HTW.out.below hR)
      clear hv hL hJ hR FC HCS HTW
      simp only [regs.putAll, List.map_cons, List.map_nil, h80]
      simp only [Act.put, List.setIfInBounds_toArray, List.set_cons_zero, List.set_cons_succ]
      clear h80
      generalize val 64 = z64 at *
      generalize val 65 = z65 at *
      generalize val 66 = z66 at *
      generalize val 67 = z67 at *
      generalize val 68 = z68 at *
      generalize val 69 = z69 at *
      generalize val 70 = z70 at *
      generalize val 71 = z71 at *
      generalize val 72 = z72 at *
      generalize val 73 = z73 at *
      generalize val 74 = z74 at *
      generalize val 75 = z75 at *
      generalize val 76 = z76 at *
      generalize val 77 = z77 at *
      generalize val 78 = z78 at *
      generalize val 79 = z79 at *
      simp only [Exit.then]
      go_wp2_with (fail)
      go_loopw [83] (fun x wr => ∃ k : Nat, k ≤ la.length ∧ x = .int .i64 k ∧ Hid (Two w g b (runT t (la.take k)) g2 d t wr)) (fun x _ => la.length - (intOf x).toNat)
      case atStart => exact ⟨0, Nat.zero_le _, rfl, HTW4.out⟩
      case round =>
        obtain ⟨k, hk, rfl, HK⟩ := hrel
        by_cases hlt : k < la.length
        · have tk : decide (k < la.length) = true := by simpa using hlt
          have HLT := Lib.hid hlt
          have hkb : (k : Int) ≤ 10000 := by have := HLa.out; omega
          obtain ⟨b1, o1, rA, k1⟩ := HRa.out.in_ hlt
          subst rA
          obtain ⟨c1, c2, c3, c4⟩ := k1 _ HK.out.bel
          have HOK := Lib.hid (HOa.out _ (List.getElem_mem hlt))
          have HS := Lib.hid (runT_snoc t hlt)
          have HN : Hid ((runT t (la.take k)).length ≤ 1000) := by
            have h1 := (runT_ok HT0.out.2 (la.take k)).2
            rw [List.length_take] at h1
            have := HT0.out.1
            have := HLa.out
            show _ ≤ _
            omega
          clear k1
          generalize la[k] = o at *
          generalize runT t (la.take k) = T0 at *
          obtain ⟨T1, hT1⟩ : ∃ x, runT t (la.take (k + 1)) = x := ⟨_, rfl⟩
          have HT1 := Lib.hid hT1
          rw [hT1] at HS
          clear hT1
          obtain ⟨ok, oi, op, on⟩ := o
          simp only at c1 c2 c3 c4
          go_wp2_with (fail)
          have hb1 : Below wr.heap.size wr (wr.alloc (.cells #[.int .i64 ok, .int .i64 oi, .int .i64 op, .int .i64 on] tOp)) := (Below.refl _ _).alloc (Nat.le_refl _) _
          refine ((HK.out.below hb1).step HN.out ⟨ok, oi, op, on⟩ HOK.out).mono ?_
          rintro e w9 ⟨rfl, hm3⟩
          rw [← HS.out] at hm3
          have HM3 := Lib.hid hm3
          clear hm3 hb1 c1 c2 c3 c4 HK
          go_wp2_with (fail)
          go_roundw
          case rel => exact ⟨k + 1, HLT.out, by go_num, by rw [HT1.out]; exact HM3⟩
          case measure => have := HLT.out; simp [intOf]; omega
        · obtain rfl : k = la.length := by omega
          have tk : decide (la.length < la.length) = false := by simp
          have HTA : Hid ((runT t (la.take la.length)).length ≤ 60 ∧ Ok (runT t (la.take la.length))) := by
            have h1 := runT_ok HT0.out.2 (la.take la.length)
            refine ⟨Nat.le_trans h1.2 ?_, h1.1⟩
            rw [List.length_take]
            have := HT0.out.1
            have := HLa.out
            omega
          generalize runT t (la.take la.length) = ta at *
          generalize wr = wB at *
          have HTW5 := HK
          clear HK HTW4
          go_wp2_with (fail)
          go_loopw [94] (fun x wr => ∃ k : Nat, k ≤ lb.length ∧ x = .int .i64 k ∧ Hid (Two w g b ta g2 d (runT t (lb.take k)) wr)) (fun x _ => lb.length - (intOf x).toNat)
          case atStart => exact ⟨0, Nat.zero_le _, rfl, HTW5.out⟩
          case round =>
            obtain ⟨k, hk, rfl, HK⟩ := hrel
            by_cases hlt : k < lb.length
            · have tk : decide (k < lb.length) = true := by simpa using hlt
              have HLT := Lib.hid hlt
              have hkb : (k : Int) ≤ 10000 := by have := HLb.out; omega
              obtain ⟨b1, o1, rA, k1⟩ := HRb.out.in_ hlt
              subst rA
              obtain ⟨c1, c2, c3, c4⟩ := k1 _ HK.out.bel
              have HOK := Lib.hid (HOb.out _ (List.getElem_mem hlt))
              have HS := Lib.hid (runT_snoc t hlt)
              have HN : Hid ((runT t (lb.take k)).length ≤ 1000) := by
                have h1 := (runT_ok HT0.out.2 (lb.take k)).2
                rw [List.length_take] at h1
                have := HT0.out.1
                have := HLb.out
                show _ ≤ _
                omega
              clear k1
              generalize lb[k] = o at *
              generalize runT t (lb.take k) = T0 at *
              obtain ⟨T1, hT1⟩ : ∃ x, runT t (lb.take (k + 1)) = x := ⟨_, rfl⟩
              have HT1 := Lib.hid hT1
              rw [hT1] at HS
              clear hT1
              obtain ⟨ok, oi, op, on⟩ := o
              simp only at c1 c2 c3 c4
              go_wp2_with (fail)
              have hb1 : Below wr.heap.size wr (wr.alloc (.cells #[.int .i64 ok, .int .i64 oi, .int .i64 op, .int .i64 on] tOp)) := (Below.refl _ _).alloc (Nat.le_refl _) _
              refine ((HK.out.below hb1).swap.step HN.out ⟨ok, oi, op, on⟩ HOK.out).mono ?_
              rintro e w9 ⟨rfl, hm3⟩
              rw [← HS.out] at hm3
              have HM3 := Lib.hid hm3.swap
              clear hm3 hb1 c1 c2 c3 c4 HK
              go_wp2_with (fail)
              go_roundw
              case rel => exact ⟨k + 1, HLT.out, by go_num, by rw [HT1.out]; exact HM3⟩
              case measure => have := HLT.out; simp [intOf]; omega
            · obtain rfl : k = lb.length := by omega
              have tk : decide (lb.length < lb.length) = false := by simp
              have HTB : Hid ((runT t (lb.take lb.length)).length ≤ 60 ∧ Ok (runT t (lb.take lb.length))) := by
                have h1 := runT_ok HT0.out.2 (lb.take lb.length)
                refine ⟨Nat.le_trans h1.2 ?_, h1.1⟩
                rw [List.length_take]
                have := HT0.out.1
                have := HLb.out
                omega
              generalize runT t (lb.take lb.length) = tb at *
              generalize wr = wC at *
              have HTW6 := HK
              clear HK HTW5
              obtain ⟨s0, v0, s1, v1, hp0, hq0, -, -⟩ := HTW6.out.ex
              obtain ⟨Ap, cp, rfl, hrp, -⟩ := hp0.doc
              obtain ⟨Aq, cq, rfl, hrq, -⟩ := hq0.doc
              have HPQ := Lib.hid (And.intro hp0 hq0)
              have HRP : Hid (∀ W, Below wC.heap.size wC W → RRow W Ap ta ∧ RRow W Aq tb) := fun W hb => ⟨SRow.below hrp hb, SRow.below hrq hb⟩
              have HFC : Hid (∀ W, Below wC.heap.size wC W → (W.cell? ⟨g, 0, none⟩ = some (.pointer (some ⟨b, 0, none⟩)) ∧ W.cell? ⟨g, 1, none⟩ = some (.slice Ap ta.length cp) ∧ g < W.heap.size) ∧ W.cell? ⟨g2, 0, none⟩ = some (.pointer (some ⟨d, 0, none⟩)) ∧ W.cell? ⟨g2, 1, none⟩ = some (.slice Aq tb.length cq) ∧ g2 < W.heap.size) := fun W hb =>
                have h1 := (HPQ.out.1.below hb).blk
                have h2 := (HPQ.out.2.below hb).blk
                ⟨⟨h1.blk.cell 0, h1.blk.cell 1, h1.inside⟩, h2.blk.cell 0, h2.blk.cell 1, h2.inside⟩
              have FC : Hid (∀ W, regs.bl wC W → (W.cell? ⟨g, 0, none⟩ = some (.pointer (some ⟨b, 0, none⟩)) ∧ W.cell? ⟨g, 1, none⟩ = some (.slice Ap ta.length cp) ∧ g < W.heap.size) ∧ W.cell? ⟨g2, 0, none⟩ = some (.pointer (some ⟨d, 0, none⟩)) ∧ W.cell? ⟨g2, 1, none⟩ = some (.slice Aq tb.length cq) ∧ g2 < W.heap.size) := HFC.out
              have HW1 : Hid (∀ W, regs.bl wC W → Calls Try.prog 13 #[.slice Ap ta.length cp, .int .i64 0] W (KidsQ (trm.walk ta 0) W)) := fun W hb => dwalk Ap ta cp HTA.out.2 (by have := HTA.out.1; omega) (ta.length + 1) 0 W (HRP.out W hb).1 (.inl rfl) (by omega)
              have HW2 : Hid (∀ W, regs.bl wC W → Calls Try.prog 13 #[.slice Aq tb.length cq, .int .i64 0] W (KidsQ (trm.walk tb 0) W)) := fun W hb => dwalk Aq tb cq HTB.out.2 (by have := HTB.out.1; omega) (tb.length + 1) 0 W (HRP.out W hb).2 (.inl rfl) (by omega)
              unfold KidsQ at HW1 HW2
              have HXL : Hid ((trm.walk ta 0).length ≤ 61 ∧ (trm.walk tb 0).length ≤ 61) := by show _ ∧ _; rw [walk_len HTA.out.2, walk_len HTB.out.2]; have := HTA.out.1; have := HTB.out.1; omega
              obtain ⟨X, hX⟩ : ∃ q, trm.walk ta 0 = q := ⟨_, rfl⟩
              obtain ⟨Y, hY⟩ : ∃ q, trm.walk tb 0 = q := ⟨_, rfl⟩
              have HXE := Lib.hid (And.intro hX hY)
              rw [hX] at HW1
              rw [hY] at HW2
              rw [hX, hY] at HXL
              clear hX hY hrp hrq hp0 hq0
              go_wp2_with (fail)
              refine regs.wp_region_put (regs.bl) (regs.noJ) [103, 104, 105, 106, 107, 108, 109, 110, 111, 112, 15, 16] (by kernel_rfl) (by kernel_rfl) (fun _ => regs.bl_refl _) (regs.bl_trans) (fun i => (match i with
                | 0 => regs.Say.val _ (.pointer (some ⟨g, 0, none⟩))
                | 1 => regs.Say.val _ (.pointer (some ⟨g, 0, none⟩))
                | 2 => regs.Say.val _ (.pointer (some ⟨g, 1, none⟩))
                | 3 => regs.Say.val _ (.slice Ap ta.length cp)
                | 4 => sayR X
                | 5 => regs.Say.val _ (.pointer (some ⟨g2, 0, none⟩))
                | 6 => regs.Say.val _ (.pointer (some ⟨g2, 0, none⟩))
                | 7 => regs.Say.val _ (.pointer (some ⟨g2, 1, none⟩))
                | 8 => regs.Say.val _ (.slice Aq tb.length cq)
                | 9 => sayR Y
                | 10 => sayR X
                | 11 => sayR Y
                | _ => regs.Say.any _ : regs.Say (regs.bl)).p) (fun _ => regs.Say.mono _) (by kernel_rfl) ((Below.refl _ _).drew) (regs.noJ_ok _ _) ⟨?_, ?_, ?_, ?_, ?_, ?_, ?_, ?_, ?_, ?_, ?_, ?_, trivial⟩ ?_
              · refine regs.StepOK.plain rfl fun L a w1 hh => ?_
                have h7 : a.tmps[7]?.getD undef = .pointer (some ⟨g, 0, none⟩) := by rw [← Array.getD_eq_getD_getElem?]; exact hh.old 7 rfl
                have hJ := Lib.hid hh.st
                clear hh
                go_simp
                exact ⟨_, rfl, regs.bl_refl _, rfl, hJ.out⟩
              · refine regs.StepOK.plain rfl fun L a w1 hh => ?_
                have h103 : a.tmps[103]?.getD undef = .pointer (some ⟨g, 0, none⟩) := by rw [← Array.getD_eq_getD_getElem?]; exact hh.dep 0 103 (by kernel_rfl) (by kernel_rfl)
                obtain ⟨⟨p0, p1, pi⟩, p2, p3, p4⟩ := FC.out _ hh.rel
                have hJ := Lib.hid hh.st
                clear hh
                go_simp
                exact ⟨_, rfl, regs.bl_refl _, rfl, hJ.out⟩
              · refine regs.StepOK.plain rfl fun L a w1 hh => ?_
                have h104 : a.tmps[104]?.getD undef = .pointer (some ⟨g, 0, none⟩) := by rw [← Array.getD_eq_getD_getElem?]; exact hh.dep 1 104 (by kernel_rfl) (by kernel_rfl)
                obtain ⟨⟨p0, p1, pi⟩, p2, p3, p4⟩ := FC.out _ hh.rel
                have hJ := Lib.hid hh.st
                clear hh
                go_simp
                exact ⟨_, rfl, regs.bl_refl _, rfl, hJ.out⟩
              · refine regs.StepOK.plain rfl fun L a w1 hh => ?_
                have h105 : a.tmps[105]?.getD undef = .pointer (some ⟨g, 1, none⟩) := by rw [← Array.getD_eq_getD_getElem?]; exact hh.dep 2 105 (by kernel_rfl) (by kernel_rfl)
                obtain ⟨⟨p0, p1, pi⟩, p2, p3, p4⟩ := FC.out _ hh.rel
                have hJ := Lib.hid hh.st
                clear hh
                go_simp
                exact ⟨_, rfl, regs.bl_refl _, rfl, hJ.out⟩
              · refine regs.StepOK.plain rfl fun L a w1 hh => ?_
                have h106 : a.tmps[106]?.getD undef = .slice Ap ta.length cp := by rw [← Array.getD_eq_getD_getElem?]; exact hh.dep 3 106 (by kernel_rfl) (by kernel_rfl)
                have hC := Lib.hid (HW1.out _ hh.rel)
                have hJ := Lib.hid hh.st
                clear hh
                go_simp
                refine hC.out.mono ?_
                rintro e w9 ⟨v9, rfl, ho9, hb9⟩
                obtain ⟨A9, c9, e9, -, -, hr9⟩ := IOwn.irow ho9
                exact ⟨_, rfl, hb9, ⟨A9, c9, e9, hr9⟩, hJ.out⟩
              · refine regs.StepOK.plain rfl fun L a w1 hh => ?_
                have h10 : a.tmps[10]?.getD undef = .pointer (some ⟨g2, 0, none⟩) := by rw [← Array.getD_eq_getD_getElem?]; exact hh.old 10 rfl
                have hJ := Lib.hid hh.st
                clear hh
                go_simp
                exact ⟨_, rfl, regs.bl_refl _, rfl, hJ.out⟩
              · refine regs.StepOK.plain rfl fun L a w1 hh => ?_
                have h108 : a.tmps[108]?.getD undef = .pointer (some ⟨g2, 0, none⟩) := by rw [← Array.getD_eq_getD_getElem?]; exact hh.dep 5 108 (by kernel_rfl) (by kernel_rfl)
                obtain ⟨⟨p0, p1, pi⟩, p2, p3, p4⟩ := FC.out _ hh.rel
                have hJ := Lib.hid hh.st
                clear hh
                go_simp
                exact ⟨_, rfl, regs.bl_refl _, rfl, hJ.out⟩
              · refine regs.StepOK.plain rfl fun L a w1 hh => ?_
                have h109 : a.tmps[109]?.getD undef = .pointer (some ⟨g2, 0, none⟩) := by rw [← Array.getD_eq_getD_getElem?]; exact hh.dep 6 109 (by kernel_rfl) (by kernel_rfl)
                obtain ⟨⟨p0, p1, pi⟩, p2, p3, p4⟩ := FC.out _ hh.rel
                have hJ := Lib.hid hh.st
                clear hh
                go_simp
                exact ⟨_, rfl, regs.bl_refl _, rfl, hJ.out⟩
              · refine regs.StepOK.plain rfl fun L a w1 hh => ?_
                have h110 : a.tmps[110]?.getD undef = .pointer (some ⟨g2, 1, none⟩) := by rw [← Array.getD_eq_getD_getElem?]; exact hh.dep 7 110 (by kernel_rfl) (by kernel_rfl)
                obtain ⟨⟨p0, p1, pi⟩, p2, p3, p4⟩ := FC.out _ hh.rel
                have hJ := Lib.hid hh.st
                clear hh
                go_simp
                exact ⟨_, rfl, regs.bl_refl _, rfl, hJ.out⟩
              · refine regs.StepOK.plain rfl fun L a w1 hh => ?_
                have h111 : a.tmps[111]?.getD undef = .slice Aq tb.length cq := by rw [← Array.getD_eq_getD_getElem?]; exact hh.dep 8 111 (by kernel_rfl) (by kernel_rfl)
                have hC := Lib.hid (HW2.out _ hh.rel)
                have hJ := Lib.hid hh.st
                clear hh
                go_simp
                refine hC.out.mono ?_
                rintro e w9 ⟨v9, rfl, ho9, hb9⟩
                obtain ⟨A9, c9, e9, -, -, hr9⟩ := IOwn.irow ho9
                exact ⟨_, rfl, hb9, ⟨A9, c9, e9, hr9⟩, hJ.out⟩
              · refine regs.StepOK.plain rfl fun L a w1 hh => ?_
                obtain ⟨A9, c9, e9, hr9⟩ := hh.dep 4 107 (by kernel_rfl) (by kernel_rfl)
                have h107 : a.tmps[107]?.getD undef = .slice A9 X.length c9 := by rw [← Array.getD_eq_getD_getElem?]; exact e9
                clear e9
                have HR9 := Lib.hid hr9
                clear hr9
                have hJ := Lib.hid hh.st
                clear hh
                go_simp
                exact ⟨_, rfl, regs.bl_refl _, ⟨A9, c9, rfl, HR9.out⟩, hJ.out⟩
              · refine regs.StepOK.plain rfl fun L a w1 hh => ?_
                obtain ⟨A9, c9, e9, hr9⟩ := hh.dep 9 112 (by kernel_rfl) (by kernel_rfl)
                have h112 : a.tmps[112]?.getD undef = .slice A9 Y.length c9 := by rw [← Array.getD_eq_getD_getElem?]; exact e9
                clear e9
                have HR9 := Lib.hid hr9
                clear hr9
                have hJ := Lib.hid hh.st
                clear hh
                go_simp
                exact ⟨_, rfl, regs.bl_refl _, ⟨A9, c9, rfl, HR9.out⟩, hJ.out⟩
              intro L' w5 val hL hJ hR hv
              obtain ⟨A7, c7, e15, hr7⟩ := (show ∃ A c, val 15 = .slice A X.length c ∧ Row eI w5 A X from hv 10 15 (by kernel_rfl))
              obtain ⟨A8, c8, e16, hr8⟩ := (show ∃ A c, val 16 = .slice A Y.length c ∧ Row eI w5 A Y from hv 11 16 (by kernel_rfl))
              have HB5 : Hid (Below wC.heap.size wC w5) := hR
              have HR7 := Lib.hid hr7
              have HSM := Lib.hid (same_any A7 A8 X Y c7 c8 w5 hr7 hr8 (by have := HXL.out.1; omega) (by have := HXL.out.2; omega))
              clear hv hL hJ hR FC HW1 HW2 hr7 hr8
              simp only [regs.putAll, List.map_cons, List.map_nil, e15, e16]
              simp only [Act.put, List.setIfInBounds_toArray, List.set_cons_zero, List.set_cons_succ]
              clear e15 e16
              generalize val 103 = x103 at *
              generalize val 104 = x104 at *
              generalize val 105 = x105 at *
              generalize val 106 = x106 at *
              generalize val 107 = x107 at *
              generalize val 108 = x108 at *
              generalize val 109 = x109 at *
              generalize val 110 = x110 at *
              generalize val 111 = x111 at *
              generalize val 112 = x112 at *
              simp only [Exit.then]
              go_wp2_with (fail)
              refine HSM.out.mono ?_
              rintro e w6 ⟨rfl, hb6⟩
              have HB6 : Hid (Below wC.heap.size wC w6) := HB5.out.trans (hb6.mono HB5.out.size)
              have HR6 : Hid (Row eI w6 A7 X) := Row.below HR7.out hb6
              have HQ0 : Hid (decide (X = Y) = true ↔ X = Y ∧ ∀ j (h : j < X.length), j < 0 → par ta X[j] = par tb X[j]) := by
                show _ ↔ _
                rw [decide_eq_true_eq]
                exact ⟨fun h => ⟨h, fun j _ h2 => absurd h2 (by omega)⟩, fun h => h.1⟩
              generalize decide (X = Y) = Q0 at *
              clear hb6 HB5 HR7 HSM
              go_wp2_with (fail)
              go_loopw [118, 17] (fun x v wr => ∃ (k : Nat) (q : Bool), k ≤ X.length ∧ x = .int .i64 k ∧ v = .bool q ∧ Hid (q = true ↔ X = Y ∧ ∀ j (h : j < X.length), j < k → par ta X[j] = par tb X[j]) ∧ Hid (Below w6.heap.size w6 wr)) (fun x _ _ => X.length - (intOf x).toNat)
              case atStart => exact ⟨0, Q0, Nat.zero_le _, rfl, rfl, HQ0.out, Below.refl _ _⟩
              case round =>
                obtain ⟨k, q, hk, rfl, rfl, HQ, HK⟩ := hrel
                generalize wr = wD at *
                by_cases hlt : k < X.length
                · have tk : decide (k < X.length) = true := by simpa using hlt
                  have HLT := Lib.hid hlt
                  have hkb : (k : Int) ≤ 10000 := by have := HXL.out.1; omega
                  obtain ⟨b7, o7, rA, k1'⟩ := HR6.out.in_ hlt
                  cases rA
                  have k1 := k1' _ HK.out
                  unfold eI at k1
                  clear k1'
                  have HN1 : Hid (∀ r : Bool, (r = true ↔ q = true ∧ par ta X[k] = par tb X[k]) → (r = true ↔ X = Y ∧ ∀ j (h : j < X.length), j < k + 1 → par ta X[j] = par tb X[j])) := fun r hr => by
                    rw [hr, HQ.out]
                    constructor
                    · rintro ⟨⟨h1, h2⟩, h3⟩
                      refine ⟨h1, fun j hj hjk => ?_⟩
                      by_cases e : j = k
                      · subst e; exact h3
                      · exact h2 j hj (by omega)
                    · rintro ⟨h1, h2⟩
                      exact ⟨⟨h1, fun j hj hjk => h2 j hj (by omega)⟩, h2 k hlt (by omega)⟩
                  clear HQ
                  generalize X[k] = x at *
                  have FC : Hid (∀ W, regs.bl wD W → (W.cell? ⟨g, 0, none⟩ = some (.pointer (some ⟨b, 0, none⟩)) ∧ W.cell? ⟨g, 1, none⟩ = some (.slice Ap ta.length cp) ∧ g < W.heap.size) ∧ W.cell? ⟨g2, 0, none⟩ = some (.pointer (some ⟨d, 0, none⟩)) ∧ W.cell? ⟨g2, 1, none⟩ = some (.slice Aq tb.length cq) ∧ g2 < W.heap.size) := fun W hb => HFC.out W (HB6.out.trans ((HK.out.trans (Below.mono hb HK.out.size)).mono HB6.out.size))
                  have HC1 : Hid (∀ W, regs.bl wD W → Calls Try.prog 23 #[.slice Ap ta.length cp, .int .i64 x] W fun e w' => e = .returned (.int .i64 (par ta x)) ∧ Below W.heap.size W w') := fun W hb => dpar Ap ta cp x W (HRP.out W (HB6.out.trans ((HK.out.trans (Below.mono hb HK.out.size)).mono HB6.out.size))).1 (by have := HTA.out.1; omega)
                  have HC2 : Hid (∀ W, regs.bl wD W → Calls Try.prog 23 #[.slice Aq tb.length cq, .int .i64 x] W fun e w' => e = .returned (.int .i64 (par tb x)) ∧ Below W.heap.size W w') := fun W hb => dpar Aq tb cq x W (HRP.out W (HB6.out.trans ((HK.out.trans (Below.mono hb HK.out.size)).mono HB6.out.size))).2 (by have := HTB.out.1; omega)
                  generalize par ta x = pa at *
                  generalize par tb x = pb at *
                  go_wp2_with (fail)
                  clear k1
                  cases q with
                  | false =>
                    refine regv.wp_region_put (regs.bl) (fun L V _ => KW false false (L 0) (L 1) (L 15) (L 16) (V 17)) [122, 123, 124, 125, 126, 127, 128, 129, 130, 131, 132, 133, 134, 135, 136, 137, 17] (by kernel_rfl) (by kernel_rfl) (fun _ => regs.bl_refl _) (regs.bl_trans) (fun i => (match i with
                      | 0 => regs.Say.val _ (.bool false)
                      | 1 => regs.Say.val _ (.bool false)
                      | 2 => regs.Say.val _ (undef)
                      | 3 => regs.Say.val _ (undef)
                      | 4 => regs.Say.val _ (undef)
                      | 5 => regs.Say.val _ (undef)
                      | 6 => regs.Say.val _ (undef)
                      | 7 => regs.Say.val _ (undef)
                      | 8 => regs.Say.val _ (undef)
                      | 9 => regs.Say.val _ (undef)
                      | 10 => regs.Say.val _ (undef)
                      | 11 => regs.Say.val _ (undef)
                      | 12 => regs.Say.val _ (undef)
                      | 13 => regs.Say.val _ (undef)
                      | 14 => regs.Say.val _ (undef)
                      | 15 => regs.Say.val _ (.bool false)
                      | 16 => regs.Say.any _
                      | _ => regs.Say.any _ : regs.Say (regs.bl)).p) (fun _ => regs.Say.mono _) (by kernel_rfl) ((Below.refl _ _).drew) (⟨rfl, (fun e => nomatch e), (fun e => nomatch e), (fun e => nomatch e)⟩) ⟨?_, ?_, ?_, ?_, ?_, ?_, ?_, ?_, ?_, ?_, ?_, ?_, ?_, ?_, ?_, ?_, ?_, trivial⟩ ?_
                    · refine regv.StepOK.plain rfl fun L a w1 hh => ?_
                      have h17 : a.tmps[17]?.getD undef = .bool false := by rw [← Array.getD_eq_getD_getElem?]; exact KW.old hh.st hh.un
                      have hJ := Lib.hid hh.st
                      clear hh
                      go_simp
                      exact ⟨_, rfl, regs.bl_refl _, rfl, ⟨(regv.sl_ne (by decide)).trans hJ.out.val, hJ.out.o1, hJ.out.o2, fun _ => rfl⟩⟩
                    · refine regv.StepOK.plain rfl fun L a w1 hh => ?_
                      have h122 : a.tmps[122]?.getD undef = .bool false := by rw [← Array.getD_eq_getD_getElem?]; exact hh.dep 0 122 (by kernel_rfl) (by kernel_rfl)
                      have hu := Lib.hid (hh.up 0 (by kernel_rfl))
                      have hJ := Lib.hid hh.st
                      clear hh
                      go_simp
                      exact ⟨_, rfl, regs.bl_refl _, rfl, ⟨(regv.sl_ne (by decide)).trans hJ.out.val, hJ.out.o1, fun _ => rfl, fun _ => hu.out⟩⟩
                    · refine regv.StepOK.no 1 true 123 rfl rfl (fun L a w1 hh => ?_) fun L a w1 hh => ⟨rfl, KW.slot hh.st (sl_put (by decide))⟩
                      exact hh.dep 1 123 (by kernel_rfl) (by kernel_rfl)
                    · refine regv.StepOK.no 1 true 123 rfl rfl (fun L a w1 hh => ?_) fun L a w1 hh => ⟨rfl, KW.slot hh.st (sl_put (by decide))⟩
                      exact hh.dep 1 123 (by kernel_rfl) (by kernel_rfl)
                    · refine regv.StepOK.no 1 true 123 rfl rfl (fun L a w1 hh => ?_) fun L a w1 hh => ⟨rfl, KW.slot hh.st (sl_put (by decide))⟩
                      exact hh.dep 1 123 (by kernel_rfl) (by kernel_rfl)
                    · refine regv.StepOK.no 1 true 123 rfl rfl (fun L a w1 hh => ?_) fun L a w1 hh => ⟨rfl, KW.slot hh.st (sl_put (by decide))⟩
                      exact hh.dep 1 123 (by kernel_rfl) (by kernel_rfl)
                    · refine regv.StepOK.no 1 true 123 rfl rfl (fun L a w1 hh => ?_) fun L a w1 hh => ⟨rfl, KW.slot hh.st (sl_put (by decide))⟩
                      exact hh.dep 1 123 (by kernel_rfl) (by kernel_rfl)
                    · refine regv.StepOK.no 1 true 123 rfl rfl (fun L a w1 hh => ?_) fun L a w1 hh => ⟨rfl, KW.slot hh.st (sl_put (by decide))⟩
                      exact hh.dep 1 123 (by kernel_rfl) (by kernel_rfl)
                    · refine regv.StepOK.no 1 true 123 rfl rfl (fun L a w1 hh => ?_) fun L a w1 hh => ⟨rfl, KW.slot hh.st (sl_put (by decide))⟩
                      exact hh.dep 1 123 (by kernel_rfl) (by kernel_rfl)
                    · refine regv.StepOK.no 1 true 123 rfl rfl (fun L a w1 hh => ?_) fun L a w1 hh => ⟨rfl, KW.slot hh.st (sl_put (by decide))⟩
                      exact hh.dep 1 123 (by kernel_rfl) (by kernel_rfl)
                    · refine regv.StepOK.no 1 true 123 rfl rfl (fun L a w1 hh => ?_) fun L a w1 hh => ⟨rfl, KW.slot hh.st (sl_put (by decide))⟩
                      exact hh.dep 1 123 (by kernel_rfl) (by kernel_rfl)
                    · refine regv.StepOK.no 1 true 123 rfl rfl (fun L a w1 hh => ?_) fun L a w1 hh => ⟨rfl, KW.slot hh.st (sl_put (by decide))⟩
                      exact hh.dep 1 123 (by kernel_rfl) (by kernel_rfl)
                    · refine regv.StepOK.no 1 true 123 rfl rfl (fun L a w1 hh => ?_) fun L a w1 hh => ⟨rfl, KW.slot hh.st (sl_put (by decide))⟩
                      exact hh.dep 1 123 (by kernel_rfl) (by kernel_rfl)
                    · refine regv.StepOK.no 1 true 123 rfl rfl (fun L a w1 hh => ?_) fun L a w1 hh => ⟨rfl, KW.slot hh.st (sl_put (by decide))⟩
                      exact hh.dep 1 123 (by kernel_rfl) (by kernel_rfl)
                    · refine regv.StepOK.no 1 true 123 rfl rfl (fun L a w1 hh => ?_) fun L a w1 hh => ⟨rfl, KW.slot hh.st (sl_put (by decide))⟩
                      exact hh.dep 1 123 (by kernel_rfl) (by kernel_rfl)
                    · refine regv.StepOK.plain rfl fun L a w1 hh => ?_
                      have h123 : a.tmps[123]?.getD undef = .bool false := by rw [← Array.getD_eq_getD_getElem?]; exact hh.dep 1 123 (by kernel_rfl) (by kernel_rfl)
                      have hu := Lib.hid (hh.up 1 (by kernel_rfl))
                      have hJ := Lib.hid hh.st
                      clear hh
                      go_simp
                      exact ⟨_, rfl, regs.bl_refl _, rfl, ⟨(regv.sl_ne (by decide)).trans hJ.out.val, fun _ => rfl, fun _ => hu.out, hJ.out.o3⟩⟩
                    · refine regv.StepOK.plain rfl fun L a w1 hh => ?_
                      have h137 : a.tmps[137]?.getD undef = .bool false := by rw [← Array.getD_eq_getD_getElem?]; exact hh.dep 15 137 (by kernel_rfl) (by kernel_rfl)
                      have hu := Lib.hid (hh.up 15 (by kernel_rfl))
                      have hz := Lib.hid hh.size
                      have hJ := Lib.hid hh.st
                      clear hh
                      go_simp
                      exact ⟨_, rfl, regs.bl_refl _, trivial, ⟨regv.sl_same (by rw [hz.out]; simp), fun _ => hu.out, hJ.out.o2, hJ.out.o3⟩⟩
                    intro L' w7 val hL hJ hR hv
                    have h17 : val 17 = .bool false := by have := hJ.val; rw [hL 16 (by decide)] at this; exact this
                    have HB7 : Hid (Below w6.heap.size w6 w7) := HK.out.trans (Below.mono (show Below wD.heap.size wD w7 from hR) HK.out.size)
                    clear hv hL hJ hR FC HC1 HC2
                    simp only [regs.putAll, List.map_cons, List.map_nil, h17]
                    simp only [Act.put, List.setIfInBounds_toArray, List.set_cons_zero, List.set_cons_succ]
                    clear h17
                    generalize val 122 = t122 at *
                    generalize val 123 = t123 at *
                    generalize val 124 = t124 at *
                    generalize val 125 = t125 at *
                    generalize val 126 = t126 at *
                    generalize val 127 = t127 at *
                    generalize val 128 = t128 at *
                    generalize val 129 = t129 at *
                    generalize val 130 = t130 at *
                    generalize val 131 = t131 at *
                    generalize val 132 = t132 at *
                    generalize val 133 = t133 at *
                    generalize val 134 = t134 at *
                    generalize val 135 = t135 at *
                    generalize val 136 = t136 at *
                    generalize val 137 = t137 at *
                    go_wp2_with (fail)
                    go_roundw
                    case rel => exact ⟨k + 1, false, HLT.out, by go_num, rfl, HN1.out _ (by simp), HB7⟩
                    case measure => have := HLT.out; simp [intOf]; omega
                  | true =>
                    by_cases he : pa = pb
                    · have te : (pa == pb) = true := by simpa using he
                      have HE := Lib.hid he
                      clear he
                      refine regv.wp_region_put (regs.bl) (fun L V _ => KW true true (L 0) (L 1) (L 15) (L 16) (V 17)) [122, 123, 124, 125, 126, 127, 128, 129, 130, 131, 132, 133, 134, 135, 136, 137, 17] (by kernel_rfl) (by kernel_rfl) (fun _ => regs.bl_refl _) (regs.bl_trans) (fun i => (match i with
                        | 0 => regs.Say.val _ (.bool true)
                        | 1 => regs.Say.val _ (.bool true)
                        | 2 => regs.Say.val _ (.pointer (some ⟨g, 0, none⟩))
                        | 3 => regs.Say.val _ (.pointer (some ⟨g, 0, none⟩))
                        | 4 => regs.Say.val _ (.pointer (some ⟨g, 1, none⟩))
                        | 5 => regs.Say.val _ (.slice Ap ta.length cp)
                        | 6 => regs.Say.val _ (.int .i64 x)
                        | 7 => regs.Say.val _ (.int .i64 pa)
                        | 8 => regs.Say.val _ (.pointer (some ⟨g2, 0, none⟩))
                        | 9 => regs.Say.val _ (.pointer (some ⟨g2, 0, none⟩))
                        | 10 => regs.Say.val _ (.pointer (some ⟨g2, 1, none⟩))
                        | 11 => regs.Say.val _ (.slice Aq tb.length cq)
                        | 12 => regs.Say.val _ (.int .i64 x)
                        | 13 => regs.Say.val _ (.int .i64 pb)
                        | 14 => regs.Say.val _ (.bool true)
                        | 15 => regs.Say.val _ (.bool true)
                        | 16 => regs.Say.any _
                        | _ => regs.Say.any _ : regs.Say (regs.bl)).p) (fun _ => regs.Say.mono _) (by kernel_rfl) ((Below.refl _ _).drew) (⟨rfl, (fun e => nomatch e), (fun e => nomatch e), (fun e => nomatch e)⟩) ⟨?_, ?_, ?_, ?_, ?_, ?_, ?_, ?_, ?_, ?_, ?_, ?_, ?_, ?_, ?_, ?_, ?_, trivial⟩ ?_
                      · refine regv.StepOK.plain rfl fun L a w1 hh => ?_
                        have h17 : a.tmps[17]?.getD undef = .bool true := by rw [← Array.getD_eq_getD_getElem?]; exact KW.old hh.st hh.un
                        have hJ := Lib.hid hh.st
                        clear hh
                        go_simp
                        exact ⟨_, rfl, regs.bl_refl _, rfl, ⟨(regv.sl_ne (by decide)).trans hJ.out.val, hJ.out.o1, hJ.out.o2, fun _ => rfl⟩⟩
                      · refine regv.StepOK.plain rfl fun L a w1 hh => ?_
                        have h122 : a.tmps[122]?.getD undef = .bool true := by rw [← Array.getD_eq_getD_getElem?]; exact hh.dep 0 122 (by kernel_rfl) (by kernel_rfl)
                        have hu := Lib.hid (hh.up 0 (by kernel_rfl))
                        have hJ := Lib.hid hh.st
                        clear hh
                        go_simp
                        exact ⟨_, rfl, regs.bl_refl _, rfl, ⟨(regv.sl_ne (by decide)).trans hJ.out.val, hJ.out.o1, fun _ => rfl, fun _ => hu.out⟩⟩
                      · refine regv.StepOK.yes 1 true 123 rfl rfl (fun L a w1 hh => hh.dep 1 123 (by kernel_rfl) (by kernel_rfl)) fun L a w1 hh => ?_
                        have h7 : a.tmps[7]?.getD undef = .pointer (some ⟨g, 0, none⟩) := by rw [← Array.getD_eq_getD_getElem?]; exact hh.old 7 rfl
                        have hJ := Lib.hid hh.st
                        clear hh
                        go_simp
                        exact ⟨_, rfl, regs.bl_refl _, rfl, KW.slot hJ.out (regv.sl_ne (by decide))⟩
                      · refine regv.StepOK.yes 1 true 123 rfl rfl (fun L a w1 hh => hh.dep 1 123 (by kernel_rfl) (by kernel_rfl)) fun L a w1 hh => ?_
                        have h124 : a.tmps[124]?.getD undef = .pointer (some ⟨g, 0, none⟩) := by rw [← Array.getD_eq_getD_getElem?]; exact hh.dep 2 124 (by kernel_rfl) (by kernel_rfl)
                        obtain ⟨⟨p0, p1, pi⟩, p2, p3, p4⟩ := FC.out _ hh.rel
                        have hJ := Lib.hid hh.st
                        clear hh
                        go_simp
                        exact ⟨_, rfl, regs.bl_refl _, rfl, KW.slot hJ.out (regv.sl_ne (by decide))⟩
                      · refine regv.StepOK.yes 1 true 123 rfl rfl (fun L a w1 hh => hh.dep 1 123 (by kernel_rfl) (by kernel_rfl)) fun L a w1 hh => ?_
                        have h125 : a.tmps[125]?.getD undef = .pointer (some ⟨g, 0, none⟩) := by rw [← Array.getD_eq_getD_getElem?]; exact hh.dep 3 125 (by kernel_rfl) (by kernel_rfl)
                        obtain ⟨⟨p0, p1, pi⟩, p2, p3, p4⟩ := FC.out _ hh.rel
                        have hJ := Lib.hid hh.st
                        clear hh
                        go_simp
                        exact ⟨_, rfl, regs.bl_refl _, rfl, KW.slot hJ.out (regv.sl_ne (by decide))⟩
                      · refine regv.StepOK.yes 1 true 123 rfl rfl (fun L a w1 hh => hh.dep 1 123 (by kernel_rfl) (by kernel_rfl)) fun L a w1 hh => ?_
                        have h126 : a.tmps[126]?.getD undef = .pointer (some ⟨g, 1, none⟩) := by rw [← Array.getD_eq_getD_getElem?]; exact hh.dep 4 126 (by kernel_rfl) (by kernel_rfl)
                        obtain ⟨⟨p0, p1, pi⟩, p2, p3, p4⟩ := FC.out _ hh.rel
                        have hJ := Lib.hid hh.st
                        clear hh
                        go_simp
                        exact ⟨_, rfl, regs.bl_refl _, rfl, KW.slot hJ.out (regv.sl_ne (by decide))⟩
                      · refine regv.StepOK.yes 1 true 123 rfl rfl (fun L a w1 hh => hh.dep 1 123 (by kernel_rfl) (by kernel_rfl)) fun L a w1 hh => ?_
                        have h19 : a.tmps[19]?.getD undef = .int .i64 x := by rw [← Array.getD_eq_getD_getElem?]; exact hh.old 19 rfl
                        have hJ := Lib.hid hh.st
                        clear hh
                        go_simp
                        exact ⟨_, rfl, regs.bl_refl _, rfl, KW.slot hJ.out (regv.sl_ne (by decide))⟩
                      · refine regv.StepOK.yes 1 true 123 rfl rfl (fun L a w1 hh => hh.dep 1 123 (by kernel_rfl) (by kernel_rfl)) fun L a w1 hh => ?_
                        have h127 : a.tmps[127]?.getD undef = .slice Ap ta.length cp := by rw [← Array.getD_eq_getD_getElem?]; exact hh.dep 5 127 (by kernel_rfl) (by kernel_rfl)
                        have h128 : a.tmps[128]?.getD undef = .int .i64 x := by rw [← Array.getD_eq_getD_getElem?]; exact hh.dep 6 128 (by kernel_rfl) (by kernel_rfl)
                        have hC := Lib.hid (HC1.out _ hh.rel)
                        have hJ := Lib.hid hh.st
                        clear hh
                        go_simp
                        refine hC.out.mono ?_
                        rintro e w9 ⟨rfl, hb9⟩
                        exact ⟨_, rfl, hb9, rfl, KW.slot hJ.out (regv.sl_ne (by decide))⟩
                      · refine regv.StepOK.yes 1 true 123 rfl rfl (fun L a w1 hh => hh.dep 1 123 (by kernel_rfl) (by kernel_rfl)) fun L a w1 hh => ?_
                        have h10 : a.tmps[10]?.getD undef = .pointer (some ⟨g2, 0, none⟩) := by rw [← Array.getD_eq_getD_getElem?]; exact hh.old 10 rfl
                        have hJ := Lib.hid hh.st
                        clear hh
                        go_simp
                        exact ⟨_, rfl, regs.bl_refl _, rfl, KW.slot hJ.out (regv.sl_ne (by decide))⟩
                      · refine regv.StepOK.yes 1 true 123 rfl rfl (fun L a w1 hh => hh.dep 1 123 (by kernel_rfl) (by kernel_rfl)) fun L a w1 hh => ?_
                        have h130 : a.tmps[130]?.getD undef = .pointer (some ⟨g2, 0, none⟩) := by rw [← Array.getD_eq_getD_getElem?]; exact hh.dep 8 130 (by kernel_rfl) (by kernel_rfl)
                        obtain ⟨⟨p0, p1, pi⟩, p2, p3, p4⟩ := FC.out _ hh.rel
                        have hJ := Lib.hid hh.st
                        clear hh
                        go_simp
                        exact ⟨_, rfl, regs.bl_refl _, rfl, KW.slot hJ.out (regv.sl_ne (by decide))⟩
                      · refine regv.StepOK.yes 1 true 123 rfl rfl (fun L a w1 hh => hh.dep 1 123 (by kernel_rfl) (by kernel_rfl)) fun L a w1 hh => ?_
                        have h131 : a.tmps[131]?.getD undef = .pointer (some ⟨g2, 0, none⟩) := by rw [← Array.getD_eq_getD_getElem?]; exact hh.dep 9 131 (by kernel_rfl) (by kernel_rfl)
                        obtain ⟨⟨p0, p1, pi⟩, p2, p3, p4⟩ := FC.out _ hh.rel
                        have hJ := Lib.hid hh.st
                        clear hh
                        go_simp
                        exact ⟨_, rfl, regs.bl_refl _, rfl, KW.slot hJ.out (regv.sl_ne (by decide))⟩
                      · refine regv.StepOK.yes 1 true 123 rfl rfl (fun L a w1 hh => hh.dep 1 123 (by kernel_rfl) (by kernel_rfl)) fun L a w1 hh => ?_
                        have h132 : a.tmps[132]?.getD undef = .pointer (some ⟨g2, 1, none⟩) := by rw [← Array.getD_eq_getD_getElem?]; exact hh.dep 10 132 (by kernel_rfl) (by kernel_rfl)
                        obtain ⟨⟨p0, p1, pi⟩, p2, p3, p4⟩ := FC.out _ hh.rel
                        have hJ := Lib.hid hh.st
                        clear hh
                        go_simp
                        exact ⟨_, rfl, regs.bl_refl _, rfl, KW.slot hJ.out (regv.sl_ne (by decide))⟩
                      · refine regv.StepOK.yes 1 true 123 rfl rfl (fun L a w1 hh => hh.dep 1 123 (by kernel_rfl) (by kernel_rfl)) fun L a w1 hh => ?_
                        have h19 : a.tmps[19]?.getD undef = .int .i64 x := by rw [← Array.getD_eq_getD_getElem?]; exact hh.old 19 rfl
                        have hJ := Lib.hid hh.st
                        clear hh
                        go_simp
                        exact ⟨_, rfl, regs.bl_refl _, rfl, KW.slot hJ.out (regv.sl_ne (by decide))⟩
                      · refine regv.StepOK.yes 1 true 123 rfl rfl (fun L a w1 hh => hh.dep 1 123 (by kernel_rfl) (by kernel_rfl)) fun L a w1 hh => ?_
                        have h133 : a.tmps[133]?.getD undef = .slice Aq tb.length cq := by rw [← Array.getD_eq_getD_getElem?]; exact hh.dep 11 133 (by kernel_rfl) (by kernel_rfl)
                        have h134 : a.tmps[134]?.getD undef = .int .i64 x := by rw [← Array.getD_eq_getD_getElem?]; exact hh.dep 12 134 (by kernel_rfl) (by kernel_rfl)
                        have hC := Lib.hid (HC2.out _ hh.rel)
                        have hJ := Lib.hid hh.st
                        clear hh
                        go_simp
                        refine hC.out.mono ?_
                        rintro e w9 ⟨rfl, hb9⟩
                        exact ⟨_, rfl, hb9, rfl, KW.slot hJ.out (regv.sl_ne (by decide))⟩
                      · refine regv.StepOK.yes 1 true 123 rfl rfl (fun L a w1 hh => hh.dep 1 123 (by kernel_rfl) (by kernel_rfl)) fun L a w1 hh => ?_
                        have h129 : a.tmps[129]?.getD undef = .int .i64 pa := by rw [← Array.getD_eq_getD_getElem?]; exact hh.dep 7 129 (by kernel_rfl) (by kernel_rfl)
                        have h135 : a.tmps[135]?.getD undef = .int .i64 pb := by rw [← Array.getD_eq_getD_getElem?]; exact hh.dep 13 135 (by kernel_rfl) (by kernel_rfl)
                        have hJ := Lib.hid hh.st
                        clear hh
                        go_simp
                        exact ⟨_, rfl, regs.bl_refl _, rfl, KW.slot hJ.out (regv.sl_ne (by decide))⟩
                      · refine regv.StepOK.plain rfl fun L a w1 hh => ?_
                        have h123 : a.tmps[123]?.getD undef = .bool true := by rw [← Array.getD_eq_getD_getElem?]; exact hh.dep 1 123 (by kernel_rfl) (by kernel_rfl)
                        have h136 : a.tmps[136]?.getD undef = .bool true := by rw [← Array.getD_eq_getD_getElem?]; exact hh.dep 14 136 (by kernel_rfl) (by kernel_rfl)
                        have hu := Lib.hid (hh.up 1 (by kernel_rfl))
                        have hJ := Lib.hid hh.st
                        clear hh
                        go_simp
                        exact ⟨_, rfl, regs.bl_refl _, rfl, ⟨(regv.sl_ne (by decide)).trans hJ.out.val, fun _ => rfl, fun _ => hu.out, hJ.out.o3⟩⟩
                      · refine regv.StepOK.plain rfl fun L a w1 hh => ?_
                        have h137 : a.tmps[137]?.getD undef = .bool true := by rw [← Array.getD_eq_getD_getElem?]; exact hh.dep 15 137 (by kernel_rfl) (by kernel_rfl)
                        have hu := Lib.hid (hh.up 15 (by kernel_rfl))
                        have hz := Lib.hid hh.size
                        have hJ := Lib.hid hh.st
                        clear hh
                        go_simp
                        exact ⟨_, rfl, regs.bl_refl _, trivial, ⟨regv.sl_same (by rw [hz.out]; simp), fun _ => hu.out, hJ.out.o2, hJ.out.o3⟩⟩
                      intro L' w7 val hL hJ hR hv
                      have h17 : val 17 = .bool true := by have := hJ.val; rw [hL 16 (by decide)] at this; exact this
                      have HB7 : Hid (Below w6.heap.size w6 w7) := HK.out.trans (Below.mono (show Below wD.heap.size wD w7 from hR) HK.out.size)
                      clear hv hL hJ hR FC HC1 HC2
                      simp only [regs.putAll, List.map_cons, List.map_nil, h17]
                      simp only [Act.put, List.setIfInBounds_toArray, List.set_cons_zero, List.set_cons_succ]
                      clear h17
                      generalize val 122 = t122 at *
                      generalize val 123 = t123 at *
                      generalize val 124 = t124 at *
                      generalize val 125 = t125 at *
                      generalize val 126 = t126 at *
                      generalize val 127 = t127 at *
                      generalize val 128 = t128 at *
                      generalize val 129 = t129 at *
                      generalize val 130 = t130 at *
                      generalize val 131 = t131 at *
                      generalize val 132 = t132 at *
                      generalize val 133 = t133 at *
                      generalize val 134 = t134 at *
                      generalize val 135 = t135 at *
                      generalize val 136 = t136 at *
                      generalize val 137 = t137 at *
                      go_wp2_with (fail)
                      go_roundw
                      case rel => exact ⟨k + 1, true, HLT.out, by go_num, rfl, HN1.out _ (by simp [HE.out]), HB7⟩
                      case measure => have := HLT.out; simp [intOf]; omega
                    · have te : (pa == pb) = false := by simpa using he
                      have HE := Lib.hid he
                      clear he
                      refine regv.wp_region_put (regs.bl) (fun L V _ => KW true false (L 0) (L 1) (L 15) (L 16) (V 17)) [122, 123, 124, 125, 126, 127, 128, 129, 130, 131, 132, 133, 134, 135, 136, 137, 17] (by kernel_rfl) (by kernel_rfl) (fun _ => regs.bl_refl _) (regs.bl_trans) (fun i => (match i with
                        | 0 => regs.Say.val _ (.bool true)
                        | 1 => regs.Say.val _ (.bool true)
                        | 2 => regs.Say.val _ (.pointer (some ⟨g, 0, none⟩))
                        | 3 => regs.Say.val _ (.pointer (some ⟨g, 0, none⟩))
                        | 4 => regs.Say.val _ (.pointer (some ⟨g, 1, none⟩))
                        | 5 => regs.Say.val _ (.slice Ap ta.length cp)
                        | 6 => regs.Say.val _ (.int .i64 x)
                        | 7 => regs.Say.val _ (.int .i64 pa)
                        | 8 => regs.Say.val _ (.pointer (some ⟨g2, 0, none⟩))
                        | 9 => regs.Say.val _ (.pointer (some ⟨g2, 0, none⟩))
                        | 10 => regs.Say.val _ (.pointer (some ⟨g2, 1, none⟩))
                        | 11 => regs.Say.val _ (.slice Aq tb.length cq)
                        | 12 => regs.Say.val _ (.int .i64 x)
                        | 13 => regs.Say.val _ (.int .i64 pb)
                        | 14 => regs.Say.val _ (.bool false)
                        | 15 => regs.Say.val _ (.bool false)
                        | 16 => regs.Say.any _
                        | _ => regs.Say.any _ : regs.Say (regs.bl)).p) (fun _ => regs.Say.mono _) (by kernel_rfl) ((Below.refl _ _).drew) (⟨rfl, (fun e => nomatch e), (fun e => nomatch e), (fun e => nomatch e)⟩) ⟨?_, ?_, ?_, ?_, ?_, ?_, ?_, ?_, ?_, ?_, ?_, ?_, ?_, ?_, ?_, ?_, ?_, trivial⟩ ?_
                      · refine regv.StepOK.plain rfl fun L a w1 hh => ?_
                        have h17 : a.tmps[17]?.getD undef = .bool true := by rw [← Array.getD_eq_getD_getElem?]; exact KW.old hh.st hh.un
                        have hJ := Lib.hid hh.st
                        clear hh
                        go_simp
                        exact ⟨_, rfl, regs.bl_refl _, rfl, ⟨(regv.sl_ne (by decide)).trans hJ.out.val, hJ.out.o1, hJ.out.o2, fun _ => rfl⟩⟩
                      · refine regv.StepOK.plain rfl fun L a w1 hh => ?_
                        have h122 : a.tmps[122]?.getD undef = .bool true := by rw [← Array.getD_eq_getD_getElem?]; exact hh.dep 0 122 (by kernel_rfl) (by kernel_rfl)
                        have hu := Lib.hid (hh.up 0 (by kernel_rfl))
                        have hJ := Lib.hid hh.st
                        clear hh
                        go_simp
                        exact ⟨_, rfl, regs.bl_refl _, rfl, ⟨(regv.sl_ne (by decide)).trans hJ.out.val, hJ.out.o1, fun _ => rfl, fun _ => hu.out⟩⟩
                      · refine regv.StepOK.yes 1 true 123 rfl rfl (fun L a w1 hh => hh.dep 1 123 (by kernel_rfl) (by kernel_rfl)) fun L a w1 hh => ?_
                        have h7 : a.tmps[7]?.getD undef = .pointer (some ⟨g, 0, none⟩) := by rw [← Array.getD_eq_getD_getElem?]; exact hh.old 7 rfl
                        have hJ := Lib.hid hh.st
                        clear hh
                        go_simp
                        exact ⟨_, rfl, regs.bl_refl _, rfl, KW.slot hJ.out (regv.sl_ne (by decide))⟩
                      · refine regv.StepOK.yes 1 true 123 rfl rfl (fun L a w1 hh => hh.dep 1 123 (by kernel_rfl) (by kernel_rfl)) fun L a w1 hh => ?_
                        have h124 : a.tmps[124]?.getD undef = .pointer (some ⟨g, 0, none⟩) := by rw [← Array.getD_eq_getD_getElem?]; exact hh.dep 2 124 (by kernel_rfl) (by kernel_rfl)
                        obtain ⟨⟨p0, p1, pi⟩, p2, p3, p4⟩ := FC.out _ hh.rel
                        have hJ := Lib.hid hh.st
                        clear hh
                        go_simp
                        exact ⟨_, rfl, regs.bl_refl _, rfl, KW.slot hJ.out (regv.sl_ne (by decide))⟩
                      · refine regv.StepOK.yes 1 true 123 rfl rfl (fun L a w1 hh => hh.dep 1 123 (by kernel_rfl) (by kernel_rfl)) fun L a w1 hh => ?_
                        have h125 : a.tmps[125]?.getD undef = .pointer (some ⟨g, 0, none⟩) := by rw [← Array.getD_eq_getD_getElem?]; exact hh.dep 3 125 (by kernel_rfl) (by kernel_rfl)
                        obtain ⟨⟨p0, p1, pi⟩, p2, p3, p4⟩ := FC.out _ hh.rel
                        have hJ := Lib.hid hh.st
                        clear hh
                        go_simp
                        exact ⟨_, rfl, regs.bl_refl _, rfl, KW.slot hJ.out (regv.sl_ne (by decide))⟩
                      · refine regv.StepOK.yes 1 true 123 rfl rfl (fun L a w1 hh => hh.dep 1 123 (by kernel_rfl) (by kernel_rfl)) fun L a w1 hh => ?_
                        have h126 : a.tmps[126]?.getD undef = .pointer (some ⟨g, 1, none⟩) := by rw [← Array.getD_eq_getD_getElem?]; exact hh.dep 4 126 (by kernel_rfl) (by kernel_rfl)
                        obtain ⟨⟨p0, p1, pi⟩, p2, p3, p4⟩ := FC.out _ hh.rel
                        have hJ := Lib.hid hh.st
                        clear hh
                        go_simp
                        exact ⟨_, rfl, regs.bl_refl _, rfl, KW.slot hJ.out (regv.sl_ne (by decide))⟩
                      · refine regv.StepOK.yes 1 true 123 rfl rfl (fun L a w1 hh => hh.dep 1 123 (by kernel_rfl) (by kernel_rfl)) fun L a w1 hh => ?_
                        have h19 : a.tmps[19]?.getD undef = .int .i64 x := by rw [← Array.getD_eq_getD_getElem?]; exact hh.old 19 rfl
                        have hJ := Lib.hid hh.st
                        clear hh
                        go_simp
                        exact ⟨_, rfl, regs.bl_refl _, rfl, KW.slot hJ.out (regv.sl_ne (by decide))⟩
                      · refine regv.StepOK.yes 1 true 123 rfl rfl (fun L a w1 hh => hh.dep 1 123 (by kernel_rfl) (by kernel_rfl)) fun L a w1 hh => ?_
                        have h127 : a.tmps[127]?.getD undef = .slice Ap ta.length cp := by rw [← Array.getD_eq_getD_getElem?]; exact hh.dep 5 127 (by kernel_rfl) (by kernel_rfl)
                        have h128 : a.tmps[128]?.getD undef = .int .i64 x := by rw [← Array.getD_eq_getD_getElem?]; exact hh.dep 6 128 (by kernel_rfl) (by kernel_rfl)
                        have hC := Lib.hid (HC1.out _ hh.rel)
                        have hJ := Lib.hid hh.st
                        clear hh
                        go_simp
                        refine hC.out.mono ?_
                        rintro e w9 ⟨rfl, hb9⟩
                        exact ⟨_, rfl, hb9, rfl, KW.slot hJ.out (regv.sl_ne (by decide))⟩
                      · refine regv.StepOK.yes 1 true 123 rfl rfl (fun L a w1 hh => hh.dep 1 123 (by kernel_rfl) (by kernel_rfl)) fun L a w1 hh => ?_
                        have h10 : a.tmps[10]?.getD undef = .pointer (some ⟨g2, 0, none⟩) := by rw [← Array.getD_eq_getD_getElem?]; exact hh.old 10 rfl
                        have hJ := Lib.hid hh.st
                        clear hh
                        go_simp
                        exact ⟨_, rfl, regs.bl_refl _, rfl, KW.slot hJ.out (regv.sl_ne (by decide))⟩
                      · refine regv.StepOK.yes 1 true 123 rfl rfl (fun L a w1 hh => hh.dep 1 123 (by kernel_rfl) (by kernel_rfl)) fun L a w1 hh => ?_
                        have h130 : a.tmps[130]?.getD undef = .pointer (some ⟨g2, 0, none⟩) := by rw [← Array.getD_eq_getD_getElem?]; exact hh.dep 8 130 (by kernel_rfl) (by kernel_rfl)
                        obtain ⟨⟨p0, p1, pi⟩, p2, p3, p4⟩ := FC.out _ hh.rel
                        have hJ := Lib.hid hh.st
                        clear hh
                        go_simp
                        exact ⟨_, rfl, regs.bl_refl _, rfl, KW.slot hJ.out (regv.sl_ne (by decide))⟩
                      · refine regv.StepOK.yes 1 true 123 rfl rfl (fun L a w1 hh => hh.dep 1 123 (by kernel_rfl) (by kernel_rfl)) fun L a w1 hh => ?_
                        have h131 : a.tmps[131]?.getD undef = .pointer (some ⟨g2, 0, none⟩) := by rw [← Array.getD_eq_getD_getElem?]; exact hh.dep 9 131 (by kernel_rfl) (by kernel_rfl)
                        obtain ⟨⟨p0, p1, pi⟩, p2, p3, p4⟩ := FC.out _ hh.rel
                        have hJ := Lib.hid hh.st
                        clear hh
                        go_simp
                        exact ⟨_, rfl, regs.bl_refl _, rfl, KW.slot hJ.out (regv.sl_ne (by decide))⟩
                      · refine regv.StepOK.yes 1 true 123 rfl rfl (fun L a w1 hh => hh.dep 1 123 (by kernel_rfl) (by kernel_rfl)) fun L a w1 hh => ?_
                        have h132 : a.tmps[132]?.getD undef = .pointer (some ⟨g2, 1, none⟩) := by rw [← Array.getD_eq_getD_getElem?]; exact hh.dep 10 132 (by kernel_rfl) (by kernel_rfl)
                        obtain ⟨⟨p0, p1, pi⟩, p2, p3, p4⟩ := FC.out _ hh.rel
                        have hJ := Lib.hid hh.st
                        clear hh
                        go_simp
                        exact ⟨_, rfl, regs.bl_refl _, rfl, KW.slot hJ.out (regv.sl_ne (by decide))⟩
                      · refine regv.StepOK.yes 1 true 123 rfl rfl (fun L a w1 hh => hh.dep 1 123 (by kernel_rfl) (by kernel_rfl)) fun L a w1 hh => ?_
                        have h19 : a.tmps[19]?.getD undef = .int .i64 x := by rw [← Array.getD_eq_getD_getElem?]; exact hh.old 19 rfl
                        have hJ := Lib.hid hh.st
                        clear hh
                        go_simp
                        exact ⟨_, rfl, regs.bl_refl _, rfl, KW.slot hJ.out (regv.sl_ne (by decide))⟩
                      · refine regv.StepOK.yes 1 true 123 rfl rfl (fun L a w1 hh => hh.dep 1 123 (by kernel_rfl) (by kernel_rfl)) fun L a w1 hh => ?_
                        have h133 : a.tmps[133]?.getD undef = .slice Aq tb.length cq := by rw [← Array.getD_eq_getD_getElem?]; exact hh.dep 11 133 (by kernel_rfl) (by kernel_rfl)
                        have h134 : a.tmps[134]?.getD undef = .int .i64 x := by rw [← Array.getD_eq_getD_getElem?]; exact hh.dep 12 134 (by kernel_rfl) (by kernel_rfl)
                        have hC := Lib.hid (HC2.out _ hh.rel)
                        have hJ := Lib.hid hh.st
                        clear hh
                        go_simp
                        refine hC.out.mono ?_
                        rintro e w9 ⟨rfl, hb9⟩
                        exact ⟨_, rfl, hb9, rfl, KW.slot hJ.out (regv.sl_ne (by decide))⟩
                      · refine regv.StepOK.yes 1 true 123 rfl rfl (fun L a w1 hh => hh.dep 1 123 (by kernel_rfl) (by kernel_rfl)) fun L a w1 hh => ?_
                        have h129 : a.tmps[129]?.getD undef = .int .i64 pa := by rw [← Array.getD_eq_getD_getElem?]; exact hh.dep 7 129 (by kernel_rfl) (by kernel_rfl)
                        have h135 : a.tmps[135]?.getD undef = .int .i64 pb := by rw [← Array.getD_eq_getD_getElem?]; exact hh.dep 13 135 (by kernel_rfl) (by kernel_rfl)
                        have hJ := Lib.hid hh.st
                        clear hh
                        go_simp
                        exact ⟨_, rfl, regs.bl_refl _, rfl, KW.slot hJ.out (regv.sl_ne (by decide))⟩
                      · refine regv.StepOK.plain rfl fun L a w1 hh => ?_
                        have h123 : a.tmps[123]?.getD undef = .bool true := by rw [← Array.getD_eq_getD_getElem?]; exact hh.dep 1 123 (by kernel_rfl) (by kernel_rfl)
                        have h136 : a.tmps[136]?.getD undef = .bool false := by rw [← Array.getD_eq_getD_getElem?]; exact hh.dep 14 136 (by kernel_rfl) (by kernel_rfl)
                        have hu := Lib.hid (hh.up 1 (by kernel_rfl))
                        have hJ := Lib.hid hh.st
                        clear hh
                        go_simp
                        exact ⟨_, rfl, regs.bl_refl _, rfl, ⟨(regv.sl_ne (by decide)).trans hJ.out.val, fun _ => rfl, fun _ => hu.out, hJ.out.o3⟩⟩
                      · refine regv.StepOK.plain rfl fun L a w1 hh => ?_
                        have h137 : a.tmps[137]?.getD undef = .bool false := by rw [← Array.getD_eq_getD_getElem?]; exact hh.dep 15 137 (by kernel_rfl) (by kernel_rfl)
                        have hu := Lib.hid (hh.up 15 (by kernel_rfl))
                        have hz := Lib.hid hh.size
                        have hJ := Lib.hid hh.st
                        clear hh
                        go_simp
                        exact ⟨_, rfl, regs.bl_refl _, trivial, ⟨regv.sl_same (by rw [hz.out]; simp), fun _ => hu.out, hJ.out.o2, hJ.out.o3⟩⟩
                      intro L' w7 val hL hJ hR hv
                      have h17 : val 17 = .bool false := by have := hJ.val; rw [hL 16 (by decide)] at this; exact this
                      have HB7 : Hid (Below w6.heap.size w6 w7) := HK.out.trans (Below.mono (show Below wD.heap.size wD w7 from hR) HK.out.size)
                      clear hv hL hJ hR FC HC1 HC2
                      simp only [regs.putAll, List.map_cons, List.map_nil, h17]
                      simp only [Act.put, List.setIfInBounds_toArray, List.set_cons_zero, List.set_cons_succ]
                      clear h17
                      generalize val 122 = t122 at *
                      generalize val 123 = t123 at *
                      generalize val 124 = t124 at *
                      generalize val 125 = t125 at *
                      generalize val 126 = t126 at *
                      generalize val 127 = t127 at *
                      generalize val 128 = t128 at *
                      generalize val 129 = t129 at *
                      generalize val 130 = t130 at *
                      generalize val 131 = t131 at *
                      generalize val 132 = t132 at *
                      generalize val 133 = t133 at *
                      generalize val 134 = t134 at *
                      generalize val 135 = t135 at *
                      generalize val 136 = t136 at *
                      generalize val 137 = t137 at *
                      go_wp2_with (fail)
                      go_roundw
                      case rel => exact ⟨k + 1, false, HLT.out, by go_num, rfl, HN1.out _ (by simp [HE.out]), HB7⟩
                      case measure => have := HLT.out; simp [intOf]; omega
                · obtain rfl : k = X.length := by omega
                  have tk : decide (X.length < X.length) = false := by simp
                  have HBD : Hid (Below wC.heap.size wC wD) := HB6.out.trans (HK.out.mono HB6.out.size)
                  have HWT : Hid (q = true ↔ ∀ p, kids ta p = kids tb p) := by
                    show _ ↔ _
                    rw [HQ.out]
                    obtain ⟨hX, hY⟩ := HXE.out
                    constructor
                    · rintro ⟨h1, h2⟩
                      refine alike_of_walk HTA.out.2 HTB.out.2 (by rw [hX, hY]; exact h1) fun y hy => ?_
                      rw [hX] at hy
                      obtain ⟨j, hj, rfl⟩ := List.mem_iff_getElem.1 hy
                      exact h2 j hj hj
                    · intro h
                      exact ⟨by rw [← hX, ← hY]; exact alike_walk HTA.out.2 HTB.out.2 h 0, fun j hj _ => alike_par HTA.out.2 HTB.out.2 h _⟩
                  clear HQ HK HB6
                  have HPW : Hid (∀ W, regs.bl wD W → PlayAt W g b s0 (.slice Ap ta.length cp) ta ∧ PlayAt W g2 d s1 (.slice Aq tb.length cq) tb) := fun W hb => ⟨HPQ.out.1.below (HBD.out.trans (Below.mono hb HBD.out.size)), HPQ.out.2.below (HBD.out.trans (Below.mono hb HBD.out.size))⟩
                  have HI1 : Hid (∀ W, regs.bl wD W → Calls Try.prog 12 #[.pointer (some ⟨g, 0, none⟩)] W fun e w' => e = .returned (.bool true) ∧ Below W.heap.size W w') := fun W hb => is_any (HPW.out W hb).1 (by have := HTA.out.1; omega)
                  have HI2 : Hid (∀ W, regs.bl wD W → Calls Try.prog 12 #[.pointer (some ⟨g2, 0, none⟩)] W fun e w' => e = .returned (.bool true) ∧ Below W.heap.size W w') := fun W hb => is_any (HPW.out W hb).2 (by have := HTB.out.1; omega)
                  have HS1 : Hid (∀ W, regs.bl wD W → Calls Try.prog 21 #[.pointer (some ⟨b, 0, none⟩), .pointer (some ⟨d, 0, none⟩)] W fun e w' => e = .returned (.bool q) ∧ Below W.heap.size W w') := fun W hb => by
                    refine (tsame (HPW.out W hb).1.tree (HPW.out W hb).2.tree (by have := HTA.out.1; omega) (by have := HTB.out.1; omega)).mono ?_
                    rintro e w' ⟨r, rfl, hr, hb7⟩
                    obtain rfl : r = q := Bool.eq_iff_iff.2 (hr.trans HWT.out.symm)
                    exact ⟨rfl, hb7⟩
                  have HS2 : Hid (∀ W, regs.bl wD W → Calls Try.prog 21 #[.pointer (some ⟨d, 0, none⟩), .pointer (some ⟨b, 0, none⟩)] W fun e w' => e = .returned (.bool q) ∧ Below W.heap.size W w') := fun W hb => by
                    refine (tsame (HPW.out W hb).2.tree (HPW.out W hb).1.tree (by have := HTB.out.1; omega) (by have := HTA.out.1; omega)).mono ?_
                    rintro e w' ⟨r, rfl, hr, hb7⟩
                    obtain rfl : r = q := Bool.eq_iff_iff.2 (hr.trans ((forall_congr' fun p => eq_comm).trans HWT.out.symm))
                    exact ⟨rfl, hb7⟩
                  have HAW : Hid (∀ W, regs.bl wD W → Calls Try.prog 9 #[] W fun e w' => e = .returned (.bool true) ∧ Below W.heap.size W w') := fun W _ => awake_any W
                  have FC : Hid (∀ W, regs.bl wD W → (W.cell? ⟨g, 0, none⟩ = some (.pointer (some ⟨b, 0, none⟩)) ∧ W.cell? ⟨g, 1, none⟩ = some (.slice Ap ta.length cp) ∧ g < W.heap.size) ∧ W.cell? ⟨g2, 0, none⟩ = some (.pointer (some ⟨d, 0, none⟩)) ∧ W.cell? ⟨g2, 1, none⟩ = some (.slice Aq tb.length cq) ∧ g2 < W.heap.size) := fun W hb => HFC.out W (HBD.out.trans (Below.mono hb HBD.out.size))
                  have HEQ : Hid ((q == q) = true) := by show _ = _; cases q <;> rfl
                  go_wp2_with (fail)
                  refine regs.wp_region_put (regs.bl) (regs.noJ) [139, 140, 141, 142, 143, 144, 145, 146, 147, 148, 149, 150, 151, 152, 153, 154, 155, 156, 157, 158, 159, 160, 161, 162, 163, 164, 165, 166, 167, 168, 169, 170, 171, 172, 173, 6] (by kernel_rfl) (by kernel_rfl) (fun _ => regs.bl_refl _) (regs.bl_trans) (fun i => (match i with
                    | 0 => regs.Say.val _ (.pointer (some ⟨g, 0, none⟩))
                    | 1 => regs.Say.val _ (.bool true)
                    | 2 => regs.Say.val _ (.bool true)
                    | 3 => regs.Say.val _ (.pointer (some ⟨g2, 0, none⟩))
                    | 4 => regs.Say.val _ (.bool true)
                    | 5 => regs.Say.val _ (.bool true)
                    | 6 => regs.Say.val _ (.bool true)
                    | 7 => regs.Say.val _ (.pointer (some ⟨g, 0, none⟩))
                    | 8 => regs.Say.val _ (.pointer (some ⟨g, 0, none⟩))
                    | 9 => regs.Say.val _ (.pointer (some ⟨g, 0, none⟩))
                    | 10 => regs.Say.val _ (.pointer (some ⟨b, 0, none⟩))
                    | 11 => regs.Say.val _ (.pointer (some ⟨g2, 0, none⟩))
                    | 12 => regs.Say.val _ (.pointer (some ⟨g2, 0, none⟩))
                    | 13 => regs.Say.val _ (.pointer (some ⟨g2, 0, none⟩))
                    | 14 => regs.Say.val _ (.pointer (some ⟨d, 0, none⟩))
                    | 15 => regs.Say.val _ (.bool q)
                    | 16 => regs.Say.val _ (.bool q)
                    | 17 => regs.Say.val _ (.bool true)
                    | 18 => regs.Say.val _ (.bool true)
                    | 19 => regs.Say.val _ (.bool true)
                    | 20 => regs.Say.val _ (.pointer (some ⟨g2, 0, none⟩))
                    | 21 => regs.Say.val _ (.pointer (some ⟨g2, 0, none⟩))
                    | 22 => regs.Say.val _ (.pointer (some ⟨g2, 0, none⟩))
                    | 23 => regs.Say.val _ (.pointer (some ⟨d, 0, none⟩))
                    | 24 => regs.Say.val _ (.pointer (some ⟨g, 0, none⟩))
                    | 25 => regs.Say.val _ (.pointer (some ⟨g, 0, none⟩))
                    | 26 => regs.Say.val _ (.pointer (some ⟨g, 0, none⟩))
                    | 27 => regs.Say.val _ (.pointer (some ⟨b, 0, none⟩))
                    | 28 => regs.Say.val _ (.bool q)
                    | 29 => regs.Say.val _ (.bool q)
                    | 30 => regs.Say.val _ (.bool true)
                    | 31 => regs.Say.val _ (.bool true)
                    | 32 => regs.Say.val _ (.bool true)
                    | 33 => regs.Say.val _ (.bool true)
                    | 34 => regs.Say.val _ (.bool true)
                    | 35 => regs.Say.val _ (.bool true)
                    | _ => regs.Say.any _ : regs.Say (regs.bl)).p) (fun _ => regs.Say.mono _) (by kernel_rfl) ((Below.refl _ _).drew) (regs.noJ_ok _ _) ⟨?_, ?_, ?_, ?_, ?_, ?_, ?_, ?_, ?_, ?_, ?_, ?_, ?_, ?_, ?_, ?_, ?_, ?_, ?_, ?_, ?_, ?_, ?_, ?_, ?_, ?_, ?_, ?_, ?_, ?_, ?_, ?_, ?_, ?_, ?_, ?_, trivial⟩ ?_
                  · refine regs.StepOK.plain rfl fun L a w1 hh => ?_
                    have h7 : a.tmps[7]?.getD undef = .pointer (some ⟨g, 0, none⟩) := by rw [← Array.getD_eq_getD_getElem?]; exact hh.old 7 rfl
                    have hJ := Lib.hid hh.st
                    clear hh
                    go_simp
                    exact ⟨_, rfl, regs.bl_refl _, rfl, hJ.out⟩
                  · refine regs.StepOK.plain rfl fun L a w1 hh => ?_
                    have h139 : a.tmps[139]?.getD undef = .pointer (some ⟨g, 0, none⟩) := by rw [← Array.getD_eq_getD_getElem?]; exact hh.dep 0 139 (by kernel_rfl) (by kernel_rfl)
                    have hC := Lib.hid (HI1.out _ hh.rel)
                    have hJ := Lib.hid hh.st
                    clear hh
                    go_simp
                    refine hC.out.mono ?_
                    rintro e w9 ⟨rfl, hb9⟩
                    exact ⟨_, rfl, hb9, rfl, hJ.out⟩
                  · refine regs.StepOK.plain rfl fun L a w1 hh => ?_
                    have h140 : a.tmps[140]?.getD undef = .bool true := by rw [← Array.getD_eq_getD_getElem?]; exact hh.dep 1 140 (by kernel_rfl) (by kernel_rfl)
                    have hJ := Lib.hid hh.st
                    clear hh
                    go_simp
                    exact ⟨_, rfl, regs.bl_refl _, rfl, hJ.out⟩
                  · refine regs.StepOK.yes 2 true 141 rfl rfl (fun L a w1 hh => hh.dep 2 141 (by kernel_rfl) (by kernel_rfl)) fun L a w1 hh => ?_
                    have h10 : a.tmps[10]?.getD undef = .pointer (some ⟨g2, 0, none⟩) := by rw [← Array.getD_eq_getD_getElem?]; exact hh.old 10 rfl
                    have hJ := Lib.hid hh.st
                    clear hh
                    go_simp
                    exact ⟨_, rfl, regs.bl_refl _, rfl, hJ.out⟩
                  · refine regs.StepOK.yes 2 true 141 rfl rfl (fun L a w1 hh => hh.dep 2 141 (by kernel_rfl) (by kernel_rfl)) fun L a w1 hh => ?_
                    have h142 : a.tmps[142]?.getD undef = .pointer (some ⟨g2, 0, none⟩) := by rw [← Array.getD_eq_getD_getElem?]; exact hh.dep 3 142 (by kernel_rfl) (by kernel_rfl)
                    have hC := Lib.hid (HI2.out _ hh.rel)
                    have hJ := Lib.hid hh.st
                    clear hh
                    go_simp
                    refine hC.out.mono ?_
                    rintro e w9 ⟨rfl, hb9⟩
                    exact ⟨_, rfl, hb9, rfl, hJ.out⟩
                  · refine regs.StepOK.plain rfl fun L a w1 hh => ?_
                    have h141 : a.tmps[141]?.getD undef = .bool true := by rw [← Array.getD_eq_getD_getElem?]; exact hh.dep 2 141 (by kernel_rfl) (by kernel_rfl)
                    have h143 : a.tmps[143]?.getD undef = .bool true := by rw [← Array.getD_eq_getD_getElem?]; exact hh.dep 4 143 (by kernel_rfl) (by kernel_rfl)
                    have hJ := Lib.hid hh.st
                    clear hh
                    go_simp
                    exact ⟨_, rfl, regs.bl_refl _, rfl, hJ.out⟩
                  · refine regs.StepOK.plain rfl fun L a w1 hh => ?_
                    have h144 : a.tmps[144]?.getD undef = .bool true := by rw [← Array.getD_eq_getD_getElem?]; exact hh.dep 5 144 (by kernel_rfl) (by kernel_rfl)
                    have hJ := Lib.hid hh.st
                    clear hh
                    go_simp
                    exact ⟨_, rfl, regs.bl_refl _, rfl, hJ.out⟩
                  · refine regs.StepOK.yes 6 true 145 rfl rfl (fun L a w1 hh => hh.dep 6 145 (by kernel_rfl) (by kernel_rfl)) fun L a w1 hh => ?_
                    have h7 : a.tmps[7]?.getD undef = .pointer (some ⟨g, 0, none⟩) := by rw [← Array.getD_eq_getD_getElem?]; exact hh.old 7 rfl
                    have hJ := Lib.hid hh.st
                    clear hh
                    go_simp
                    exact ⟨_, rfl, regs.bl_refl _, rfl, hJ.out⟩
                  · refine regs.StepOK.yes 6 true 145 rfl rfl (fun L a w1 hh => hh.dep 6 145 (by kernel_rfl) (by kernel_rfl)) fun L a w1 hh => ?_
                    have h146 : a.tmps[146]?.getD undef = .pointer (some ⟨g, 0, none⟩) := by rw [← Array.getD_eq_getD_getElem?]; exact hh.dep 7 146 (by kernel_rfl) (by kernel_rfl)
                    obtain ⟨⟨p0, p1, pi⟩, p2, p3, p4⟩ := FC.out _ hh.rel
                    have hJ := Lib.hid hh.st
                    clear hh
                    go_simp
                    exact ⟨_, rfl, regs.bl_refl _, rfl, hJ.out⟩
                  · refine regs.StepOK.yes 6 true 145 rfl rfl (fun L a w1 hh => hh.dep 6 145 (by kernel_rfl) (by kernel_rfl)) fun L a w1 hh => ?_
                    have h147 : a.tmps[147]?.getD undef = .pointer (some ⟨g, 0, none⟩) := by rw [← Array.getD_eq_getD_getElem?]; exact hh.dep 8 147 (by kernel_rfl) (by kernel_rfl)
                    obtain ⟨⟨p0, p1, pi⟩, p2, p3, p4⟩ := FC.out _ hh.rel
                    have hJ := Lib.hid hh.st
                    clear hh
                    go_simp
                    exact ⟨_, rfl, regs.bl_refl _, rfl, hJ.out⟩
                  · refine regs.StepOK.yes 6 true 145 rfl rfl (fun L a w1 hh => hh.dep 6 145 (by kernel_rfl) (by kernel_rfl)) fun L a w1 hh => ?_
                    have h148 : a.tmps[148]?.getD undef = .pointer (some ⟨g, 0, none⟩) := by rw [← Array.getD_eq_getD_getElem?]; exact hh.dep 9 148 (by kernel_rfl) (by kernel_rfl)
                    obtain ⟨⟨p0, p1, pi⟩, p2, p3, p4⟩ := FC.out _ hh.rel
                    have hJ := Lib.hid hh.st
                    clear hh
                    go_simp
                    exact ⟨_, rfl, regs.bl_refl _, rfl, hJ.out⟩
                  · refine regs.StepOK.yes 6 true 145 rfl rfl (fun L a w1 hh => hh.dep 6 145 (by kernel_rfl) (by kernel_rfl)) fun L a w1 hh => ?_
                    have h10 : a.tmps[10]?.getD undef = .pointer (some ⟨g2, 0, none⟩) := by rw [← Array.getD_eq_getD_getElem?]; exact hh.old 10 rfl
                    have hJ := Lib.hid hh.st
                    clear hh
                    go_simp
                    exact ⟨_, rfl, regs.bl_refl _, rfl, hJ.out⟩
                  · refine regs.StepOK.yes 6 true 145 rfl rfl (fun L a w1 hh => hh.dep 6 145 (by kernel_rfl) (by kernel_rfl)) fun L a w1 hh => ?_
                    have h150 : a.tmps[150]?.getD undef = .pointer (some ⟨g2, 0, none⟩) := by rw [← Array.getD_eq_getD_getElem?]; exact hh.dep 11 150 (by kernel_rfl) (by kernel_rfl)
                    obtain ⟨⟨p0, p1, pi⟩, p2, p3, p4⟩ := FC.out _ hh.rel
                    have hJ := Lib.hid hh.st
                    clear hh
                    go_simp
                    exact ⟨_, rfl, regs.bl_refl _, rfl, hJ.out⟩
                  · refine regs.StepOK.yes 6 true 145 rfl rfl (fun L a w1 hh => hh.dep 6 145 (by kernel_rfl) (by kernel_rfl)) fun L a w1 hh => ?_
                    have h151 : a.tmps[151]?.getD undef = .pointer (some ⟨g2, 0, none⟩) := by rw [← Array.getD_eq_getD_getElem?]; exact hh.dep 12 151 (by kernel_rfl) (by kernel_rfl)
                    obtain ⟨⟨p0, p1, pi⟩, p2, p3, p4⟩ := FC.out _ hh.rel
                    have hJ := Lib.hid hh.st
                    clear hh
                    go_simp
                    exact ⟨_, rfl, regs.bl_refl _, rfl, hJ.out⟩
                  · refine regs.StepOK.yes 6 true 145 rfl rfl (fun L a w1 hh => hh.dep 6 145 (by kernel_rfl) (by kernel_rfl)) fun L a w1 hh => ?_
                    have h152 : a.tmps[152]?.getD undef = .pointer (some ⟨g2, 0, none⟩) := by rw [← Array.getD_eq_getD_getElem?]; exact hh.dep 13 152 (by kernel_rfl) (by kernel_rfl)
                    obtain ⟨⟨p0, p1, pi⟩, p2, p3, p4⟩ := FC.out _ hh.rel
                    have hJ := Lib.hid hh.st
                    clear hh
                    go_simp
                    exact ⟨_, rfl, regs.bl_refl _, rfl, hJ.out⟩
                  · refine regs.StepOK.yes 6 true 145 rfl rfl (fun L a w1 hh => hh.dep 6 145 (by kernel_rfl) (by kernel_rfl)) fun L a w1 hh => ?_
                    have h149 : a.tmps[149]?.getD undef = .pointer (some ⟨b, 0, none⟩) := by rw [← Array.getD_eq_getD_getElem?]; exact hh.dep 10 149 (by kernel_rfl) (by kernel_rfl)
                    have h153 : a.tmps[153]?.getD undef = .pointer (some ⟨d, 0, none⟩) := by rw [← Array.getD_eq_getD_getElem?]; exact hh.dep 14 153 (by kernel_rfl) (by kernel_rfl)
                    have hC := Lib.hid (HS1.out _ hh.rel)
                    have hJ := Lib.hid hh.st
                    clear hh
                    go_simp
                    refine hC.out.mono ?_
                    rintro e w9 ⟨rfl, hb9⟩
                    exact ⟨_, rfl, hb9, rfl, hJ.out⟩
                  · refine regs.StepOK.yes 6 true 145 rfl rfl (fun L a w1 hh => hh.dep 6 145 (by kernel_rfl) (by kernel_rfl)) fun L a w1 hh => ?_
                    have h17 : a.tmps[17]?.getD undef = .bool q := by rw [← Array.getD_eq_getD_getElem?]; exact hh.old 17 rfl
                    have hJ := Lib.hid hh.st
                    clear hh
                    go_simp
                    exact ⟨_, rfl, regs.bl_refl _, rfl, hJ.out⟩
                  · refine regs.StepOK.yes 6 true 145 rfl rfl (fun L a w1 hh => hh.dep 6 145 (by kernel_rfl) (by kernel_rfl)) fun L a w1 hh => ?_
                    have h154 : a.tmps[154]?.getD undef = .bool q := by rw [← Array.getD_eq_getD_getElem?]; exact hh.dep 15 154 (by kernel_rfl) (by kernel_rfl)
                    have h155 : a.tmps[155]?.getD undef = .bool q := by rw [← Array.getD_eq_getD_getElem?]; exact hh.dep 16 155 (by kernel_rfl) (by kernel_rfl)
                    have hq := HEQ.out
                    have hJ := Lib.hid hh.st
                    clear hh
                    go_simp
                    exact ⟨_, rfl, regs.bl_refl _, rfl, hJ.out⟩
                  · refine regs.StepOK.plain rfl fun L a w1 hh => ?_
                    have h145 : a.tmps[145]?.getD undef = .bool true := by rw [← Array.getD_eq_getD_getElem?]; exact hh.dep 6 145 (by kernel_rfl) (by kernel_rfl)
                    have h156 : a.tmps[156]?.getD undef = .bool true := by rw [← Array.getD_eq_getD_getElem?]; exact hh.dep 17 156 (by kernel_rfl) (by kernel_rfl)
                    have hJ := Lib.hid hh.st
                    clear hh
                    go_simp
                    exact ⟨_, rfl, regs.bl_refl _, rfl, hJ.out⟩
                  · refine regs.StepOK.plain rfl fun L a w1 hh => ?_
                    have h157 : a.tmps[157]?.getD undef = .bool true := by rw [← Array.getD_eq_getD_getElem?]; exact hh.dep 18 157 (by kernel_rfl) (by kernel_rfl)
                    have hJ := Lib.hid hh.st
                    clear hh
                    go_simp
                    exact ⟨_, rfl, regs.bl_refl _, rfl, hJ.out⟩
                  · refine regs.StepOK.yes 19 true 158 rfl rfl (fun L a w1 hh => hh.dep 19 158 (by kernel_rfl) (by kernel_rfl)) fun L a w1 hh => ?_
                    have h10 : a.tmps[10]?.getD undef = .pointer (some ⟨g2, 0, none⟩) := by rw [← Array.getD_eq_getD_getElem?]; exact hh.old 10 rfl
                    have hJ := Lib.hid hh.st
                    clear hh
                    go_simp
                    exact ⟨_, rfl, regs.bl_refl _, rfl, hJ.out⟩
                  · refine regs.StepOK.yes 19 true 158 rfl rfl (fun L a w1 hh => hh.dep 19 158 (by kernel_rfl) (by kernel_rfl)) fun L a w1 hh => ?_
                    have h159 : a.tmps[159]?.getD undef = .pointer (some ⟨g2, 0, none⟩) := by rw [← Array.getD_eq_getD_getElem?]; exact hh.dep 20 159 (by kernel_rfl) (by kernel_rfl)
                    obtain ⟨⟨p0, p1, pi⟩, p2, p3, p4⟩ := FC.out _ hh.rel
                    have hJ := Lib.hid hh.st
                    clear hh
                    go_simp
                    exact ⟨_, rfl, regs.bl_refl _, rfl, hJ.out⟩
                  · refine regs.StepOK.yes 19 true 158 rfl rfl (fun L a w1 hh => hh.dep 19 158 (by kernel_rfl) (by kernel_rfl)) fun L a w1 hh => ?_
                    have h160 : a.tmps[160]?.getD undef = .pointer (some ⟨g2, 0, none⟩) := by rw [← Array.getD_eq_getD_getElem?]; exact hh.dep 21 160 (by kernel_rfl) (by kernel_rfl)
                    obtain ⟨⟨p0, p1, pi⟩, p2, p3, p4⟩ := FC.out _ hh.rel
                    have hJ := Lib.hid hh.st
                    clear hh
                    go_simp
                    exact ⟨_, rfl, regs.bl_refl _, rfl, hJ.out⟩
                  · refine regs.StepOK.yes 19 true 158 rfl rfl (fun L a w1 hh => hh.dep 19 158 (by kernel_rfl) (by kernel_rfl)) fun L a w1 hh => ?_
                    have h161 : a.tmps[161]?.getD undef = .pointer (some ⟨g2, 0, none⟩) := by rw [← Array.getD_eq_getD_getElem?]; exact hh.dep 22 161 (by kernel_rfl) (by kernel_rfl)
                    obtain ⟨⟨p0, p1, pi⟩, p2, p3, p4⟩ := FC.out _ hh.rel
                    have hJ := Lib.hid hh.st
                    clear hh
                    go_simp
                    exact ⟨_, rfl, regs.bl_refl _, rfl, hJ.out⟩
                  · refine regs.StepOK.yes 19 true 158 rfl rfl (fun L a w1 hh => hh.dep 19 158 (by kernel_rfl) (by kernel_rfl)) fun L a w1 hh => ?_
                    have h7 : a.tmps[7]?.getD undef = .pointer (some ⟨g, 0, none⟩) := by rw [← Array.getD_eq_getD_getElem?]; exact hh.old 7 rfl
                    have hJ := Lib.hid hh.st
                    clear hh
                    go_simp
                    exact ⟨_, rfl, regs.bl_refl _, rfl, hJ.out⟩
                  · refine regs.StepOK.yes 19 true 158 rfl rfl (fun L a w1 hh => hh.dep 19 158 (by kernel_rfl) (by kernel_rfl)) fun L a w1 hh => ?_
                    have h163 : a.tmps[163]?.getD undef = .pointer (some ⟨g, 0, none⟩) := by rw [← Array.getD_eq_getD_getElem?]; exact hh.dep 24 163 (by kernel_rfl) (by kernel_rfl)
                    obtain ⟨⟨p0, p1, pi⟩, p2, p3, p4⟩ := FC.out _ hh.rel
                    have hJ := Lib.hid hh.st
                    clear hh
                    go_simp
                    exact ⟨_, rfl, regs.bl_refl _, rfl, hJ.out⟩
                  · refine regs.StepOK.yes 19 true 158 rfl rfl (fun L a w1 hh => hh.dep 19 158 (by kernel_rfl) (by kernel_rfl)) fun L a w1 hh => ?_
                    have h164 : a.tmps[164]?.getD undef = .pointer (some ⟨g, 0, none⟩) := by rw [← Array.getD_eq_getD_getElem?]; exact hh.dep 25 164 (by kernel_rfl) (by kernel_rfl)
                    obtain ⟨⟨p0, p1, pi⟩, p2, p3, p4⟩ := FC.out _ hh.rel
                    have hJ := Lib.hid hh.st
                    clear hh
                    go_simp
                    exact ⟨_, rfl, regs.bl_refl _, rfl, hJ.out⟩
                  · refine regs.StepOK.yes 19 true 158 rfl rfl (fun L a w1 hh => hh.dep 19 158 (by kernel_rfl) (by kernel_rfl)) fun L a w1 hh => ?_
                    have h165 : a.tmps[165]?.getD undef = .pointer (some ⟨g, 0, none⟩) := by rw [← Array.getD_eq_getD_getElem?]; exact hh.dep 26 165 (by kernel_rfl) (by kernel_rfl)
                    obtain ⟨⟨p0, p1, pi⟩, p2, p3, p4⟩ := FC.out _ hh.rel
                    have hJ := Lib.hid hh.st
                    clear hh
                    go_simp
                    exact ⟨_, rfl, regs.bl_refl _, rfl, hJ.out⟩
                  · refine regs.StepOK.yes 19 true 158 rfl rfl (fun L a w1 hh => hh.dep 19 158 (by kernel_rfl) (by kernel_rfl)) fun L a w1 hh => ?_
                    have h162 : a.tmps[162]?.getD undef = .pointer (some ⟨d, 0, none⟩) := by rw [← Array.getD_eq_getD_getElem?]; exact hh.dep 23 162 (by kernel_rfl) (by kernel_rfl)
                    have h166 : a.tmps[166]?.getD undef = .pointer (some ⟨b, 0, none⟩) := by rw [← Array.getD_eq_getD_getElem?]; exact hh.dep 27 166 (by kernel_rfl) (by kernel_rfl)
                    have hC := Lib.hid (HS2.out _ hh.rel)
                    have hJ := Lib.hid hh.st
                    clear hh
                    go_simp
                    refine hC.out.mono ?_
                    rintro e w9 ⟨rfl, hb9⟩
                    exact ⟨_, rfl, hb9, rfl, hJ.out⟩
                  · refine regs.StepOK.yes 19 true 158 rfl rfl (fun L a w1 hh => hh.dep 19 158 (by kernel_rfl) (by kernel_rfl)) fun L a w1 hh => ?_
                    have h17 : a.tmps[17]?.getD undef = .bool q := by rw [← Array.getD_eq_getD_getElem?]; exact hh.old 17 rfl
                    have hJ := Lib.hid hh.st
                    clear hh
                    go_simp
                    exact ⟨_, rfl, regs.bl_refl _, rfl, hJ.out⟩
                  · refine regs.StepOK.yes 19 true 158 rfl rfl (fun L a w1 hh => hh.dep 19 158 (by kernel_rfl) (by kernel_rfl)) fun L a w1 hh => ?_
                    have h167 : a.tmps[167]?.getD undef = .bool q := by rw [← Array.getD_eq_getD_getElem?]; exact hh.dep 28 167 (by kernel_rfl) (by kernel_rfl)
                    have h168 : a.tmps[168]?.getD undef = .bool q := by rw [← Array.getD_eq_getD_getElem?]; exact hh.dep 29 168 (by kernel_rfl) (by kernel_rfl)
                    have hq := HEQ.out
                    have hJ := Lib.hid hh.st
                    clear hh
                    go_simp
                    exact ⟨_, rfl, regs.bl_refl _, rfl, hJ.out⟩
                  · refine regs.StepOK.plain rfl fun L a w1 hh => ?_
                    have h158 : a.tmps[158]?.getD undef = .bool true := by rw [← Array.getD_eq_getD_getElem?]; exact hh.dep 19 158 (by kernel_rfl) (by kernel_rfl)
                    have h169 : a.tmps[169]?.getD undef = .bool true := by rw [← Array.getD_eq_getD_getElem?]; exact hh.dep 30 169 (by kernel_rfl) (by kernel_rfl)
                    have hJ := Lib.hid hh.st
                    clear hh
                    go_simp
                    exact ⟨_, rfl, regs.bl_refl _, rfl, hJ.out⟩
                  · refine regs.StepOK.plain rfl fun L a w1 hh => ?_
                    have h170 : a.tmps[170]?.getD undef = .bool true := by rw [← Array.getD_eq_getD_getElem?]; exact hh.dep 31 170 (by kernel_rfl) (by kernel_rfl)
                    have hJ := Lib.hid hh.st
                    clear hh
                    go_simp
                    exact ⟨_, rfl, regs.bl_refl _, rfl, hJ.out⟩
                  · refine regs.StepOK.yes 32 true 171 rfl rfl (fun L a w1 hh => hh.dep 32 171 (by kernel_rfl) (by kernel_rfl)) fun L a w1 hh => ?_
                    have hC := Lib.hid (HAW.out _ hh.rel)
                    have hJ := Lib.hid hh.st
                    clear hh
                    go_simp
                    refine hC.out.mono ?_
                    rintro e w9 ⟨rfl, hb9⟩
                    exact ⟨_, rfl, hb9, rfl, hJ.out⟩
                  · refine regs.StepOK.plain rfl fun L a w1 hh => ?_
                    have h171 : a.tmps[171]?.getD undef = .bool true := by rw [← Array.getD_eq_getD_getElem?]; exact hh.dep 32 171 (by kernel_rfl) (by kernel_rfl)
                    have h172 : a.tmps[172]?.getD undef = .bool true := by rw [← Array.getD_eq_getD_getElem?]; exact hh.dep 33 172 (by kernel_rfl) (by kernel_rfl)
                    have hJ := Lib.hid hh.st
                    clear hh
                    go_simp
                    exact ⟨_, rfl, regs.bl_refl _, rfl, hJ.out⟩
                  · refine regs.StepOK.plain rfl fun L a w1 hh => ?_
                    have h173 : a.tmps[173]?.getD undef = .bool true := by rw [← Array.getD_eq_getD_getElem?]; exact hh.dep 34 173 (by kernel_rfl) (by kernel_rfl)
                    have hJ := Lib.hid hh.st
                    clear hh
                    go_simp
                    exact ⟨_, rfl, regs.bl_refl _, rfl, hJ.out⟩
                  intro L' w8 val hL hJ hR hv
                  have h6 : val 6 = .bool true := hv 35 6 (by kernel_rfl)
                  have HB8 : Hid (Below w.heap.size w w8) := HTW6.out.bel.trans ((HBD.out.trans (Below.mono (show Below wD.heap.size wD w8 from hR) HBD.out.size)).mono HTW6.out.bel.size)
                  clear hv hL hJ hR
                  simp only [regs.putAll, List.map_cons, List.map_nil, h6]
                  simp only [Act.put, List.setIfInBounds_toArray, List.set_cons_zero, List.set_cons_succ]
                  clear h6
                  generalize val 139 = u139 at *
                  generalize val 140 = u140 at *
                  generalize val 141 = u141 at *
                  generalize val 142 = u142 at *
                  generalize val 143 = u143 at *
                  generalize val 144 = u144 at *
                  generalize val 145 = u145 at *
                  generalize val 146 = u146 at *
                  generalize val 147 = u147 at *
                  generalize val 148 = u148 at *
                  generalize val 149 = u149 at *
                  generalize val 150 = u150 at *
                  generalize val 151 = u151 at *
                  generalize val 152 = u152 at *
                  generalize val 153 = u153 at *
                  generalize val 154 = u154 at *
                  generalize val 155 = u155 at *
                  generalize val 156 = u156 at *
                  generalize val 157 = u157 at *
                  generalize val 158 = u158 at *
                  generalize val 159 = u159 at *
                  generalize val 160 = u160 at *
                  generalize val 161 = u161 at *
                  generalize val 162 = u162 at *
                  generalize val 163 = u163 at *
                  generalize val 164 = u164 at *
                  generalize val 165 = u165 at *
                  generalize val 166 = u166 at *
                  generalize val 167 = u167 at *
                  generalize val 168 = u168 at *
                  generalize val 169 = u169 at *
                  generalize val 170 = u170 at *
                  generalize val 171 = u171 at *
                  generalize val 172 = u172 at *
                  generalize val 173 = u173 at *
                  go_wp2_with (fail)
                  go_ret
                  exact ⟨rfl, HB8.out⟩
end Go.Proofs.Ytokochkjjlbnkaa
