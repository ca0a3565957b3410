/-
  Layer 9: the document's own Over.
-/
import Derived.Test.YtolekbgbcahfgaaPxD
namespace Go.Proofs.Ytolekbgbcahfgaa
open Go.RowKit pxm

/-- how the world stands in a region that draws its order: old blocks stay; one cell of an older block is written, once all is read (iL: what must be read has been) -/
def JC (B : Nat) (old : List (Nat × List Value)) (g : Nat) (zs cs : List Value) (iL iS : Bool) (w : World) : Prop :=
  (JBs old w ∧ B ≤ w.heap.size ∧ ∀ p ∈ old, p.1 ≠ g) ∧ B ≤ g ∧ Blk w g (bif iS then cs else zs) ∧ (iS = true → iL = true)
section
variable {B : Nat} {old : List (Nat × List Value)} {g : Nat} {zs cs : List Value} {iL iS : Bool} {w w' : World}
theorem JC.below (h : JC B old g zs cs iL iS w) (hb : Below w.heap.size w w') : JC B old g zs cs iL iS w' :=
  ⟨⟨h.1.1.below hb, Nat.le_trans h.1.2.1 hb.size, h.1.2.2⟩, h.2.1, h.2.2.1.below' hb, h.2.2.2⟩
theorem JC.read (h : JC B old g zs cs iL iS w) (eL : iL = false) : Blk w g zs ∧ iS = false := by
  have eS : iS = false := by
    cases hi : iS with
    | false => rfl
    | true => have := h.2.2.2 hi; rw [eL] at this; cases this
  have := h.2.2.1
  rw [eS] at this
  exact ⟨this, eS⟩
theorem JC.done (h : JC B old g zs cs iL iS w) : JC B old g zs cs true iS w :=
  ⟨h.1, h.2.1, h.2.2.1, fun _ => rfl⟩
theorem JC.put {i : Nat} {v : Value} (h : JC B old g zs cs iL iS w) (eS : iS = false) (eL : iL = true) (hv : zs.set i v = cs) : JC B old g zs cs iL true (w.setCell ⟨g, i, none⟩ v) ∧ Below B w (w.setCell ⟨g, i, none⟩ v) := by
  subst eS
  have hb : Below B w (w.setCell ⟨g, i, none⟩ v) := below_set (Below.refl _ _) h.2.1
  refine ⟨⟨⟨?_, Nat.le_trans h.1.2.1 hb.size, h.1.2.2⟩, h.2.1, ?_, fun _ => eL⟩, hb⟩
  · have := h.1.1
    have hne := h.1.2.2
    clear h hb
    induction old with
    | nil => trivial
    | cons x l ih => exact ⟨this.1.other (hne x List.mem_cons_self) i v, ih this.2 fun y hy => hne y (List.mem_cons_of_mem _ hy)⟩
  · show Blk _ _ cs
    rw [← hv]
    exact h.2.2.1.set i v
theorem JC.start (h : JBs old w) (hB : B ≤ g) (hg : Blk w g zs) (hne : ∀ p ∈ old, p.1 ≠ g) : JC B old g zs cs false false w :=
  ⟨⟨h, Nat.le_trans hB (Nat.le_of_lt hg.inside), hne⟩, hB, hg, fun e => nomatch e⟩
end
theorem over_part (s d : P4) (hs : s.Right) (hd : d.Right) {k : Nat} (hk : k < 4) : ∃ x y n, x < 256 ∧ y < 256 ∧ n < 256 ∧ x + by_ y (255 - s.a) = n ∧ s.cs[k]? = some (.int .i64 (x : Nat)) ∧ d.cs[k]? = some (.int .i64 (y : Nat)) ∧ (s.over d).cs[k]? = some (.int .i64 (n : Nat)) := by
  obtain ⟨o1, o2, o3, o4⟩ := (hs.over hd).bytes
  obtain ⟨h1, h2, h3, h4⟩ := hs.bytes
  obtain ⟨k1, k2, k3, k4⟩ := hd.bytes
  obtain rfl | rfl | rfl | rfl : k = 0 ∨ k = 1 ∨ k = 2 ∨ k = 3 := by omega
  · exact ⟨_, _, _, h1, k1, o1, rfl, rfl, rfl, rfl⟩
  · exact ⟨_, _, _, h2, k2, o2, rfl, rfl, rfl, rfl⟩
  · exact ⟨_, _, _, h3, k3, o3, rfl, rfl, rfl, rfl⟩
  · exact ⟨_, _, _, h4, k4, o4, rfl, rfl, rfl, rfl⟩
set_option maxRecDepth 100000 in
set_option maxHeartbeats 2000000 in
theorem dover_any (s d : P4) (hs : s.Right) (hd : d.Right) (w : World) :
    Calls Try.prog 18 #[.agg #[.int .i64 (s.r : Nat), .int .i64 (s.g : Nat), .int .i64 (s.b : Nat), .int .i64 (s.a : Nat)], .agg #[.int .i64 (d.r : Nat), .int .i64 (d.g : Nat), .int .i64 (d.b : Nat), .int .i64 (d.a : Nat)]] w
      fun e w' => e = .returned (.agg #[.int .i64 ((s.over d).r : Nat), .int .i64 ((s.over d).g : Nat), .int .i64 ((s.over d).b : Nat), .int .i64 ((s.over d).a : Nat)]) ∧ Below w.heap.size w w' := by
  have HE : Hid (s.cs = [.int .i64 (s.r : Nat), .int .i64 (s.g : Nat), .int .i64 (s.b : Nat), .int .i64 (s.a : Nat)]) := rfl
  have HD : Hid (d.cs = [.int .i64 (d.r : Nat), .int .i64 (d.g : Nat), .int .i64 (d.b : Nat), .int .i64 (d.a : Nat)]) := rfl
  have HA : Hid ((s.over d).cs = [.int .i64 ((s.over d).r : Nat), .int .i64 ((s.over d).g : Nat), .int .i64 ((s.over d).b : Nat), .int .i64 ((s.over d).a : Nat)]) := rfl
  have HL := Lib.hid (And.intro (cs_len (s.over d)) (cs_len s))
  have HT := Lib.hid (fun k (hk : k < 4) => over_part s d hs hd hk)
  have ha : s.a ≤ 255 := hs.2.2.2
  clear hs hd
  generalize s.over d = t at *
  generalize t.cs = A at *
  generalize s.cs = X at *
  generalize d.cs = Y at *
  obtain ⟨tr, tg, tb, ta⟩ := t
  obtain ⟨sr, sg, sb, sa⟩ := s
  obtain ⟨dr, dg, db, da⟩ := d
  simp only at HA HE HD HT ha ⊢
  go_enter Try.func18, Try.ntmps18
  go_wp2_with (fail)
  go_loopw [6] (fun i wr => ∃ k : Nat, k ≤ 4 ∧ i = .int .i64 k ∧ Hid (Below w.heap.size w wr) ∧ Hid (Blk wr w.heap.size (mix A X k)) ∧ Hid (Blk wr (w.heap.size + 1) Y) ∧ Hid (Blk wr (w.heap.size + 1 + 1) [.int .i64 0, .int .i64 0, .int .i64 0, .int .i64 0])) (fun i _ => 4 - (intOf i).toNat)
  case atStart =>
    refine ⟨0, Nat.zero_le _, rfl, (((Below.refl _ _).alloc (Nat.le_refl _) _).alloc (by simp) _).alloc (by simp; omega) _, ?_, ?_, blk_at ((w.alloc _).alloc _) _ (by simp) [.int .i64 0, .int .i64 0, .int .i64 0, .int .i64 0] _⟩
    · rw [mix_0, HE.out]
      exact ((blk_new w [.int .i64 (sr : Nat), .int .i64 (sg : Nat), .int .i64 (sb : Nat), .int .i64 (sa : Nat)] _).alloc _).alloc _
    · rw [HD.out]
      exact (blk_at (w.alloc _) _ (by simp) [.int .i64 (dr : Nat), .int .i64 (dg : Nat), .int .i64 (db : Nat), .int .i64 (da : Nat)] _).alloc _
  case round =>
    obtain ⟨k, hk, rfl, HB, HM, HY, HR⟩ := hrel
    by_cases hlt : k < 4
    · obtain ⟨x, y, n, hx, hy, hn, hz, e1, e2, e3⟩ := HT.out k hlt
      have ex := Lib.hid ((mix_at (HL.out.1.trans HL.out.2.symm) (by rw [HL.out.1]; exact hlt) (Nat.le_refl k)).trans e1)
      have HS := Lib.hid (mix_step (HL.out.1.trans HL.out.2.symm) e3)
      have HC := Lib.hid (fun w => bel_of_drew (dby_any y (255 - sa) hy (by omega) w))
      have ey := Lib.hid e2
      have q1 : (255 : Int) - (sa : Int) = ((255 - sa : Nat) : Int) := by omega
      have hq2 : 255 - sa ≤ 255 := by omega
      clear e1 e2 e3 hy HE HD HA HT
      generalize by_ y (255 - sa) = z at *
      generalize 255 - sa = q at *
      have q2 : IntKind.i64.wrap (q : Int) = q := IntWalk.i64_in _ (by omega)
      have q3 : (x : Int) + (z : Int) = (n : Int) := by omega
      have q4 : IntKind.i64.wrap (n : Int) = n := IntWalk.i64_in _ (by omega)
      have HQ3 := Lib.hid (And.intro q3 q4)
      have HQ2 := Lib.hid q2
      clear hz q2 q3 q4
      have HJ0 : Hid (JC w.heap.size [(w.heap.size + 1, Y), (w.heap.size + 1 + 1, [.int .i64 0, .int .i64 0, .int .i64 0, .int .i64 0])] w.heap.size (mix A X k) (mix A X (k + 1)) false false wr.drew) :=
        JC.start ⟨HY.out, HR.out, trivial⟩ (Nat.le_refl _) HM.out (by intro p hp; simp at hp; rcases hp with rfl | rfl <;> simp only <;> omega)
      have HQ := Lib.hid q1
      clear HY HR HM q1
      go_wp2_with (fail)
      refine regs.wp_region_put (Below w.heap.size) (fun L wx => JC w.heap.size [(w.heap.size + 1, Y), (w.heap.size + 1 + 1, [.int .i64 0, .int .i64 0, .int .i64 0, .int .i64 0])] w.heap.size (mix A X k) (mix A X (k + 1)) (L 3) (L 12) wx) [13, 14, 15, 16, 17, 18, 19, 20, 21, 22, 23, 24] (by kernel_rfl) (by kernel_rfl) (fun _ => Below.refl _ _) (fun _ _ _ h k => h.trans k) (fun i => (match i with
        | 0 => regs.Say.val _ (.int .i64 (k : Nat))
        | 1 => regs.Say.val _ (.int .i64 (k : Nat))
        | 2 => regs.Say.val _ (.pointer (some ⟨w.heap.size, k, none⟩))
        | 3 => regs.Say.val _ (.int .i64 (x : Nat))
        | 4 => regs.Say.val _ (.int .i64 (k : Nat))
        | 5 => regs.Say.val _ (.pointer (some ⟨w.heap.size + 1, k, none⟩))
        | 6 => regs.Say.val _ (.int .i64 (y : Nat))
        | 7 => regs.Say.val _ (.int .i64 (sa : Nat))
        | 8 => regs.Say.val _ (.int .i64 (q : Nat))
        | 9 => regs.Say.val _ (.int .i64 (z : Nat))
        | 10 => regs.Say.val _ (.int .i64 (n : Nat))
        | 11 => regs.Say.val _ (.pointer (some ⟨w.heap.size, k, none⟩))
        | 12 => regs.Say.any _
        | _ => regs.Say.any _ : regs.Say (Below w.heap.size)).p) (fun _ => regs.Say.mono _) (by kernel_rfl) ((Below.refl _ _).drew) (HJ0.out) ⟨?_, ?_, ?_, ?_, ?_, ?_, ?_, ?_, ?_, ?_, ?_, ?_, ?_, trivial⟩ ?_
      · refine regs.StepOK.plain rfl fun L a w1 hh => ?_
        have h6 : a.tmps[6]?.getD undef = .int .i64 (k : Nat) := by rw [← Array.getD_eq_getD_getElem?]; exact hh.old 6 rfl
        have hJ := Lib.hid hh.st
        clear hh
        go_simp
        exact ⟨_, rfl, Below.refl _ _, rfl, hJ.out⟩
      · refine regs.StepOK.plain rfl fun L a w1 hh => ?_
        have h6 : a.tmps[6]?.getD undef = .int .i64 (k : Nat) := by rw [← Array.getD_eq_getD_getElem?]; exact hh.old 6 rfl
        have hJ := Lib.hid hh.st
        clear hh
        go_simp
        exact ⟨_, rfl, Below.refl _ _, rfl, hJ.out⟩
      · refine regs.StepOK.plain rfl fun L a w1 hh => ?_
        have h2 : a.tmps[2]?.getD undef = .pointer (some ⟨w.heap.size, 0, none⟩) := by rw [← Array.getD_eq_getD_getElem?]; exact hh.old 2 rfl
        have h14 : a.tmps[14]?.getD undef = .int .i64 (k : Nat) := by rw [← Array.getD_eq_getD_getElem?]; exact hh.dep 1 14 (by kernel_rfl) (by kernel_rfl)
        have hJ := Lib.hid hh.st
        clear hh
        go_simp
        exact ⟨_, rfl, Below.refl _ _, rfl, hJ.out⟩
      · refine regs.StepOK.plain rfl fun L a w1 hh => ?_
        have h15 : a.tmps[15]?.getD undef = .pointer (some ⟨w.heap.size, k, none⟩) := by rw [← Array.getD_eq_getD_getElem?]; exact hh.dep 2 15 (by kernel_rfl) (by kernel_rfl)
        have hrd := hh.st.read hh.un
        have c0 := (hrd.1.cell k).trans ex.out
        have ci := hrd.1.inside
        have hJ := Lib.hid hh.st.done
        clear hh hrd
        go_simp
        exact ⟨_, rfl, Below.refl _ _, rfl, hJ.out⟩
      · refine regs.StepOK.plain rfl fun L a w1 hh => ?_
        have h6 : a.tmps[6]?.getD undef = .int .i64 (k : Nat) := by rw [← Array.getD_eq_getD_getElem?]; exact hh.old 6 rfl
        have hJ := Lib.hid hh.st
        clear hh
        go_simp
        exact ⟨_, rfl, Below.refl _ _, rfl, hJ.out⟩
      · refine regs.StepOK.plain rfl fun L a w1 hh => ?_
        have h3 : a.tmps[3]?.getD undef = .pointer (some ⟨w.heap.size + 1, 0, none⟩) := by rw [← Array.getD_eq_getD_getElem?]; exact hh.old 3 rfl
        have h17 : a.tmps[17]?.getD undef = .int .i64 (k : Nat) := by rw [← Array.getD_eq_getD_getElem?]; exact hh.dep 4 17 (by kernel_rfl) (by kernel_rfl)
        have hJ := Lib.hid hh.st
        clear hh
        go_simp
        exact ⟨_, rfl, Below.refl _ _, rfl, hJ.out⟩
      · refine regs.StepOK.plain rfl fun L a w1 hh => ?_
        have h18 : a.tmps[18]?.getD undef = .pointer (some ⟨w.heap.size + 1, k, none⟩) := by rw [← Array.getD_eq_getD_getElem?]; exact hh.dep 5 18 (by kernel_rfl) (by kernel_rfl)
        have c0 := (hh.st.1.1.1.cell k).trans ey.out
        have ci := hh.st.1.1.1.inside
        have hJ := Lib.hid hh.st
        clear hh
        go_simp
        exact ⟨_, rfl, Below.refl _ _, rfl, hJ.out⟩
      · refine regs.StepOK.plain rfl fun L a w1 hh => ?_
        have h5 : a.tmps[5]?.getD undef = .int .i64 (sa : Nat) := by rw [← Array.getD_eq_getD_getElem?]; exact hh.old 5 rfl
        have hJ := Lib.hid hh.st
        clear hh
        go_simp
        exact ⟨_, rfl, Below.refl _ _, rfl, hJ.out⟩
      · refine regs.StepOK.plain rfl fun L a w1 hh => ?_
        have h20 : a.tmps[20]?.getD undef = .int .i64 (sa : Nat) := by rw [← Array.getD_eq_getD_getElem?]; exact hh.dep 7 20 (by kernel_rfl) (by kernel_rfl)
        have q1 := HQ.out
        have q2 := HQ2.out
        have hJ := Lib.hid hh.st
        clear hh
        go_simp
        exact ⟨_, rfl, Below.refl _ _, rfl, hJ.out⟩
      · refine regs.StepOK.plain rfl fun L a w1 hh => ?_
        have h19 : a.tmps[19]?.getD undef = .int .i64 (y : Nat) := by rw [← Array.getD_eq_getD_getElem?]; exact hh.dep 6 19 (by kernel_rfl) (by kernel_rfl)
        have h21 : a.tmps[21]?.getD undef = .int .i64 (q : Nat) := by rw [← Array.getD_eq_getD_getElem?]; exact hh.dep 8 21 (by kernel_rfl) (by kernel_rfl)
        have := True.intro
        have hJ := Lib.hid hh.st
        clear hh
        go_simp
        refine (HC.out w1).mono ?_
        rintro e w9 ⟨rfl, hb9⟩
        exact ⟨_, rfl, hb9.mono hJ.out.1.2.1, rfl, JC.below hJ.out hb9⟩
      · refine regs.StepOK.plain rfl fun L a w1 hh => ?_
        have h16 : a.tmps[16]?.getD undef = .int .i64 (x : Nat) := by rw [← Array.getD_eq_getD_getElem?]; exact hh.dep 3 16 (by kernel_rfl) (by kernel_rfl)
        have h22 : a.tmps[22]?.getD undef = .int .i64 (z : Nat) := by rw [← Array.getD_eq_getD_getElem?]; exact hh.dep 9 22 (by kernel_rfl) (by kernel_rfl)
        have q3 := HQ3.out.1
        have q4 := HQ3.out.2
        have hJ := Lib.hid hh.st
        clear hh
        go_simp
        exact ⟨_, rfl, Below.refl _ _, rfl, hJ.out⟩
      · refine regs.StepOK.plain rfl fun L a w1 hh => ?_
        have h2 : a.tmps[2]?.getD undef = .pointer (some ⟨w.heap.size, 0, none⟩) := by rw [← Array.getD_eq_getD_getElem?]; exact hh.old 2 rfl
        have h13 : a.tmps[13]?.getD undef = .int .i64 (k : Nat) := by rw [← Array.getD_eq_getD_getElem?]; exact hh.dep 0 13 (by kernel_rfl) (by kernel_rfl)
        have hJ := Lib.hid hh.st
        clear hh
        go_simp
        exact ⟨_, rfl, Below.refl _ _, rfl, hJ.out⟩
      · refine regs.StepOK.plain rfl fun L a w1 hh => ?_
        have h23 : a.tmps[23]?.getD undef = .int .i64 (n : Nat) := by rw [← Array.getD_eq_getD_getElem?]; exact hh.dep 10 23 (by kernel_rfl) (by kernel_rfl)
        have h24 : a.tmps[24]?.getD undef = .pointer (some ⟨w.heap.size, k, none⟩) := by rw [← Array.getD_eq_getD_getElem?]; exact hh.dep 11 24 (by kernel_rfl) (by kernel_rfl)
        have hB := hh.st.2.2.1
        rw [hh.un] at hB
        obtain ⟨vk, ck⟩ : ∃ vk, w1.cell? ⟨w.heap.size, k, none⟩ = some vk := ⟨_, (hB.cell k).trans ex.out⟩
        have cf := hB.free k
        have ci := hB.inside
        have hP := Lib.hid (JC.put hh.st hh.un (hh.up 3 (by kernel_rfl)) HS.out)
        clear hh hB
        go_simp
        exact ⟨hP.out.2, ⟨undef, trivial⟩, hP.out.1⟩
      intro L w2 val hL hJ hRR hv
      have hJ2 := hJ.2.2.1
      rw [hL 12 (by decide)] at hJ2
      have HM2 := Lib.hid (show Blk w2 w.heap.size (mix A X (k + 1)) from hJ2)
      have HY2 := Lib.hid hJ.1.1.1
      have HR2 := Lib.hid hJ.1.1.2.1
      have HB2 := Lib.hid (HB.out.trans hRR)
      clear hv hL hJ hRR hJ2
      simp only [regs.putAll, List.map_cons, List.map_nil]
      generalize val 13 = v13
      generalize val 14 = v14
      generalize val 15 = v15
      generalize val 16 = v16
      generalize val 17 = v17
      generalize val 18 = v18
      generalize val 19 = v19
      generalize val 20 = v20
      generalize val 21 = v21
      generalize val 22 = v22
      generalize val 23 = v23
      generalize val 24 = v24
      simp only [Act.put, List.setIfInBounds_toArray, List.set_cons_zero, List.set_cons_succ]
      go_wp2_with (fail)
      go_roundw
      case rel => exact ⟨k + 1, by omega, by go_num, HB2, HM2, HY2, HR2⟩
      case measure => simp [intOf]; omega
    · obtain rfl : k = 4 := by omega
      have hM := HM.out
      rw [mix_all HL.out.1 HL.out.2, HA.out] at hM
      obtain ⟨⟨c0, c1, c2, c3⟩, -, ci⟩ := Blk.c4 hM
      obtain ⟨⟨d0, d1, d2, d3⟩, ⟨f0, f1, f2, f3⟩, di⟩ := Blk.c4 HR.out
      have hR := Lib.hid (Blk.put4 HR.out (.int .i64 (tr : Nat)) (.int .i64 (tg : Nat)) (.int .i64 (tb : Nat)) (.int .i64 (ta : Nat)))
      have HB2 := Lib.hid (below4 HB.out (show w.heap.size ≤ w.heap.size + 1 + 1 by omega) (.int .i64 (tr : Nat)) (.int .i64 (tg : Nat)) (.int .i64 (tb : Nat)) (.int .i64 (ta : Nat)))
      clear hM HM HR HB HT HE HA HD HY
      go_wp2_with (fail)
      exact blk_ret rfl rfl hR.out Try.underlying27 rfl (by kernel_rfl) ⟨rfl, HB2.out⟩
end Go.Proofs.Ytolekbgbcahfgaa
