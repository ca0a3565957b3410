/-
  Layer 10: images: the parts of rectangles that lie in an image.
-/
import Derived.Test.YtboelbmpcbeifaaDoorImD
import Derived.Test.YtboelbmpcbeifaaDoorOffk
import Derived.Deep.Grids
import Derived.Deep.DeepCutAuto
import Derived.Deep.CutBlock
namespace Go.Proofs.YtboelbmpcbeifaaDoor
open Go.RowKit pxm imm

def partsOf (W H : Int) (l : List Bx) : List Bx := (l.map fun r => r.cut [⟨0, 0, W, H⟩]).filter Bx.full
theorem parts_snoc (W H : Int) (l : List Bx) {k : Nat} (hk : k < l.length) : partsOf W H (l.take (k + 1)) = partsOf W H (l.take k) ++ (if Bx.full (l[k].cut [⟨0, 0, W, H⟩]) = true then [l[k].cut [⟨0, 0, W, H⟩]] else []) := by
  unfold partsOf
  rw [List.take_succ_eq_append_getElem hk, List.map_append, List.filter_append]
  congr 1
  by_cases h : Bx.full (l[k].cut [⟨0, 0, W, H⟩]) = true
  · rw [if_pos h, List.map_cons, List.filter_cons_of_pos h]; rfl
  · rw [if_neg h, List.map_cons, List.filter_cons_of_neg h]; rfl
/-- a slice of rectangles in a block that is not g -/
def sayF (g : Nat) (l : List Bx) : regs.Say (Off [g]) := ⟨fun v w => ∃ b, v = .slice (some ⟨b, 0, none⟩) l.length l.length ∧ BRow w (some ⟨b, 0, none⟩) l ∧ b ≠ g ∧ b < w.heap.size, fun _ _ _ ⟨b, h, hr, hne, hb⟩ ho => ⟨b, h, SRow.off hr ho hb (by simpa using hne), hne, Nat.lt_of_lt_of_le hb ho.size⟩⟩
set_option maxHeartbeats 2000000 in
set_option maxRecDepth 100000 in
theorem iparts_any (W H : Int) (A : Option Addr) (n c : Nat) (AL : Option Addr) (l : List Bx) (cl : Nat) (hn : l.length ≤ 1000000) (w : World) (hr : BRow w AL l) :
    Calls Tryd.prog 30 #[imV W H A n c, .slice AL l.length cl] w fun e w' => ∃ v, e = .returned v ∧ BOwn w' w.heap.size v (partsOf W H l) ∧ Below w.heap.size w w' := by
  have HF := Lib.hid (fun w => frame_any W H A n c w)
  have HR := Lib.hid hr
  have HL4 : Hid (∀ k, (partsOf W H (l.take k)).length ≤ 1000000) := fun k => Nat.le_trans (List.length_filter_le _ _) (by rw [List.length_map, List.length_take]; omega)
  have HSN := Lib.hid (fun k (hk : k < l.length) => parts_snoc W H l hk)
  clear hr
  unfold imV Bx.v at *
  simp only at HF
  go_enter Tryd.func30, Tryd.ntmps30
  go_wp2_with (fail)
  go_loopw [5, 10] (fun v i wr => ∃ k : Nat, k ≤ l.length ∧ i = .int .i64 k ∧ Hid (BOwn wr (w.heap.size + 1) v (partsOf W H (l.take k))) ∧ Hid (Below w.heap.size w wr) ∧ Hid (Blk wr w.heap.size [.int .i64 W, .int .i64 H, .slice A n c])) (fun _ i _ => l.length - (intOf i).toNat)
  case atStart => exact ⟨0, Nat.zero_le _, rfl, SOwn.nil _ _, (Below.refl _ _).alloc (Nat.le_refl _) _, blk_new w [.int .i64 W, .int .i64 H, .slice A n c] _⟩
  case round =>
    obtain ⟨k, hk, rfl, HO, HB, HM⟩ := hrel
    by_cases hlt : k < l.length
    · have t : decide (k < l.length) = true := by simpa using hlt
      obtain ⟨g, off, rA, q0, q1, q2, q3⟩ := BRow.at_ (HR.out.below HB.out) hlt
      subst rA
      have HSK := Lib.hid (HSN.out k hlt)
      have HC := Lib.hid (fun g w h => bx_cut l[k] (some ⟨g, 0, none⟩) [⟨0, 0, W, H⟩] 1 w h (by simp))
      have HE := Lib.hid (fun w => bx_empty (l[k].cut [⟨0, 0, W, H⟩]) w)
      have HFU : Hid (Bx.full (l[k].cut [⟨0, 0, W, H⟩]) = !(l[k].cut [⟨0, 0, W, H⟩]).emp) := rfl
      have HLK := Lib.hid (HL4.out k)
      generalize l[k].cut [⟨0, 0, W, H⟩] = q at *
      generalize l[k] = r at *
      obtain ⟨ra, rb, rc, rd⟩ := r
      have HBW := Lib.hid (fun w g h => brow_new w [q] (g := g) h)
      have HE0 : Hid (q.emp = q.emp) := rfl
      generalize partsOf W H (l.take k) = pk at *
      obtain ⟨pk1, hpk1⟩ : ∃ x, partsOf W H (l.take (k + 1)) = x := ⟨_, rfl⟩
      have HPK := Lib.hid hpk1
      rw [hpk1] at HSK
      clear hpk1
      obtain ⟨qa, qb, qc, qd⟩ := q
      unfold Bx.v at HC HE
      simp only at q0 q1 q2 q3 HC HE
      have hg : g < wr.heap.size := World.block_lt_of_cell? wr ⟨g, _, none⟩ q0
      clear HR HL4 HSN
      go_wp2_with (fail)
      have HJ0 : Hid (JO [(w.heap.size, [.int .i64 W, .int .i64 H, .slice A n c])] wr.heap.size [.int .i64 ra, .int .i64 rb, .int .i64 rc, .int .i64 rd] [.int .i64 qa, .int .i64 qb, .int .i64 qc, .int .i64 qd] false false (wr.alloc (.cells #[.int .i64 ra, .int .i64 rb, .int .i64 rc, .int .i64 rd] 30))) :=
        JO.start ⟨HM.out.alloc _, trivial⟩ (blk_new wr [.int .i64 ra, .int .i64 rb, .int .i64 rc, .int .i64 rd] _) (by intro p hp; have := HM.out.inside; simp at hp; rw [hp]; simp only; omega)
      have HBX : Hid (Below w.heap.size w (wr.alloc (.cells #[.int .i64 ra, .int .i64 rb, .int .i64 rc, .int .i64 rd] 30))) := HB.out.alloc HB.out.size _
      have HOX : Hid (BOwn (wr.alloc (.cells #[.int .i64 ra, .int .i64 rb, .int .i64 rc, .int .i64 rd] 30)) (w.heap.size + 1) u5 pk) := SOwn.below HO.out ((Below.refl _ _).alloc (Nat.le_refl _) _)
      have HNE : Hid (∀ b, Value.ownBlock u5 = some b → b ≠ wr.heap.size) := fun b hb => Nat.ne_of_lt (SOwn.block HO.out hb).2
      have HSZ : Hid (w.heap.size < wr.heap.size) := HM.out.inside
      clear HO HB HM q0 q1 q2 q3 hg
      generalize wr.alloc (.cells #[.int .i64 ra, .int .i64 rb, .int .i64 rc, .int .i64 rd] 30) = wz at *
      have HZ := HJ0.out.2.2.1.inside
      generalize hgz : wr.heap.size = gz at *
      refine regs.wp_region_put (Off [gz]) (fun L wx => JO [(w.heap.size, [.int .i64 W, .int .i64 H, .slice A n c])] gz [.int .i64 ra, .int .i64 rb, .int .i64 rc, .int .i64 rd] [.int .i64 qa, .int .i64 qb, .int .i64 qc, .int .i64 qd] (L 0) (L 5) wx) [14, 15, 16, 17, 18] (by kernel_rfl) (by kernel_rfl) (fun _ => Off.refl _ _) (fun _ _ _ h k => h.trans k) (fun i => (match i with
        | 0 => regs.Say.val _ (.agg #[.int .i64 ra, .int .i64 rb, .int .i64 rc, .int .i64 rd])
        | 1 => regs.Say.val _ (.agg #[.int .i64 W, .int .i64 H, .slice A n c])
        | 2 => regs.Say.val _ (.agg #[.int .i64 0, .int .i64 0, .int .i64 W, .int .i64 H])
        | 3 => sayF gz [(⟨0, 0, W, H⟩ : Bx)]
        | 4 => regs.Say.val _ (.agg #[.int .i64 qa, .int .i64 qb, .int .i64 qc, .int .i64 qd])
        | 5 => regs.Say.any _
        | _ => regs.Say.any _ : regs.Say (Off [gz])).p) (fun _ => regs.Say.mono _) (by kernel_rfl) (Off.of_below (Below.refl _ _).drew) (HJ0.out) ⟨?_, ?_, ?_, ?_, ?_, ?_, trivial⟩ ?_
      · refine regs.StepOK.plain rfl fun L a w1 hh => ?_
        have h7 : a.tmps[7]?.getD undef = .pointer (some ⟨gz, 0, none⟩) := by rw [← Array.getD_eq_getD_getElem?]; exact hh.old 7 rfl
        have hrd := JO.read hh.st hh.un
        obtain ⟨⟨c0, c1, c2, c3⟩, -, ci⟩ := (show Blk w1 gz [.int .i64 ra, .int .i64 rb, .int .i64 rc, .int .i64 rd] from hrd).c4
        have hJ := Lib.hid (JO.done hh.st)
        clear hh hrd
        go_simp
        exact ⟨_, rfl, Off.refl _ _, rfl, hJ.out⟩
      · refine regs.StepOK.plain rfl fun L a w1 hh => ?_
        have h2 : a.tmps[2]?.getD undef = .pointer (some ⟨w.heap.size, 0, none⟩) := by rw [← Array.getD_eq_getD_getElem?]; exact hh.old 2 rfl
        obtain ⟨⟨c0, c1, c2⟩, -, ci⟩ := (hh.st.1.1.1).c3
        have hJ := Lib.hid hh.st
        clear hh
        go_simp
        exact ⟨_, rfl, Off.refl _ _, rfl, hJ.out⟩
      · refine regs.StepOK.plain rfl fun L a w1 hh => ?_
        have h15 : a.tmps[15]?.getD undef = .agg #[.int .i64 W, .int .i64 H, .slice A n c] := by rw [← Array.getD_eq_getD_getElem?]; exact hh.dep 1 15 (by kernel_rfl) (by kernel_rfl)
        have := True.intro
        have hJ := Lib.hid hh.st
        clear hh
        go_simp
        refine (HF.out w1).mono ?_
        rintro e w9 ⟨rfl, hb9⟩
        exact ⟨_, rfl, Off.of_below hb9, rfl, JO.below hJ.out hb9⟩
      · refine regs.StepOK.plain rfl fun L a w1 hh => ?_
        have h16 : a.tmps[16]?.getD undef = .agg #[.int .i64 0, .int .i64 0, .int .i64 W, .int .i64 H] := by rw [← Array.getD_eq_getD_getElem?]; exact hh.dep 2 16 (by kernel_rfl) (by kernel_rfl)
        have hJ := Lib.hid hh.st
        clear hh
        go_simp
        exact ⟨_, rfl, Off.of_below ((Below.refl _ _).alloc (Nat.le_refl _) _), ⟨_, rfl, brow_new w1 [(⟨0, 0, W, H⟩ : Bx)] rfl, Nat.ne_of_gt hJ.out.2.2.1.inside, by simp⟩, JO.below hJ.out ((Below.refl _ _).alloc (Nat.le_refl _) _)⟩
      · refine regs.StepOK.plain rfl fun L a w1 hh => ?_
        have h14 : a.tmps[14]?.getD undef = .agg #[.int .i64 ra, .int .i64 rb, .int .i64 rc, .int .i64 rd] := by rw [← Array.getD_eq_getD_getElem?]; exact hh.dep 0 14 (by kernel_rfl) (by kernel_rfl)
        obtain ⟨b9, h17, hrow9, hne9, hb9⟩ : ∃ b, a.tmps[17]?.getD undef = .slice (some ⟨b, 0, none⟩) 1 1 ∧ BRow w1 (some ⟨b, 0, none⟩) [(⟨0, 0, W, H⟩ : Bx)] ∧ b ≠ gz ∧ b < w1.heap.size := by rw [← Array.getD_eq_getD_getElem?]; exact hh.dep 3 17 (by kernel_rfl) (by kernel_rfl)
        have hJ := Lib.hid hh.st
        clear hh
        go_simp
        refine (HC.out _ _ hrow9).mono ?_
        rintro e w9 ⟨rfl, hb9⟩
        exact ⟨_, rfl, Off.of_below hb9, rfl, JO.below hJ.out hb9⟩
      · refine regs.StepOK.plain rfl fun L a w1 hh => ?_
        have h7 : a.tmps[7]?.getD undef = .pointer (some ⟨gz, 0, none⟩) := by rw [← Array.getD_eq_getD_getElem?]; exact hh.old 7 rfl
        have h18 : a.tmps[18]?.getD undef = .agg #[.int .i64 qa, .int .i64 qb, .int .i64 qc, .int .i64 qd] := by rw [← Array.getD_eq_getD_getElem?]; exact hh.dep 4 18 (by kernel_rfl) (by kernel_rfl)
        have hB := hh.st.2.2.1
        rw [hh.un] at hB
        obtain ⟨⟨c0, c1, c2, c3⟩, ⟨f0, f1, f2, f3⟩, ci⟩ := (show Blk w1 gz [.int .i64 ra, .int .i64 rb, .int .i64 rc, .int .i64 rd] from hB).c4
        have hP := Lib.hid (JO.put hh.st rfl hh.un (hh.up 0 (by kernel_rfl)))
        clear hh hB
        go_simp
        exact ⟨hP.out.2, ⟨undef, trivial⟩, hP.out.1⟩
      intro L w5 val hL hJ hR hv
      have hB5 := hJ.2.2.1
      rw [hL 5 (by decide)] at hB5
      have HN5 := Lib.hid (show Blk w5 gz [.int .i64 qa, .int .i64 qb, .int .i64 qc, .int .i64 qd] from hB5)
      have HK5 := Lib.hid hJ.1.1
      clear hB5
      have HR5 := Lib.hid hR
      clear hv hL hJ hR
      simp only [regs.putAll, List.map_cons, List.map_nil]
      generalize val 14 = v14
      generalize val 15 = v15
      generalize val 16 = v16
      generalize val 17 = v17
      generalize val 18 = v18
      simp only [Act.put, List.setIfInBounds_toArray, List.set_cons_zero, List.set_cons_succ]
      have HBY : Hid (Below w.heap.size w w5) := HBX.out.trans (HR5.out.to_below HBX.out.size (by intro x hx; have := HSZ.out; simp at hx; rw [hx]; omega))
      have HOY : Hid (BOwn w5 (w.heap.size + 1) u5 pk) := SOwn.stays HOX.out (fun b hb => HR5.out.far b (SOwn.block HOX.out hb).2 (by simpa using HNE.out b hb))
      have HKY : Hid (Blk w5 w.heap.size [.int .i64 W, .int .i64 H, .slice A n c]) := HK5.out.1
      clear HBX HOX HNE HR5 HK5 HC HF
      obtain ⟨⟨c0, c1, c2, c3⟩, -, ci⟩ := Blk.c4 HN5.out
      generalize Bx.emp ⟨qa, qb, qc, qd⟩ = y at *
      go_wp2_with (fail)
      refine (HE.out _).mono ?_
      rintro e w6 ⟨rfl, hb⟩
      have HB6 : Hid (Below w.heap.size w w6) := HBY.out.trans (hb.mono HBY.out.size)
      have HO6 : Hid (BOwn w6 (w.heap.size + 1) u5 pk) := SOwn.below HOY.out hb
      have HK6 : Hid (Blk w6 w.heap.size [.int .i64 W, .int .i64 H, .slice A n c]) := HKY.out.below' hb
      have HN6 : Hid (Blk w6 gz [.int .i64 qa, .int .i64 qb, .int .i64 qc, .int .i64 qd]) := HN5.out.below' hb
      have HS6 : Hid (w.heap.size + 1 ≤ w6.heap.size) := by have := HKY.out.inside; have := hb.size; show _ ≤ _; omega
      clear hb HE HBY HOY HKY HN5 c0 c1 c2 c3 ci HZ HJ0
      cases y with
      | true =>
        have HS2 : Hid (pk1 = pk) := by show _ = _; rw [HSK.out, if_neg (by rw [HFU.out]; decide), List.append_nil]
        go_wp2_with (fail)
        go_roundw
        case rel => exact ⟨k + 1, by omega, by go_num, by rw [HPK.out, HS2.out]; exact HO6.out, HB6, HK6⟩
        case measure => simp [intOf]; omega
      | false =>
        have HS2 : Hid (pk1 = pk ++ [⟨qa, qb, qc, qd⟩]) := by show _ = _; rw [HSK.out, if_pos (by rw [HFU.out]; decide)]
        obtain ⟨⟨c0, c1, c2, c3⟩, -, ci⟩ := Blk.c4 HN6.out
        obtain ⟨v', w7, hrun, own7, hgr, -⟩ := app_bx (c := 1) (HO6.out.below' ((Below.refl _ _).alloc (Nat.le_refl _) (.cells ([(⟨qa, qb, qc, qd⟩ : Bx)].flatMap Bx.cs).toArray 30))) (xs := [⟨qa, qb, qc, qd⟩]) (fun _ => HBW.out w6 _ rfl) (by have := HLK.out; simp; omega) (by have := HS6.out; simp; omega)
        have HB7 : Hid (Below w.heap.size w w7) := (HB6.out.alloc HB6.out.size _).grown hgr (by have := HB6.out.size; simp; omega) (fun j hj => by have := (HO6.out.block hj).1; omega)
        have HO7 : Hid (BOwn w7 (w.heap.size + 1) v' pk1) := by rw [HS2.out]; exact own7
        have HK7 : Hid (Blk w7 w.heap.size [.int .i64 W, .int .i64 H, .slice A n c]) := (HK6.out.alloc (.cells ([(⟨qa, qb, qc, qd⟩ : Bx)].flatMap Bx.cs).toArray 30)).stays (hgr.block _ (HK6.out.alloc _).inside (fun e => by have := (HO6.out.block e.symm).1; omega))
        clear own7 hgr HS2
        go_wp2_with (at_builtin; refine wpl_append rfl _ _ 39 39 39 rfl rfl _ _ _ _ rfl rfl hrun ?_)
        clear hrun
        go_roundw
        case rel => exact ⟨k + 1, by omega, by go_num, by rw [HPK.out]; exact HO7, HB7, HK7⟩
        case measure => simp [intOf]; omega
    · obtain rfl : k = l.length := by omega
      have t : decide (l.length < l.length) = false := by simp
      have HO2 : Hid (BOwn wr w.heap.size u5 (partsOf W H l)) := by have h := HO.out; rw [List.take_length] at h; exact SOwn.weaken h (by omega)
      go_wp2_with (fail)
      go_ret
      exact ⟨_, rfl, HO2.out, HB.out⟩
end Go.Proofs.YtboelbmpcbeifaaDoor
