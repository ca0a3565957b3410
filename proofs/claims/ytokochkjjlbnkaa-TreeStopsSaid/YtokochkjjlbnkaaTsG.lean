/-
  Layer 12: Walk of a tree.
-/
import Derived.Test.YtokochkjjlbnkaaTsF
namespace Go.Proofs.Ytokochkjjlbnkaa
open Go.RowKit trm itr Go.Shelf

attribute [local go_sem] Oper.semAt_some
section
variable {w : World} {b : Nat} {s : Sh} {t : T}
def idsL (t : T) : List Int := (wd t 0 0).map (·.1)
def depL (t : T) : List Int := (wd t 0 0).map fun p => (p.2 : Int)
/-- a walk, told: its numbers, and their depths -/
def WalkQ (t : T) (w : World) (e : Ending) (w' : World) : Prop := ∃ ib db v1 v2, e = .returned (.func (.func 43) #[] #[.pointer (some ⟨ib, 0, none⟩), .pointer (some ⟨db, 0, none⟩)]) ∧
  w.heap.size ≤ ib ∧ w.heap.size ≤ db ∧ BlkT w' ib [v1] tInts ∧ BlkT w' db [v2] tInts ∧ IOwn w' w.heap.size v1 (idsL t) ∧ IOwn w' w.heap.size v2 (depL t) ∧ Below w.heap.size w w'
set_option maxRecDepth 100000 in
set_option maxHeartbeats 2000000 in
theorem twalk (h : TreeAt w b s t) (hn : t.length ≤ 1000) : Calls Try.prog 24 #[.pointer (some ⟨b, 0, none⟩)] w (WalkQ t w) := by
  unfold WalkQ
  obtain ⟨c0, bi⟩ := h.raw.top
  have HT := Lib.hid h
  have HLEN : Hid (∀ ty W, Below w.heap.size w W → (Builtin.len_ #[85] ty #[.map (some s.m)]).run Try.prog W = .ok (.int .i64 ((t.length + 1 : Nat) : Int)) W) := fun ty W hb => (h.below hb).maplen ty
  have HC0 := Lib.hid c0
  have HBI := Lib.hid bi
  have HN : Hid (t.length + 1 ≤ 20000000) := by show _ ≤ _; omega
  have HTN := Lib.hid hn
  clear h hn
  refine calls_of_marks Try.func24 rfl ?_
  simp only [Try.ntmps24, List.size_toArray, List.length_cons, List.length_nil, Nat.reduceAdd, Nat.reduceSub, Array.replicate_succ, Array.replicate_zero, List.push_toArray, List.append_toArray, List.nil_append, List.cons_append]
  go_upto_region 1 with fail
  generalize t.length + 1 = N at *
  refine regv.wp_region_put (Below w.heap.size) (fun L V wx => J1 w.heap.size N (L 5) (L 11) (L 12) (L 13) (L 14) (L 15) (V 12) (V 18) (V 3) (V 4) wx) [7, 8, 9, 10, 11, 12, 13, 14, 15, 16, 17, 18, 3, 4] (by kernel_rfl) (by kernel_rfl) (fun _ => Below.refl _ _) (fun _ _ _ h k => h.trans k) (fun i => (match i with
    | 0 => regs.Say.val _ (.pointer (some ⟨b, 0, none⟩))
    | 1 => regs.Say.val _ (.pointer (some ⟨b, 0, none⟩))
    | 2 => regs.Say.val _ (.pointer (some ⟨b, 0, none⟩))
    | 3 => regs.Say.val _ (.map (some s.m))
    | 4 => regs.Say.val _ (.int .i64 (N : Nat))
    | 5 => regs.Say.any _
    | 6 => regs.Say.val _ (.pointer (some ⟨b, 0, none⟩))
    | 7 => regs.Say.val _ (.pointer (some ⟨b, 0, none⟩))
    | 8 => regs.Say.val _ (.pointer (some ⟨b, 0, none⟩))
    | 9 => regs.Say.val _ (.map (some s.m))
    | 10 => regs.Say.val _ (.int .i64 (N : Nat))
    | 11 => regs.Say.any _
    | 12 => regs.Say.any _
    | 13 => regs.Say.any _
    | 14 => regs.Say.any _
    | 15 => regs.Say.any _
    | _ => regs.Say.any _ : regs.Say (Below w.heap.size)).p) (fun _ => regs.Say.mono _) (by kernel_rfl) ((Below.refl _ _).drew) (⟨Nat.le_refl _, fun e => (nomatch e), fun e => (nomatch e), fun e => (nomatch e), fun e => (nomatch e), fun e => (nomatch e), fun e => (nomatch e), fun e => (nomatch e), fun e => (nomatch e)⟩) ⟨?_, ?_, ?_, ?_, ?_, ?_, ?_, ?_, ?_, ?_, ?_, ?_, ?_, ?_, ?_, ?_, trivial⟩ ?_
  · refine regv.StepOK.plain rfl fun L a w1 hh => ?_
    have h0 : a.tmps[0]?.getD undef = .pointer (some ⟨b, 0, none⟩) := by rw [← Array.getD_eq_getD_getElem?]; exact hh.old 0 rfl
    have hJ := Lib.hid hh.st
    clear hh
    go_simp
    exact ⟨_, rfl, Below.refl _ _, rfl, J1.slots hJ.out (regv.sl_ne (by decide)) (regv.sl_ne (by decide)) (regv.sl_ne (by decide)) (regv.sl_ne (by decide))⟩
  · refine regv.StepOK.plain rfl fun L a w1 hh => ?_
    have h7 : a.tmps[7]?.getD undef = .pointer (some ⟨b, 0, none⟩) := by rw [← Array.getD_eq_getD_getElem?]; exact hh.dep 0 7 (by kernel_rfl) (by kernel_rfl)
    have c0 := (hh.rel.cell HBI.out).trans HC0.out
    have bi := Nat.lt_of_lt_of_le HBI.out hh.rel.size
    have hJ := Lib.hid hh.st
    clear hh
    go_simp
    exact ⟨_, rfl, Below.refl _ _, rfl, J1.slots hJ.out (regv.sl_ne (by decide)) (regv.sl_ne (by decide)) (regv.sl_ne (by decide)) (regv.sl_ne (by decide))⟩
  · refine regv.StepOK.plain rfl fun L a w1 hh => ?_
    have h8 : a.tmps[8]?.getD undef = .pointer (some ⟨b, 0, none⟩) := by rw [← Array.getD_eq_getD_getElem?]; exact hh.dep 1 8 (by kernel_rfl) (by kernel_rfl)
    have hJ := Lib.hid hh.st
    clear hh
    go_simp
    exact ⟨_, rfl, Below.refl _ _, rfl, J1.slots hJ.out (regv.sl_ne (by decide)) (regv.sl_ne (by decide)) (regv.sl_ne (by decide)) (regv.sl_ne (by decide))⟩
  · refine regv.StepOK.plain rfl fun L a w1 hh => ?_
    have h9 : a.tmps[9]?.getD undef = .pointer (some ⟨b, 0, none⟩) := by rw [← Array.getD_eq_getD_getElem?]; exact hh.dep 2 9 (by kernel_rfl) (by kernel_rfl)
    have c0 := (hh.rel.cell HBI.out).trans HC0.out
    have bi := Nat.lt_of_lt_of_le HBI.out hh.rel.size
    have hJ := Lib.hid hh.st
    clear hh
    go_simp
    exact ⟨_, rfl, Below.refl _ _, rfl, J1.slots hJ.out (regv.sl_ne (by decide)) (regv.sl_ne (by decide)) (regv.sl_ne (by decide)) (regv.sl_ne (by decide))⟩
  · refine regv.StepOK.plain rfl fun L a w1 hh => ?_
    have h10 : a.tmps[10]?.getD undef = .map (some s.m) := by rw [← Array.getD_eq_getD_getElem?]; exact hh.dep 3 10 (by kernel_rfl) (by kernel_rfl)
    have hln := HLEN.out 3 _ hh.rel
    have hJ := Lib.hid hh.st
    clear hh
    go_simp
    exact ⟨_, rfl, Below.refl _ _, rfl, J1.slots hJ.out (regv.sl_ne (by decide)) (regv.sl_ne (by decide)) (regv.sl_ne (by decide)) (regv.sl_ne (by decide))⟩
  · refine regv.StepOK.plain rfl fun L a w1 hh => ?_
    have h11 : a.tmps[11]?.getD undef = .int .i64 (N : Nat) := by rw [← Array.getD_eq_getD_getElem?]; exact hh.dep 4 11 (by kernel_rfl) (by kernel_rfl)
    have hJ := Lib.hid hh.st
    have hsz := Lib.hid hh.size
    have hun := Lib.hid hh.un
    have hmk := make_int0 w1 N HN.out
    clear hh
    go_simp
    exact ⟨_, rfl, (Below.refl _ _).alloc hJ.out.sz _, trivial, J1.slots (J1.make5 hJ.out hun.out) (regv.sl_same (by rw [hsz.out]; simp)) (regv.sl_ne (by decide)) (regv.sl_ne (by decide)) (regv.sl_ne (by decide))⟩
  · refine regv.StepOK.plain rfl fun L a w1 hh => ?_
    have h0 : a.tmps[0]?.getD undef = .pointer (some ⟨b, 0, none⟩) := by rw [← Array.getD_eq_getD_getElem?]; exact hh.old 0 rfl
    have hJ := Lib.hid hh.st
    clear hh
    go_simp
    exact ⟨_, rfl, Below.refl _ _, rfl, J1.slots hJ.out (regv.sl_ne (by decide)) (regv.sl_ne (by decide)) (regv.sl_ne (by decide)) (regv.sl_ne (by decide))⟩
  · refine regv.StepOK.plain rfl fun L a w1 hh => ?_
    have h13 : a.tmps[13]?.getD undef = .pointer (some ⟨b, 0, none⟩) := by rw [← Array.getD_eq_getD_getElem?]; exact hh.dep 6 13 (by kernel_rfl) (by kernel_rfl)
    have c0 := (hh.rel.cell HBI.out).trans HC0.out
    have bi := Nat.lt_of_lt_of_le HBI.out hh.rel.size
    have hJ := Lib.hid hh.st
    clear hh
    go_simp
    exact ⟨_, rfl, Below.refl _ _, rfl, J1.slots hJ.out (regv.sl_ne (by decide)) (regv.sl_ne (by decide)) (regv.sl_ne (by decide)) (regv.sl_ne (by decide))⟩
  · refine regv.StepOK.plain rfl fun L a w1 hh => ?_
    have h14 : a.tmps[14]?.getD undef = .pointer (some ⟨b, 0, none⟩) := by rw [← Array.getD_eq_getD_getElem?]; exact hh.dep 7 14 (by kernel_rfl) (by kernel_rfl)
    have hJ := Lib.hid hh.st
    clear hh
    go_simp
    exact ⟨_, rfl, Below.refl _ _, rfl, J1.slots hJ.out (regv.sl_ne (by decide)) (regv.sl_ne (by decide)) (regv.sl_ne (by decide)) (regv.sl_ne (by decide))⟩
  · refine regv.StepOK.plain rfl fun L a w1 hh => ?_
    have h15 : a.tmps[15]?.getD undef = .pointer (some ⟨b, 0, none⟩) := by rw [← Array.getD_eq_getD_getElem?]; exact hh.dep 8 15 (by kernel_rfl) (by kernel_rfl)
    have c0 := (hh.rel.cell HBI.out).trans HC0.out
    have bi := Nat.lt_of_lt_of_le HBI.out hh.rel.size
    have hJ := Lib.hid hh.st
    clear hh
    go_simp
    exact ⟨_, rfl, Below.refl _ _, rfl, J1.slots hJ.out (regv.sl_ne (by decide)) (regv.sl_ne (by decide)) (regv.sl_ne (by decide)) (regv.sl_ne (by decide))⟩
  · refine regv.StepOK.plain rfl fun L a w1 hh => ?_
    have h16 : a.tmps[16]?.getD undef = .map (some s.m) := by rw [← Array.getD_eq_getD_getElem?]; exact hh.dep 9 16 (by kernel_rfl) (by kernel_rfl)
    have hln := HLEN.out 3 _ hh.rel
    have hJ := Lib.hid hh.st
    clear hh
    go_simp
    exact ⟨_, rfl, Below.refl _ _, rfl, J1.slots hJ.out (regv.sl_ne (by decide)) (regv.sl_ne (by decide)) (regv.sl_ne (by decide)) (regv.sl_ne (by decide))⟩
  · refine regv.StepOK.plain rfl fun L a w1 hh => ?_
    have h17 : a.tmps[17]?.getD undef = .int .i64 (N : Nat) := by rw [← Array.getD_eq_getD_getElem?]; exact hh.dep 10 17 (by kernel_rfl) (by kernel_rfl)
    have hJ := Lib.hid hh.st
    have hsz := Lib.hid hh.size
    have hun := Lib.hid hh.un
    have hmk := make_int0 w1 N HN.out
    clear hh
    go_simp
    exact ⟨_, rfl, (Below.refl _ _).alloc hJ.out.sz _, trivial, J1.slots (J1.make11 hJ.out hun.out) (regv.sl_ne (by decide)) (regv.sl_same (by rw [hsz.out]; simp)) (regv.sl_ne (by decide)) (regv.sl_ne (by decide))⟩
  · refine regv.StepOK.plain rfl fun L a w1 hh => ?_
    have hJ := Lib.hid hh.st
    have hsz := Lib.hid hh.size
    have hun := Lib.hid hh.un
    clear hh
    go_simp
    exact ⟨_, rfl, (Below.refl _ _).alloc hJ.out.sz _, trivial, J1.slots (J1.new12 hJ.out hun.out) (regv.sl_ne (by decide)) (regv.sl_ne (by decide)) (regv.sl_same (by rw [hsz.out]; simp)) (regv.sl_ne (by decide))⟩
  · refine regv.StepOK.plain rfl fun L a w1 hh => ?_
    have hJ := Lib.hid hh.st
    have hsz := Lib.hid hh.size
    have hun := Lib.hid hh.un
    clear hh
    go_simp
    exact ⟨_, rfl, (Below.refl _ _).alloc hJ.out.sz _, trivial, J1.slots (J1.new13 hJ.out hun.out) (regv.sl_ne (by decide)) (regv.sl_ne (by decide)) (regv.sl_ne (by decide)) (regv.sl_same (by rw [hsz.out]; simp))⟩
  · refine regv.StepOK.plain rfl fun L a w1 hh => ?_
    obtain ⟨g, h0, hg, hB⟩ := hh.st.a12 (hh.up 12 (by kernel_rfl))
    obtain ⟨g2, h1, hg2, hB2⟩ := hh.st.a5 (hh.up 5 (by kernel_rfl))
    have h3 : a.tmps[3]?.getD undef = .pointer (some ⟨g, 0, none⟩) := by rw [← Array.getD_eq_getD_getElem?]; exact h0
    have h12 : a.tmps[12]?.getD undef = .slice (some ⟨g2, 0, none⟩) 0 N := by rw [← Array.getD_eq_getD_getElem?]; exact h1
    have cg := hB.blk.cell 0
    have fg := hB.blk.free 0
    have zg := hB.inside
    simp only [List.getElem?_cons_zero] at cg
    have hJ := Lib.hid hh.st
    have hU := Lib.hid (And.intro (hh.up 5 (by kernel_rfl)) (hh.up 12 (by kernel_rfl)))
    have H0 := Lib.hid h0
    have H1 := Lib.hid h1
    clear hh h0 h1 hB hB2
    go_simp
    exact ⟨(Below.refl _ _).setCell hg _, ⟨undef, trivial⟩, H1.out ▸ J1.put14 hJ.out hU.out.1 hU.out.2 H0.out⟩
  · refine regv.StepOK.plain rfl fun L a w1 hh => ?_
    obtain ⟨g, h0, hg, hB⟩ := hh.st.a13 (hh.up 13 (by kernel_rfl))
    obtain ⟨g2, h1, hg2, hB2⟩ := hh.st.a11 (hh.up 11 (by kernel_rfl))
    have h4 : a.tmps[4]?.getD undef = .pointer (some ⟨g, 0, none⟩) := by rw [← Array.getD_eq_getD_getElem?]; exact h0
    have h18 : a.tmps[18]?.getD undef = .slice (some ⟨g2, 0, none⟩) 0 N := by rw [← Array.getD_eq_getD_getElem?]; exact h1
    have cg := hB.blk.cell 0
    have fg := hB.blk.free 0
    have zg := hB.inside
    simp only [List.getElem?_cons_zero] at cg
    have hJ := Lib.hid hh.st
    have hU := Lib.hid (And.intro (hh.up 11 (by kernel_rfl)) (hh.up 13 (by kernel_rfl)))
    have H0 := Lib.hid h0
    have H1 := Lib.hid h1
    clear hh h0 h1 hB hB2
    go_simp
    exact ⟨(Below.refl _ _).setCell hg _, ⟨undef, trivial⟩, H1.out ▸ J1.put15 hJ.out hU.out.1 hU.out.2 H0.out⟩
  intro L w1 val hL hJ hR hv
  obtain ⟨a1, e12, ha1, hb1⟩ := hJ.a5 (hL 5 (by decide))
  obtain ⟨a2, e18, ha2, hb2⟩ := hJ.a11 (hL 11 (by decide))
  obtain ⟨g1, e3, hg1, hx1⟩ := hJ.a12 (hL 12 (by decide))
  obtain ⟨g2, e4, hg2, hx2⟩ := hJ.a13 (hL 13 (by decide))
  have hd1 := hJ.d1 (hL 5 (by decide)) (hL 11 (by decide))
  have hd2 := hJ.d2 (hL 12 (by decide)) (hL 13 (by decide))
  rw [hL 14 (by decide), e12] at hx1
  rw [hL 15 (by decide), e18] at hx2
  have own0 : ∀ a, w.heap.size ≤ a → BlkT w1 a (zs0 N) tInt → IOwn w1 w.heap.size (.slice (some ⟨a, 0, none⟩) 0 N) [] := fun a ha hb => by
    refine ⟨by simp, .inr ⟨a, N, _, rfl, ha, hb, Nat.zero_le _, ?_, by simp [zs0], by simp⟩⟩
    have := HN.out
    unfold maxLen
    omega
  have HP1 : Hid (BlkT w1 g1 [.slice (some ⟨a1, 0, none⟩) 0 N] tInts ∧ IOwn w1 w.heap.size (.slice (some ⟨a1, 0, none⟩) 0 N) []) := ⟨hx1, own0 a1 ha1 hb1⟩
  have HP2 : Hid (BlkT w1 g2 [.slice (some ⟨a2, 0, none⟩) 0 N] tInts ∧ IOwn w1 w.heap.size (.slice (some ⟨a2, 0, none⟩) 0 N) []) := ⟨hx2, own0 a2 ha2 hb2⟩
  have HG : Hid (g1 ≠ g2 ∧ a1 ≠ a2 ∧ w.heap.size ≤ g1 ∧ w.heap.size ≤ g2) := ⟨fun e => hd2 (by rw [e3, e4, e]), fun e => hd1 (by rw [e12, e18, e]), hg1, hg2⟩
  have HB1 : Hid (Below w.heap.size w w1) := hR
  simp only [regs.putAll, List.map_cons, List.map_nil]
  rw [e3, e4, e12, e18]
  simp only [Act.put, List.setIfInBounds_toArray, List.set_cons_zero, List.set_cons_succ]
  have c0 := (hR.cell HBI.out).trans HC0.out
  have bi := Nat.lt_of_lt_of_le HBI.out hR.size
  have HT1 : Hid (TreeAt w1 b s t) := HT.out.below hR
  have hlk := HT1.out.raw.look_some (i := 0) (by constructor <;> decide) (has_iff.2 (.inl rfl))
  clear hv hL hJ hR e3 e4 e12 e18 ha1 ha2 hb1 hb2 hg1 hg2 hx1 hx2 hd1 hd2 own0 HC0 HBI HLEN
  generalize val 7 = y7 at *
  generalize val 11 = y11 at *
  generalize val 17 = y17 at *
  go_wp2_with (fail)
  refine (nwalk (s.g 0) w1).mono ?_
  rintro e w2 ⟨rfl, hw2⟩
  have hb2 : Below w1.heap.size w1 w2 := by rw [hw2]; exact (Below.refl _ _).alloc (Nat.le_refl _) _
  have hc2 : BlkT w2 w1.heap.size [.pointer (some ⟨s.g 0, 0, none⟩)] tPtr := by rw [hw2]; exact BlkT.new w1 _ _
  have HB2 : Hid (Below w.heap.size w w2) := HB1.out.trans (hb2.mono HB1.out.size)
  have HOK := Lib.hid HT.out.ok
  have HND : Hid (∀ W, Below w.heap.size w W → Nds W s (hasP t) (upT t) (kids t)) := fun W hb => (HT.out.below hb).raw.node
  have HLE : Hid ((wd t 0 0).length ≤ 1001) := by
    have := walk_le HT.out.ok (.inl rfl : (0 : Int) = 0 ∨ 0 ∈ ids t)
    rw [wd_len]
    show _ ≤ _
    have := HTN.out
    omega
  have HMM : Hid (∀ x ∈ trm.walk t 0, has t x = true) := fun x hx => (walk_all HT.out.ok).1 hx
  have HX1 : Hid (BlkT w2 g1 [.slice (some ⟨a1, 0, none⟩) 0 N] tInts ∧ IOwn w2 w.heap.size (.slice (some ⟨a1, 0, none⟩) 0 N) []) := ⟨HP1.out.1.stays (hb2.block _ HP1.out.1.inside), SOwn.below HP1.out.2 hb2⟩
  have HX2 : Hid (BlkT w2 g2 [.slice (some ⟨a2, 0, none⟩) 0 N] tInts ∧ IOwn w2 w.heap.size (.slice (some ⟨a2, 0, none⟩) 0 N) []) := ⟨HP2.out.1.stays (hb2.block _ HP2.out.1.inside), SOwn.below HP2.out.2 hb2⟩
  have HS2 := Lib.hid HB2.out.size
  have HCB : Hid (w2.cell? ⟨w1.heap.size, 0, none⟩ = some (.pointer (some ⟨s.g 0, 0, none⟩))) := hc2.blk.cell 0
  have HTN2 := Lib.hid HTN.out
  clear hw2 hb2 hc2 c0 bi hlk HP1 HP2 HT1 HN HB1
  go_wp2_with (fail)
  refine wp_range (gf := 60) (lb := #[.pointer (some ⟨w1.heap.size, 0, none⟩)]) rfl (enters_of Try.func60 (by kernel_rfl) rfl) (es := walkE s.g (wd t 0 0)) (R := ST sT) (Kp := KT kT)
    (fun W1 hb => walk_iter HOK.out (.inl rfl) (by have := HTN.out; omega) (fun x hx => ⟨HMM.out x hx, rfl⟩) (cell_bk hb HCB.out) (HND.out W1 (HB2.out.trans (hb.below HS2.out HS2.out)))) KT.trans (fun A B hb => KT.bk hb) (fun n A B h => h.keeps)
    (fun e he => by obtain ⟨j, _, rfl⟩ := List.mem_map.1 he; rfl)
    (fun k W => Below w.heap.size w W ∧ ∃ v1 v2, BlkT W g1 [v1] tInts ∧ BlkT W g2 [v2] tInts ∧ IOwn W w.heap.size v1 (((wd t 0 0).map (·.1)).take k) ∧ IOwn W w.heap.size v2 (((wd t 0 0).map fun p => (p.2 : Int)).take k) ∧ ∀ k, v1.ownBlock = some k → v2.ownBlock ≠ some k)
    (fun _ _ _ => False) (fun k A B h hr => ?hI) (fun _ _ _ _ h _ => h.elim) ⟨HB2.out, _, _, HX1.out.1, HX2.out.1, HX1.out.2, HX2.out.2, fun k e1 e2 => HG.out.2.1 ((Option.some.inj e1).trans (Option.some.inj e2).symm)⟩ ?a1 ?assign ?body ?done (fun _ _ _ _ _ _ h _ => h.elim)
  case hI =>
    obtain ⟨hB, v1, v2, hx1, hx2, ho1, ho2, hap⟩ := h
    rcases hr with ⟨n, hn, hr⟩ | hb
    · exact ⟨hB.trans (hr.to_below (Nat.le_trans HS2.out hn) hB.size), v1, v2, hx1.st hr (by decide), hx2.st hr (by decide), SOwn.st ho1 hr (by decide), SOwn.st ho2 hr (by decide), hap⟩
    · exact ⟨hB.trans (hb.below HS2.out hB.size), v1, v2, hx1.bk hb, hx2.bk hb, SOwn.bk ho1 hb, SOwn.bk ho2 hb, hap⟩
  case assign =>
    intro l j hj W9 KK hKK
    rw [walkE_getD]
    gi_wp2
    exact hKK
  case done =>
    rintro D W9 hD ⟨hB, v1, v2, hx1, hx2, ho1, ho2, hap⟩ hd
    rw [walkE_len, List.take_of_length_le (by simp)] at ho1 ho2
    have HZ := Lib.hid (And.intro hB (And.intro hx1 (And.intro hx2 (And.intro ho1 (And.intro ho2 hd)))))
    have hDw : w.heap.size ≤ D := Nat.le_trans HS2.out hD
    clear hB hx1 hx2 ho1 ho2 hap
    go_wp2_with (fail)
    refine postM_ret w.heap.size ⟨⟨D, rfl, hDw, hd, by simp⟩, trivial⟩ fun w' hb => ⟨_, results_tmp rfl _ _ _, ?_⟩
    obtain ⟨hB, hx1, hx2, ho1, ho2, -⟩ := HZ.out
    exact ⟨g1, g2, v1, v2, rfl, HG.out.2.2.1, HG.out.2.2.2, hx1.bk hb, hx2.bk hb, SOwn.bk ho1 hb, SOwn.bk ho2 hb, hB.trans (hb.below (Nat.le_refl _) hB.size)⟩
  case body =>
    rintro l j hj W9 ⟨hB, v1, v2, hx1, hx2, ho1, ho2, hap⟩
    obtain ⟨x, d, hxd⟩ : ∃ x d, (wd t 0 0).getD j (0, 0) = (x, d) := ⟨_, _, rfl⟩
    have hjl : j < (wd t 0 0).length := by rw [walkE_len] at hj; exact hj
    have hmem : (wd t 0 0)[j] = (x, d) := by rw [List.getD_eq_getElem?_getD, List.getElem?_eq_getElem hjl] at hxd; exact hxd
    have hx : has t x = true := HMM.out x (wd_mem (i := 0) (d := 0) (by rw [← hmem]; exact List.getElem_mem hjl))
    have ht1 : ((wd t 0 0).map (·.1)).take (j + 1) = ((wd t 0 0).map (·.1)).take j ++ [x] := by
      rw [List.take_succ_eq_append_getElem (by rw [List.length_map]; exact hjl), List.getElem_map, hmem]
    have ht2 : ((wd t 0 0).map fun p => (p.2 : Int)).take (j + 1) = ((wd t 0 0).map fun p => (p.2 : Int)).take j ++ [(d : Int)] := by
      rw [List.take_succ_eq_append_getElem (by rw [List.length_map]; exact hjl), List.getElem_map, hmem]
    rw [List.getD_eq_getElem?_getD] at hxd
    rw [hxd]
    obtain ⟨A1, n1, k1, rfl⟩ := SOwn.shape ho1
    obtain ⟨A2, n2, k2, rfl⟩ := SOwn.shape ho2
    have HT12 : Hid (((wd t 0 0).map (·.1)).take (j + 1) = ((wd t 0 0).map (·.1)).take j ++ [x] ∧ ((wd t 0 0).map fun p => (p.2 : Int)).take (j + 1) = ((wd t 0 0).map fun p => (p.2 : Int)).take j ++ [(d : Int)]) := ⟨ht1, ht2⟩
    have HL1 : Hid ((((wd t 0 0).map (·.1)).take j).length ≤ 900000 ∧ (((wd t 0 0).map fun p => (p.2 : Int)).take j).length ≤ 900000) := by
      have := HLE.out
      constructor <;> (rw [List.length_take, List.length_map]; omega)
    generalize ((wd t 0 0).map (·.1)).take j = l1 at *
    generalize ((wd t 0 0).map fun p => (p.2 : Int)).take j = l2 at *
    have hS : ∀ k, S2 g1 g2 (.slice A1 n1 k1) (.slice A2 n2 k2) k → ∃ cu T, W9.heap[k]? = some (Obj.cells cu T (0, 0)) ∧ (T = tInts ∨ T = tInt) := by
      rintro k (e | e | e | e)
      · rw [e]; exact ⟨_, _, hx1, .inl rfl⟩
      · rw [e]; exact ⟨_, _, hx2, .inl rfl⟩
      · obtain ⟨cu, hc⟩ := SOwn.typed ho1 e; exact ⟨cu, _, hc, .inr rfl⟩
      · obtain ⟨cu, hc⟩ := SOwn.typed ho2 e; exact ⟨cu, _, hc, .inr rfl⟩
    have HSS := Lib.hid hS
    have HSG : Hid (∀ k, S2 g1 g2 (.slice A1 n1 k1) (.slice A2 n2 k2) k → w.heap.size ≤ k) := by
      rintro k (e | e | e | e)
      · rw [e]; exact HG.out.2.2.1
      · rw [e]; exact HG.out.2.2.2
      · exact (SOwn.block ho1 e).1
      · exact (SOwn.block ho2 e).1
    have bn := (HND.out W9 hB x hx).blk
    have HNX : Hid (∀ W', TurnP (S2 g1 g2 (.slice A1 n1 k1) (.slice A2 n2 k2)) (S2 g1 g2 (.slice A1 n1 k1) (.slice A2 n2 k2)) W9 W' → W'.cell? ⟨s.g x, 0, none⟩ = some (.int .i64 x) ∧ s.g x < W'.heap.size) := fun W' ht => by
      have b' := bn.stays (ht.far _ bn.inside fun e => by
        obtain ⟨cu, T, hc, hT⟩ := hS _ e
        have := bn.symm.trans hc
        simp only [Option.some.injEq, Obj.cells.injEq] at this
        rcases hT with rfl | rfl
        · exact absurd this.2.1 (by decide)
        · exact absurd this.2.1 (by decide)).2
      exact ⟨b'.blk.cell 0, b'.inside⟩
    have HBW := Lib.hid hB
    have HJ0 : Hid (J2 W9 w.heap.size g1 g2 (.slice A1 n1 k1) (.slice A2 n2 k2) l1 l2 x (d : Nat) false false false false false false undef undef undef undef W9.drew) := by
      have hd : Below W9.heap.size W9 W9.drew := (Below.refl _ _).drew
      exact ⟨TurnP.below hd, Nat.le_trans hB.size hd.size, ⟨hx1.stays (hd.block _ hx1.inside), SOwn.below ho1 hd, fun e => (nomatch e), fun e => (nomatch e)⟩, ⟨hx2.stays (hd.block _ hx2.inside), SOwn.below ho2 hd, fun e => (nomatch e), fun e => (nomatch e)⟩, HG.out.1, hap, fun e => (nomatch e), fun e => (nomatch e)⟩
    clear hxd hjl hmem hx ht1 ht2 hS bn hB hx1 hx2 ho1 ho2 hap hj
    refine wpIn_block ?_
    refine regvi.wp_region_put (TurnP (S2 g1 g2 (.slice A1 n1 k1) (.slice A2 n2 k2)) (S2 g1 g2 (.slice A1 n1 k1) (.slice A2 n2 k2))) (fun L V wx => J2 W9 w.heap.size g1 g2 (.slice A1 n1 k1) (.slice A2 n2 k2) l1 l2 x (d : Nat) (L 5) (L 6) (L 9) (L 10) (L 11) (L 12) (V 32) (V 33) (V 36) (V 37) wx ∧ (L 11 = true → L 0 = true) ∧ (L 12 = true → L 7 = true) ∧ (L 6 = true → L 5 = true) ∧ (L 10 = true → L 9 = true)) [27, 28, 29, 30, 31, 32, 33, 34, 35, 36, 37] (by kernel_rfl) (by kernel_rfl) (by kernel_rfl) (fun _ => TurnP.refl _ _) (fun _ _ _ h k => h.trans k) (fun i => (match i with
      | 0 => regs.Say.val _ (.slice A1 n1 k1)
      | 1 => regs.Say.val _ (.pointer (some ⟨s.g x, 0, none⟩))
      | 2 => regs.Say.val _ (.pointer (some ⟨s.g x, 0, none⟩))
      | 3 => regs.Say.val _ (.pointer (some ⟨s.g x, 0, none⟩))
      | 4 => regs.Say.val _ (.int .i64 x)
      | 5 => regs.Say.any _
      | 6 => regs.Say.any _
      | 7 => regs.Say.val _ (.slice A2 n2 k2)
      | 8 => regs.Say.val _ (.int .i64 (d : Nat))
      | 9 => regs.Say.any _
      | 10 => regs.Say.any _
      | 11 => regs.Say.any _
      | 12 => regs.Say.any _
      | _ => regs.Say.any _ : regs.Say (TurnP (S2 g1 g2 (.slice A1 n1 k1) (.slice A2 n2 k2)) (S2 g1 g2 (.slice A1 n1 k1) (.slice A2 n2 k2)))).p) (fun _ => regs.Say.mono _) (by kernel_rfl) (TurnP.below ((Below.refl _ _).drew)) (⟨J2.slots HJ0.out rfl rfl rfl rfl, fun e => (nomatch e), fun e => (nomatch e), fun e => (nomatch e), fun e => (nomatch e)⟩) ⟨?_, ?_, ?_, ?_, ?_, ?_, ?_, ?_, ?_, ?_, ?_, ?_, ?_, trivial⟩ ?_
    · refine regv.StepOK.plain rfl fun L a w1 hh => ?_
      have h3 : a.tmps[3]?.getD undef = .pointer (some ⟨g1, 0, none⟩) := by rw [← Array.getD_eq_getD_getElem?]; exact hh.old 3 rfl
      have e11 := not_yet hh.st.2.1 hh.un
      have bx := hh.st.1.one.box
      rw [e11] at bx
      have cb := bx.blk.cell 0
      have zb := bx.inside
      simp only [cur, cond_false, List.getElem?_cons_zero] at cb
      have hJ := Lib.hid hh.st
      clear hh
      go_simp
      exact ⟨_, rfl, TurnP.refl _ _, rfl, ⟨J2.slots hJ.out.1 (regv.sl_ne (by decide)) (regv.sl_ne (by decide)) (regv.sl_ne (by decide)) (regv.sl_ne (by decide)), ord_upd hJ.out.2.1 (.inl (by decide)), ord_upd hJ.out.2.2.1 (.inl (by decide)), ord_upd hJ.out.2.2.2.1 (.inl (by decide)), ord_upd hJ.out.2.2.2.2 (.inl (by decide))⟩⟩
    · refine regv.StepOK.plain rfl fun L a w1 hh => ?_
      have h5 : a.tmps[5]?.getD undef = .pointer (some ⟨s.g x, 0, none⟩) := by rw [← Array.getD_eq_getD_getElem?]; exact hh.old 5 rfl
      have hJ := Lib.hid hh.st
      clear hh
      go_simp
      exact ⟨_, rfl, TurnP.refl _ _, rfl, ⟨J2.slots hJ.out.1 (regv.sl_ne (by decide)) (regv.sl_ne (by decide)) (regv.sl_ne (by decide)) (regv.sl_ne (by decide)), ord_upd hJ.out.2.1 (.inl (by decide)), ord_upd hJ.out.2.2.1 (.inl (by decide)), ord_upd hJ.out.2.2.2.1 (.inl (by decide)), ord_upd hJ.out.2.2.2.2 (.inl (by decide))⟩⟩
    · refine regv.StepOK.plain rfl fun L a w1 hh => ?_
      have h28 : a.tmps[28]?.getD undef = .pointer (some ⟨s.g x, 0, none⟩) := by rw [← Array.getD_eq_getD_getElem?]; exact hh.dep 1 28 (by kernel_rfl) (by kernel_rfl)
      obtain ⟨cx, zx⟩ := HNX.out _ hh.rel
      have hJ := Lib.hid hh.st
      clear hh
      go_simp
      exact ⟨_, rfl, TurnP.refl _ _, rfl, ⟨J2.slots hJ.out.1 (regv.sl_ne (by decide)) (regv.sl_ne (by decide)) (regv.sl_ne (by decide)) (regv.sl_ne (by decide)), ord_upd hJ.out.2.1 (.inl (by decide)), ord_upd hJ.out.2.2.1 (.inl (by decide)), ord_upd hJ.out.2.2.2.1 (.inl (by decide)), ord_upd hJ.out.2.2.2.2 (.inl (by decide))⟩⟩
    · refine regv.StepOK.plain rfl fun L a w1 hh => ?_
      have h29 : a.tmps[29]?.getD undef = .pointer (some ⟨s.g x, 0, none⟩) := by rw [← Array.getD_eq_getD_getElem?]; exact hh.dep 2 29 (by kernel_rfl) (by kernel_rfl)
      have hJ := Lib.hid hh.st
      clear hh
      go_simp
      exact ⟨_, rfl, TurnP.refl _ _, rfl, ⟨J2.slots hJ.out.1 (regv.sl_ne (by decide)) (regv.sl_ne (by decide)) (regv.sl_ne (by decide)) (regv.sl_ne (by decide)), ord_upd hJ.out.2.1 (.inl (by decide)), ord_upd hJ.out.2.2.1 (.inl (by decide)), ord_upd hJ.out.2.2.2.1 (.inl (by decide)), ord_upd hJ.out.2.2.2.2 (.inl (by decide))⟩⟩
    · refine regv.StepOK.plain rfl fun L a w1 hh => ?_
      have h30 : a.tmps[30]?.getD undef = .pointer (some ⟨s.g x, 0, none⟩) := by rw [← Array.getD_eq_getD_getElem?]; exact hh.dep 3 30 (by kernel_rfl) (by kernel_rfl)
      obtain ⟨cx, zx⟩ := HNX.out _ hh.rel
      have hJ := Lib.hid hh.st
      clear hh
      go_simp
      exact ⟨_, rfl, TurnP.refl _ _, rfl, ⟨J2.slots hJ.out.1 (regv.sl_ne (by decide)) (regv.sl_ne (by decide)) (regv.sl_ne (by decide)) (regv.sl_ne (by decide)), ord_upd hJ.out.2.1 (.inl (by decide)), ord_upd hJ.out.2.2.1 (.inl (by decide)), ord_upd hJ.out.2.2.2.1 (.inl (by decide)), ord_upd hJ.out.2.2.2.2 (.inl (by decide))⟩⟩
    · refine regv.StepOK.plain rfl fun L a w1 hh => ?_
      have h31 : a.tmps[31]?.getD undef = .int .i64 x := by rw [← Array.getD_eq_getD_getElem?]; exact hh.dep 4 31 (by kernel_rfl) (by kernel_rfl)
      have hJ := Lib.hid hh.st
      have hsz := Lib.hid hh.size
      have e6 := Lib.hid (not_yet hJ.out.2.2.2.1 hh.un)
      clear hh
      go_simp
      exact ⟨_, rfl, TurnP.below ((Below.refl _ _).alloc (Nat.le_refl _) _), trivial, ⟨J2.slots (J2.make hJ.out.1 e6.out) (regv.sl_same (by rw [hsz.out]; simp)) (regv.sl_ne (by decide)) (regv.sl_ne (by decide)) (regv.sl_ne (by decide)), ord_upd hJ.out.2.1 (.inl (by decide)), ord_upd hJ.out.2.2.1 (.inl (by decide)), ord_upd hJ.out.2.2.2.1 (.inl (by decide)), ord_upd hJ.out.2.2.2.2 (.inl (by decide))⟩⟩
    · refine regv.StepOK.plain rfl fun L a w1 hh => ?_
      have hJ := Lib.hid hh.st
      have hsz := Lib.hid hh.size
      obtain ⟨v9, w9, hrun, hj9, ht9⟩ := J2.app hJ.out.1 (hh.up 5 (by kernel_rfl)) hh.un HL1.out.1
      exact wp_app (.tmp 27) (.tmp 32) 35 35 35 rfl rfl (hh.dep 0 27 (by kernel_rfl) (by kernel_rfl)) rfl hrun ⟨v9, rfl, ht9, trivial, ⟨J2.slots hj9 (regv.sl_ne (by decide)) (regv.sl_same (by rw [hsz.out]; simp)) (regv.sl_ne (by decide)) (regv.sl_ne (by decide)), ord_upd hJ.out.2.1 (.inl (by decide)), ord_upd hJ.out.2.2.1 (.inl (by decide)), ord_upd hJ.out.2.2.2.1 (.inr (hh.up 5 (by kernel_rfl))), ord_upd hJ.out.2.2.2.2 (.inl (by decide))⟩⟩
    · refine regv.StepOK.plain rfl fun L a w1 hh => ?_
      have h4 : a.tmps[4]?.getD undef = .pointer (some ⟨g2, 0, none⟩) := by rw [← Array.getD_eq_getD_getElem?]; exact hh.old 4 rfl
      have e11 := not_yet hh.st.2.2.1 hh.un
      have bx := hh.st.1.two.box
      rw [e11] at bx
      have cb := bx.blk.cell 0
      have zb := bx.inside
      simp only [cur, cond_false, List.getElem?_cons_zero] at cb
      have hJ := Lib.hid hh.st
      clear hh
      go_simp
      exact ⟨_, rfl, TurnP.refl _ _, rfl, ⟨J2.slots hJ.out.1 (regv.sl_ne (by decide)) (regv.sl_ne (by decide)) (regv.sl_ne (by decide)) (regv.sl_ne (by decide)), ord_upd hJ.out.2.1 (.inl (by decide)), ord_upd hJ.out.2.2.1 (.inl (by decide)), ord_upd hJ.out.2.2.2.1 (.inl (by decide)), ord_upd hJ.out.2.2.2.2 (.inl (by decide))⟩⟩
    · refine regv.StepOK.plain rfl fun L a w1 hh => ?_
      have h6 : a.tmps[6]?.getD undef = .int .i64 (d : Nat) := by rw [← Array.getD_eq_getD_getElem?]; exact hh.old 6 rfl
      have hJ := Lib.hid hh.st
      clear hh
      go_simp
      exact ⟨_, rfl, TurnP.refl _ _, rfl, ⟨J2.slots hJ.out.1 (regv.sl_ne (by decide)) (regv.sl_ne (by decide)) (regv.sl_ne (by decide)) (regv.sl_ne (by decide)), ord_upd hJ.out.2.1 (.inl (by decide)), ord_upd hJ.out.2.2.1 (.inl (by decide)), ord_upd hJ.out.2.2.2.1 (.inl (by decide)), ord_upd hJ.out.2.2.2.2 (.inl (by decide))⟩⟩
    · refine regv.StepOK.plain rfl fun L a w1 hh => ?_
      have h35 : a.tmps[35]?.getD undef = .int .i64 (d : Nat) := by rw [← Array.getD_eq_getD_getElem?]; exact hh.dep 8 35 (by kernel_rfl) (by kernel_rfl)
      have hJ := Lib.hid hh.st
      have hsz := Lib.hid hh.size
      have e6 := Lib.hid (not_yet hJ.out.2.2.2.2 hh.un)
      clear hh
      go_simp
      exact ⟨_, rfl, TurnP.below ((Below.refl _ _).alloc (Nat.le_refl _) _), trivial, ⟨J2.slots (J2.make2 hJ.out.1 e6.out) (regv.sl_ne (by decide)) (regv.sl_ne (by decide)) (regv.sl_same (by rw [hsz.out]; simp)) (regv.sl_ne (by decide)), ord_upd hJ.out.2.1 (.inl (by decide)), ord_upd hJ.out.2.2.1 (.inl (by decide)), ord_upd hJ.out.2.2.2.1 (.inl (by decide)), ord_upd hJ.out.2.2.2.2 (.inl (by decide))⟩⟩
    · refine regv.StepOK.plain rfl fun L a w1 hh => ?_
      have hJ := Lib.hid hh.st
      have hsz := Lib.hid hh.size
      obtain ⟨v9, w9, hrun, hj9, ht9⟩ := J2.app2 hJ.out.1 (hh.up 9 (by kernel_rfl)) hh.un HL1.out.2
      exact wp_app (.tmp 34) (.tmp 36) 35 35 35 rfl rfl (hh.dep 7 34 (by kernel_rfl) (by kernel_rfl)) rfl hrun ⟨v9, rfl, ht9, trivial, ⟨J2.slots hj9 (regv.sl_ne (by decide)) (regv.sl_ne (by decide)) (regv.sl_ne (by decide)) (regv.sl_same (by rw [hsz.out]; simp)), ord_upd hJ.out.2.1 (.inl (by decide)), ord_upd hJ.out.2.2.1 (.inl (by decide)), ord_upd hJ.out.2.2.2.1 (.inl (by decide)), ord_upd hJ.out.2.2.2.2 (.inr (hh.up 9 (by kernel_rfl)))⟩⟩
    · refine regv.StepOK.plain rfl fun L a w1 hh => ?_
      have h3 : a.tmps[3]?.getD undef = .pointer (some ⟨g1, 0, none⟩) := by rw [← Array.getD_eq_getD_getElem?]; exact hh.old 3 rfl
      have h6 := hh.up 6 (by kernel_rfl)
      have ho := hh.st.1.one.own
      rw [h6] at ho
      obtain ⟨A9, n9, c9, e33⟩ := SOwn.shape ho
      have e33 : regv.sl a 33 = .slice A9 n9 c9 := e33
      have h33 : a.tmps[33]?.getD undef = .slice A9 n9 c9 := by rw [← Array.getD_eq_getD_getElem?]; exact e33
      have bx := hh.st.1.one.box
      have cb := bx.blk.cell 0
      have fb := bx.blk.free 0
      have zb := bx.inside
      simp only [List.getElem?_cons_zero] at cb
      have hJ := Lib.hid hh.st
      have hP := J2.put hh.st.1 h6
      have hU := Lib.hid (hh.up 0 (by kernel_rfl))
      rw [e33] at hP
      have H1 := Lib.hid e33
      have HP := Lib.hid hP
      clear hh h6 ho bx hP e33
      go_simp
      exact ⟨HP.out.2, ⟨undef, trivial⟩, J2.slots HP.out.1 rfl H1.out rfl rfl, ord_upd hJ.out.2.1 (.inr hU.out), ord_upd hJ.out.2.2.1 (.inl (by decide)), ord_upd hJ.out.2.2.2.1 (.inl (by decide)), ord_upd hJ.out.2.2.2.2 (.inl (by decide))⟩
    · refine regv.StepOK.plain rfl fun L a w1 hh => ?_
      have h4 : a.tmps[4]?.getD undef = .pointer (some ⟨g2, 0, none⟩) := by rw [← Array.getD_eq_getD_getElem?]; exact hh.old 4 rfl
      have h6 := hh.up 10 (by kernel_rfl)
      have ho := hh.st.1.two.own
      rw [h6] at ho
      obtain ⟨A9, n9, c9, e33⟩ := SOwn.shape ho
      have e33 : regv.sl a 37 = .slice A9 n9 c9 := e33
      have h37 : a.tmps[37]?.getD undef = .slice A9 n9 c9 := by rw [← Array.getD_eq_getD_getElem?]; exact e33
      have bx := hh.st.1.two.box
      have cb := bx.blk.cell 0
      have fb := bx.blk.free 0
      have zb := bx.inside
      simp only [List.getElem?_cons_zero] at cb
      have hJ := Lib.hid hh.st
      have hP := J2.put2 hh.st.1 h6
      have hU := Lib.hid (hh.up 7 (by kernel_rfl))
      rw [e33] at hP
      have H1 := Lib.hid e33
      have HP := Lib.hid hP
      clear hh h6 ho bx hP e33
      go_simp
      exact ⟨HP.out.2, ⟨undef, trivial⟩, J2.slots HP.out.1 rfl rfl rfl H1.out, ord_upd hJ.out.2.1 (.inl (by decide)), ord_upd hJ.out.2.2.1 (.inr hU.out), ord_upd hJ.out.2.2.2.1 (.inl (by decide)), ord_upd hJ.out.2.2.2.2 (.inl (by decide))⟩
    intro L w3 val hL hJ hR hv
    obtain ⟨hJ, -⟩ := hJ
    have h1 := hJ.one
    have h2 := hJ.two
    have hap := hJ.ap
    rw [hL 6 (by decide), hL 11 (by decide)] at h1
    rw [hL 10 (by decide), hL 12 (by decide)] at h2
    rw [hL 6 (by decide), hL 10 (by decide)] at hap
    have hk : ∀ (k : Nat) (o : Obj), W9.heap[k]? = some o → (∀ cu : Array Value, o ≠ Obj.cells cu tInts (0, 0) ∧ o ≠ Obj.cells cu tInt (0, 0)) → w3.heap[k]? = some o := fun k o hk hn => by
      refine ((hR.far k (Array.getElem?_eq_some_iff.1 hk).1 fun e => ?_).2).trans hk
      obtain ⟨cu, T, hc, hT⟩ := HSS.out k e
      have e2 := hk.symm.trans hc
      injection e2 with e2
      rcases hT with rfl | rfl
      · exact (hn cu).1 e2
      · exact (hn cu).2 e2
    refine ⟨fun k o h3 h4 => hk k o h3 fun cu => ⟨fun e => (by subst e; cases h4), fun e => (by subst e; cases h4)⟩, ⟨hR.size, fun k cu ty fr h3 h4 => hk k _ h3 fun cu' => ⟨fun e => ?_, fun e => ?_⟩⟩, ?_, val 33, val 37, h1.box, h2.box, ?_, ?_, hap⟩
    · injection e with _ e _
      rw [e] at h4
      exact absurd h4 (by decide)
    · injection e with _ e _
      rw [e] at h4
      exact absurd h4 (by decide)
    · exact HBW.out.trans (hR.to_below HBW.out.size HSG.out)
    · rw [HT12.out.1]; exact h1.own
    · rw [HT12.out.2]; exact h2.own
end
end Go.Proofs.Ytokochkjjlbnkaa
