import Derived.Test.YtehmblcbccceaaaGreatLSda
namespace Go.Proofs.YtehmblcbccceaaaGreat
open Go.RowKit pxm imm trm Go.Maps
theorem size_same (a b c : Int) (w : World) : (binOp .eql tSize (.agg #[.int .i64 a,.int .i64 b,.int .i64 c]) (.agg #[.int .i64 a,.int .i64 b,.int .i64 c])).run Tryz.prog w = .ok (.bool true) w := by
 go_simp
def same (x y : PSc) : Prop := (∀ q,kids x.t q = kids y.t q) ∧ ∀ i,has x.t i = true → eqN (x.nd i) (y.nd i) = true
def EqQ (x y : PSc) (w : World) (e : Ending) (w' : World) : Prop := ∃ r,e = .returned (.bool r) ∧ (r = true ↔ same x y) ∧ Below w.heap.size w w'
section
variable {w : World} {g b m : Nat} {s : Sh} {Z : ZZ} {x : PSc} {g2 b2 m2 : Nat} {s2 : Sh} {Z2 : ZZ} {y : PSc}
set_option maxHeartbeats 4000000 in
set_option maxRecDepth 100000 in
theorem sequal (h : SceneAt w g b m s Z x) (h2 : SceneAt w g2 b2 m2 s2 Z2 y) (hfx : ∀ i,Fit (x.nd i)) (hfy : ∀ i,Fit (y.nd i)) (hn : x.t.length ≤ 1000) (hn2 : y.t.length ≤ 1000) (hz : Z2.1 = Z.1 ∧ Z2.2 = Z.2) :
  Calls Tryz.prog 19 #[.pointer (some ⟨g,0,none⟩),.pointer (some ⟨g2,0,none⟩)] w (EqQ x y w) := by
 obtain ⟨za,zr,zE⟩ := Z2
 obtain ⟨rfl,rfl⟩ := hz
 have HFS : Hid (∀ W,regs.bl w W → SceneAt W g b m s Z x) := fun W hb => h.below hb
 have HFT : Hid (∀ W,regs.bl w W → SceneAt W g2 b2 m2 s2 ⟨Z.1,Z.2,zE⟩ y) := fun W hb => h2.below hb
 have HTS : Hid (∀ W,regs.bl w W → Calls Tryz.prog 54 #[.pointer (some ⟨b,0,none⟩),.pointer (some ⟨b2,0,none⟩)] W fun e w' => ∃ r,e = .returned (.bool r) ∧ (r = true ↔ ∀ q,kids x.t q = kids y.t q) ∧ Below W.heap.size W w') := fun W hb => tsame (h.below hb).tree (h2.below hb).tree hn hn2
 have HME : Hid (∀ W,regs.bl w W → (∀ q,kids x.t q = kids y.t q) → Calls Tryz.prog 55 #[.map (some m),.map (some m2),.func (.func 56) #[] #[]] W fun e w' => ∃ r,e = .returned (.bool r) ∧ (r = true ↔ ∀ i,has x.t i = true → eqN (x.nd i) (y.nd i) = true) ∧ Below W.heap.size W w') := fun W hb hal => mequal (h.below hb) (h2.below hb) hfx hfy hal
 clear h h2 hfx hfy hn hn2
 have hse := fun W => size_same Z.1 Z.2.1 Z.2.2 W
 go_enter Tryz.func19,Tryz.ntmps19
 go_upto_region 1 with (fail)
 by_cases hal : ¬ ∀ q,kids x.t q = kids y.t q
 ·have HN := Lib.hid hal
  have HTS1 : Hid (∀ W,regs.bl w W → Calls Tryz.prog 54 #[.pointer (some ⟨b,0,none⟩),.pointer (some ⟨b2,0,none⟩)] W fun e w' => e = .returned (.bool false) ∧ Below W.heap.size W w') := fun W hb => (HTS.out W hb).mono fun e w' ⟨r,h1,h2,h3⟩ => ⟨by rw [h1,show r = false from (by cases r with | false => rfl | true => exact absurd (h2.1 rfl) hal)],h3⟩
  clear HME HTS hal
  refine regs.wp_region_put (regs.bl) (regs.noJ) [5,6,7,8,9,10,11,12,13,14,15,16,17,18,19,20,21,22,23,24,25,26,27,28,29,30,31,32,33,34,35,4] (by kernel_rfl) (by kernel_rfl) (fun _ => regs.bl_refl _) (regs.bl_trans) (fun i => (match i with
   | 0 => regs.Say.val _ (.pointer (some ⟨g,0,none⟩))
   | 1 => regs.Say.val _ (.pointer (some ⟨g,0,none⟩))
   | 2 => regs.Say.val _ (.pointer (some ⟨g,2,none⟩))
   | 3 => regs.Say.val _ (.agg ([.int .i64 Z.1,.int .i64 Z.2.1,.int .i64 Z.2.2]).toArray)
   | 4 => regs.Say.val _ (.pointer (some ⟨g2,0,none⟩))
   | 5 => regs.Say.val _ (.pointer (some ⟨g2,0,none⟩))
   | 6 => regs.Say.val _ (.pointer (some ⟨g2,2,none⟩))
   | 7 => regs.Say.val _ (.agg ([.int .i64 Z.1,.int .i64 Z.2.1,.int .i64 Z.2.2]).toArray)
   | 8 => regs.Say.val _ (.bool true)
   | 9 => regs.Say.val _ (.bool true)
   | 10 => regs.Say.val _ (.pointer (some ⟨g,0,none⟩))
   | 11 => regs.Say.val _ (.pointer (some ⟨g,0,none⟩))
   | 12 => regs.Say.val _ (.pointer (some ⟨g,1,none⟩))
   | 13 => regs.Say.val _ (.pointer (some ⟨b,0,none⟩))
   | 14 => regs.Say.val _ (.pointer (some ⟨g2,0,none⟩))
   | 15 => regs.Say.val _ (.pointer (some ⟨g2,0,none⟩))
   | 16 => regs.Say.val _ (.pointer (some ⟨g2,1,none⟩))
   | 17 => regs.Say.val _ (.pointer (some ⟨b2,0,none⟩))
   | 18 => regs.Say.val _ (.bool false)
   | 19 => regs.Say.val _ (.bool false)
   | 20 => regs.Say.val _ (.bool false)
   | 21 => regs.Say.val _ (undef)
   | 22 => regs.Say.val _ (undef)
   | 23 => regs.Say.val _ (undef)
   | 24 => regs.Say.val _ (undef)
   | 25 => regs.Say.val _ (undef)
   | 26 => regs.Say.val _ (undef)
   | 27 => regs.Say.val _ (undef)
   | 28 => regs.Say.val _ (undef)
   | 29 => regs.Say.val _ (undef)
   | 30 => regs.Say.val _ (.bool false)
   | 31 => regs.Say.val _ (.bool false)
   | _ => regs.Say.any _ : regs.Say (regs.bl)).p) (fun _ => regs.Say.mono _) (by kernel_rfl) ((Below.refl _ _).drew) (regs.noJ_ok _ _) ⟨?_,?_,?_,?_,?_,?_,?_,?_,?_,?_,?_,?_,?_,?_,?_,?_,?_,?_,?_,?_,?_,?_,?_,?_,?_,?_,?_,?_,?_,?_,?_,?_,trivial⟩ ?_
  ·refine regs.StepOK.plain rfl fun L a w1 hh => ?_
   have h0 : a.tmps[0]?.getD undef = .pointer (some ⟨g,0,none⟩) := by rw [← Array.getD_eq_getD_getElem?]; exact hh.old 0 rfl
   have hJ := Lib.hid hh.st
   clear hh
   go_simp
   exact ⟨_,rfl,regs.bl_refl _,rfl,hJ.out⟩
  ·refine regs.StepOK.plain rfl fun L a w1 hh => ?_
   have h5 : a.tmps[5]?.getD undef = .pointer (some ⟨g,0,none⟩) := by rw [← Array.getD_eq_getD_getElem?]; exact hh.dep 0 5 (by kernel_rfl) (by kernel_rfl)
   have hJ := Lib.hid hh.st
   clear hh
   go_simp
   exact ⟨_,rfl,regs.bl_refl _,rfl,hJ.out⟩
  ·refine regs.StepOK.plain rfl fun L a w1 hh => ?_
   have h6 : a.tmps[6]?.getD undef = .pointer (some ⟨g,0,none⟩) := by rw [← Array.getD_eq_getD_getElem?]; exact hh.dep 1 6 (by kernel_rfl) (by kernel_rfl)
   have i0 := ((HFS.out _ hh.rel).blk.blk).inside
   have hJ := Lib.hid hh.st
   clear hh
   go_simp
   exact ⟨_,rfl,regs.bl_refl _,rfl,hJ.out⟩
  ·refine regs.StepOK.plain rfl fun L a w1 hh => ?_
   have h7 : a.tmps[7]?.getD undef = .pointer (some ⟨g,2,none⟩) := by rw [← Array.getD_eq_getD_getElem?]; exact hh.dep 2 7 (by kernel_rfl) (by kernel_rfl)
   have hB := Lib.hid ((HFS.out _ hh.rel).blk.blk)
   have hJ := Lib.hid hh.st
   exact wp_take 111 _ rfl g 2 (by simpa [go_sem] using h7) _ hB.out ([.int .i64 Z.1,.int .i64 Z.2.1,.int .i64 Z.2.2]) rfl _ Tryz.underlying111 rfl (by kernel_rfl) ⟨_,rfl,regs.bl_refl _,rfl,hJ.out⟩
  ·refine regs.StepOK.plain rfl fun L a w1 hh => ?_
   have h1 : a.tmps[1]?.getD undef = .pointer (some ⟨g2,0,none⟩) := by rw [← Array.getD_eq_getD_getElem?]; exact hh.old 1 rfl
   have hJ := Lib.hid hh.st
   clear hh
   go_simp
   exact ⟨_,rfl,regs.bl_refl _,rfl,hJ.out⟩
  ·refine regs.StepOK.plain rfl fun L a w1 hh => ?_
   have h9 : a.tmps[9]?.getD undef = .pointer (some ⟨g2,0,none⟩) := by rw [← Array.getD_eq_getD_getElem?]; exact hh.dep 4 9 (by kernel_rfl) (by kernel_rfl)
   have hJ := Lib.hid hh.st
   clear hh
   go_simp
   exact ⟨_,rfl,regs.bl_refl _,rfl,hJ.out⟩
  ·refine regs.StepOK.plain rfl fun L a w1 hh => ?_
   have h10 : a.tmps[10]?.getD undef = .pointer (some ⟨g2,0,none⟩) := by rw [← Array.getD_eq_getD_getElem?]; exact hh.dep 5 10 (by kernel_rfl) (by kernel_rfl)
   have i0 := ((HFT.out _ hh.rel).blk.blk).inside
   have hJ := Lib.hid hh.st
   clear hh
   go_simp
   exact ⟨_,rfl,regs.bl_refl _,rfl,hJ.out⟩
  ·refine regs.StepOK.plain rfl fun L a w1 hh => ?_
   have h11 : a.tmps[11]?.getD undef = .pointer (some ⟨g2,2,none⟩) := by rw [← Array.getD_eq_getD_getElem?]; exact hh.dep 6 11 (by kernel_rfl) (by kernel_rfl)
   have hB := Lib.hid ((HFT.out _ hh.rel).blk.blk)
   have hJ := Lib.hid hh.st
   exact wp_take 111 _ rfl g2 2 (by simpa [go_sem] using h11) _ hB.out ([.int .i64 Z.1,.int .i64 Z.2.1,.int .i64 Z.2.2]) rfl _ Tryz.underlying111 rfl (by kernel_rfl) ⟨_,rfl,regs.bl_refl _,rfl,hJ.out⟩
  ·refine regs.StepOK.plain rfl fun L a w1 hh => ?_
   have h8 : a.tmps[8]?.getD undef = .agg ([.int .i64 Z.1,.int .i64 Z.2.1,.int .i64 Z.2.2]).toArray := by rw [← Array.getD_eq_getD_getElem?]; exact hh.dep 3 8 (by kernel_rfl) (by kernel_rfl)
   have h12 : a.tmps[12]?.getD undef = .agg ([.int .i64 Z.1,.int .i64 Z.2.1,.int .i64 Z.2.2]).toArray := by rw [← Array.getD_eq_getD_getElem?]; exact hh.dep 7 12 (by kernel_rfl) (by kernel_rfl)
   have hJ := Lib.hid hh.st
   clear hh
   go_simp
   exact ⟨_,rfl,regs.bl_refl _,rfl,hJ.out⟩
  ·refine regs.StepOK.plain rfl fun L a w1 hh => ?_
   have h13 : a.tmps[13]?.getD undef = .bool true := by rw [← Array.getD_eq_getD_getElem?]; exact hh.dep 8 13 (by kernel_rfl) (by kernel_rfl)
   have hJ := Lib.hid hh.st
   clear hh
   go_simp
   exact ⟨_,rfl,regs.bl_refl _,rfl,hJ.out⟩
  ·refine regs.StepOK.yes 9 true 14 rfl rfl (fun L a w1 hh => hh.dep 9 14 (by kernel_rfl) (by kernel_rfl)) fun L a w1 hh => ?_
   have h0 : a.tmps[0]?.getD undef = .pointer (some ⟨g,0,none⟩) := by rw [← Array.getD_eq_getD_getElem?]; exact hh.old 0 rfl
   have hJ := Lib.hid hh.st
   clear hh
   go_simp
   exact ⟨_,rfl,regs.bl_refl _,rfl,hJ.out⟩
  ·refine regs.StepOK.yes 9 true 14 rfl rfl (fun L a w1 hh => hh.dep 9 14 (by kernel_rfl) (by kernel_rfl)) fun L a w1 hh => ?_
   have h15 : a.tmps[15]?.getD undef = .pointer (some ⟨g,0,none⟩) := by rw [← Array.getD_eq_getD_getElem?]; exact hh.dep 10 15 (by kernel_rfl) (by kernel_rfl)
   have hJ := Lib.hid hh.st
   clear hh
   go_simp
   exact ⟨_,rfl,regs.bl_refl _,rfl,hJ.out⟩
  ·refine regs.StepOK.yes 9 true 14 rfl rfl (fun L a w1 hh => hh.dep 9 14 (by kernel_rfl) (by kernel_rfl)) fun L a w1 hh => ?_
   have h16 : a.tmps[16]?.getD undef = .pointer (some ⟨g,0,none⟩) := by rw [← Array.getD_eq_getD_getElem?]; exact hh.dep 11 16 (by kernel_rfl) (by kernel_rfl)
   have i0 := ((HFS.out _ hh.rel).blk.blk).inside
   have hJ := Lib.hid hh.st
   clear hh
   go_simp
   exact ⟨_,rfl,regs.bl_refl _,rfl,hJ.out⟩
  ·refine regs.StepOK.yes 9 true 14 rfl rfl (fun L a w1 hh => hh.dep 9 14 (by kernel_rfl) (by kernel_rfl)) fun L a w1 hh => ?_
   have h17 : a.tmps[17]?.getD undef = .pointer (some ⟨g,1,none⟩) := by rw [← Array.getD_eq_getD_getElem?]; exact hh.dep 12 17 (by kernel_rfl) (by kernel_rfl)
   have hB := Lib.hid ((HFS.out _ hh.rel).blk.blk)
   have c0 : w1.cell? ⟨g,1,none⟩ = some (.pointer (some ⟨b,0,none⟩)) := hB.out.cell 1
   have i0 := hB.out.inside
   have hJ := Lib.hid hh.st
   clear hh
   go_simp
   exact ⟨_,rfl,regs.bl_refl _,rfl,hJ.out⟩
  ·refine regs.StepOK.yes 9 true 14 rfl rfl (fun L a w1 hh => hh.dep 9 14 (by kernel_rfl) (by kernel_rfl)) fun L a w1 hh => ?_
   have h1 : a.tmps[1]?.getD undef = .pointer (some ⟨g2,0,none⟩) := by rw [← Array.getD_eq_getD_getElem?]; exact hh.old 1 rfl
   have hJ := Lib.hid hh.st
   clear hh
   go_simp
   exact ⟨_,rfl,regs.bl_refl _,rfl,hJ.out⟩
  ·refine regs.StepOK.yes 9 true 14 rfl rfl (fun L a w1 hh => hh.dep 9 14 (by kernel_rfl) (by kernel_rfl)) fun L a w1 hh => ?_
   have h19 : a.tmps[19]?.getD undef = .pointer (some ⟨g2,0,none⟩) := by rw [← Array.getD_eq_getD_getElem?]; exact hh.dep 14 19 (by kernel_rfl) (by kernel_rfl)
   have hJ := Lib.hid hh.st
   clear hh
   go_simp
   exact ⟨_,rfl,regs.bl_refl _,rfl,hJ.out⟩
  ·refine regs.StepOK.yes 9 true 14 rfl rfl (fun L a w1 hh => hh.dep 9 14 (by kernel_rfl) (by kernel_rfl)) fun L a w1 hh => ?_
   have h20 : a.tmps[20]?.getD undef = .pointer (some ⟨g2,0,none⟩) := by rw [← Array.getD_eq_getD_getElem?]; exact hh.dep 15 20 (by kernel_rfl) (by kernel_rfl)
   have i0 := ((HFT.out _ hh.rel).blk.blk).inside
   have hJ := Lib.hid hh.st
   clear hh
   go_simp
   exact ⟨_,rfl,regs.bl_refl _,rfl,hJ.out⟩
  ·refine regs.StepOK.yes 9 true 14 rfl rfl (fun L a w1 hh => hh.dep 9 14 (by kernel_rfl) (by kernel_rfl)) fun L a w1 hh => ?_
   have h21 : a.tmps[21]?.getD undef = .pointer (some ⟨g2,1,none⟩) := by rw [← Array.getD_eq_getD_getElem?]; exact hh.dep 16 21 (by kernel_rfl) (by kernel_rfl)
   have hB := Lib.hid ((HFT.out _ hh.rel).blk.blk)
   have c0 : w1.cell? ⟨g2,1,none⟩ = some (.pointer (some ⟨b2,0,none⟩)) := hB.out.cell 1
   have i0 := hB.out.inside
   have hJ := Lib.hid hh.st
   clear hh
   go_simp
   exact ⟨_,rfl,regs.bl_refl _,rfl,hJ.out⟩
  ·refine regs.StepOK.yes 9 true 14 rfl rfl (fun L a w1 hh => hh.dep 9 14 (by kernel_rfl) (by kernel_rfl)) fun L a w1 hh => ?_
   have h18 : a.tmps[18]?.getD undef = .pointer (some ⟨b,0,none⟩) := by rw [← Array.getD_eq_getD_getElem?]; exact hh.dep 13 18 (by kernel_rfl) (by kernel_rfl)
   have h22 : a.tmps[22]?.getD undef = .pointer (some ⟨b2,0,none⟩) := by rw [← Array.getD_eq_getD_getElem?]; exact hh.dep 17 22 (by kernel_rfl) (by kernel_rfl)
   have hC := Lib.hid (HTS1.out _ hh.rel)
   have hJ := Lib.hid hh.st
   clear hh
   go_simp
   refine hC.out.mono ?_
   rintro e w9 ⟨rfl,hb9⟩
   exact ⟨_,rfl,hb9,rfl,hJ.out⟩
  ·refine regs.StepOK.plain rfl fun L a w1 hh => ?_
   have h14 : a.tmps[14]?.getD undef = .bool true := by rw [← Array.getD_eq_getD_getElem?]; exact hh.dep 9 14 (by kernel_rfl) (by kernel_rfl)
   have h23 : a.tmps[23]?.getD undef = .bool false := by rw [← Array.getD_eq_getD_getElem?]; exact hh.dep 18 23 (by kernel_rfl) (by kernel_rfl)
   have hJ := Lib.hid hh.st
   clear hh
   go_simp
   exact ⟨_,rfl,regs.bl_refl _,rfl,hJ.out⟩
  ·refine regs.StepOK.plain rfl fun L a w1 hh => ?_
   have h24 : a.tmps[24]?.getD undef = .bool false := by rw [← Array.getD_eq_getD_getElem?]; exact hh.dep 19 24 (by kernel_rfl) (by kernel_rfl)
   have hJ := Lib.hid hh.st
   clear hh
   go_simp
   exact ⟨_,rfl,regs.bl_refl _,rfl,hJ.out⟩
  ·refine regs.StepOK.no 20 true 25 rfl rfl (fun L a w1 hh => ?_) fun L a w1 hh => ⟨rfl,hh.st⟩
   exact hh.dep 20 25 (by kernel_rfl) (by kernel_rfl)
  ·refine regs.StepOK.no 20 true 25 rfl rfl (fun L a w1 hh => ?_) fun L a w1 hh => ⟨rfl,hh.st⟩
   exact hh.dep 20 25 (by kernel_rfl) (by kernel_rfl)
  ·refine regs.StepOK.no 20 true 25 rfl rfl (fun L a w1 hh => ?_) fun L a w1 hh => ⟨rfl,hh.st⟩
   exact hh.dep 20 25 (by kernel_rfl) (by kernel_rfl)
  ·refine regs.StepOK.no 20 true 25 rfl rfl (fun L a w1 hh => ?_) fun L a w1 hh => ⟨rfl,hh.st⟩
   exact hh.dep 20 25 (by kernel_rfl) (by kernel_rfl)
  ·refine regs.StepOK.no 20 true 25 rfl rfl (fun L a w1 hh => ?_) fun L a w1 hh => ⟨rfl,hh.st⟩
   exact hh.dep 20 25 (by kernel_rfl) (by kernel_rfl)
  ·refine regs.StepOK.no 20 true 25 rfl rfl (fun L a w1 hh => ?_) fun L a w1 hh => ⟨rfl,hh.st⟩
   exact hh.dep 20 25 (by kernel_rfl) (by kernel_rfl)
  ·refine regs.StepOK.no 20 true 25 rfl rfl (fun L a w1 hh => ?_) fun L a w1 hh => ⟨rfl,hh.st⟩
   exact hh.dep 20 25 (by kernel_rfl) (by kernel_rfl)
  ·refine regs.StepOK.no 20 true 25 rfl rfl (fun L a w1 hh => ?_) fun L a w1 hh => ⟨rfl,hh.st⟩
   exact hh.dep 20 25 (by kernel_rfl) (by kernel_rfl)
  ·refine regs.StepOK.no 20 true 25 rfl rfl (fun L a w1 hh => ?_) fun L a w1 hh => ⟨rfl,hh.st⟩
   exact hh.dep 20 25 (by kernel_rfl) (by kernel_rfl)
  ·refine regs.StepOK.plain rfl fun L a w1 hh => ?_
   have h25 : a.tmps[25]?.getD undef = .bool false := by rw [← Array.getD_eq_getD_getElem?]; exact hh.dep 20 25 (by kernel_rfl) (by kernel_rfl)
   have hJ := Lib.hid hh.st
   clear hh
   go_simp
   exact ⟨_,rfl,regs.bl_refl _,rfl,hJ.out⟩
  ·refine regs.StepOK.plain rfl fun L a w1 hh => ?_
   have h35 : a.tmps[35]?.getD undef = .bool false := by rw [← Array.getD_eq_getD_getElem?]; exact hh.dep 30 35 (by kernel_rfl) (by kernel_rfl)
   have hJ := Lib.hid hh.st
   clear hh
   go_simp
   exact ⟨_,rfl,regs.bl_refl _,rfl,hJ.out⟩
  intro L w4 val hL hJ hR hv
  have h4 : val 4 = .bool false := hv 31 4 (by kernel_rfl)
  have HR4 := Lib.hid hR
  clear hv hL hJ hR
  simp only [regs.putAll,List.map_cons,List.map_nil,h4]
  simp only [Act.put,List.setIfInBounds_toArray,List.set_cons_zero,List.set_cons_succ]
  clear h4
  generalize val 5 = v5 at *
  generalize val 6 = v6 at *
  generalize val 7 = v7 at *
  generalize val 8 = v8 at *
  generalize val 9 = v9 at *
  generalize val 10 = v10 at *
  generalize val 11 = v11 at *
  generalize val 12 = v12 at *
  generalize val 13 = v13 at *
  generalize val 14 = v14 at *
  generalize val 15 = v15 at *
  generalize val 16 = v16 at *
  generalize val 17 = v17 at *
  generalize val 18 = v18 at *
  generalize val 19 = v19 at *
  generalize val 20 = v20 at *
  generalize val 21 = v21 at *
  generalize val 22 = v22 at *
  generalize val 23 = v23 at *
  generalize val 24 = v24 at *
  generalize val 25 = v25 at *
  generalize val 26 = v26 at *
  generalize val 27 = v27 at *
  generalize val 28 = v28 at *
  generalize val 29 = v29 at *
  generalize val 30 = v30 at *
  generalize val 31 = v31 at *
  generalize val 32 = v32 at *
  generalize val 33 = v33 at *
  generalize val 34 = v34 at *
  generalize val 35 = v35 at *
  go_wp2_with (fail)
  go_ret
  exact ⟨false,rfl,⟨(fun e => nomatch e),fun e => absurd e.1 HN.out⟩,HR4.out⟩
 have hal : ∀ q,kids x.t q = kids y.t q := Classical.byContradiction hal
 have HA := Lib.hid hal
 have HTS1 : Hid (∀ W,regs.bl w W → Calls Tryz.prog 54 #[.pointer (some ⟨b,0,none⟩),.pointer (some ⟨b2,0,none⟩)] W fun e w' => e = .returned (.bool true) ∧ Below W.heap.size W w') := fun W hb => (HTS.out W hb).mono fun e w' ⟨r,h1,h2,h3⟩ => ⟨by rw [h1,show r = true from h2.2 hal],h3⟩
 by_cases heq : ¬ ∀ i,has x.t i = true → eqN (x.nd i) (y.nd i) = true
 ·have HN := Lib.hid heq
  have HME1 : Hid (∀ W,regs.bl w W → Calls Tryz.prog 55 #[.map (some m),.map (some m2),.func (.func 56) #[] #[]] W fun e w' => e = .returned (.bool false) ∧ Below W.heap.size W w') := fun W hb => (HME.out W hb hal).mono fun e w' ⟨r,h1,h2,h3⟩ => ⟨by rw [h1,show r = false from (by cases r with | false => rfl | true => exact absurd (h2.1 rfl) heq)],h3⟩
  clear HME HTS hal heq
  refine regs.wp_region_put (regs.bl) (regs.noJ) [5,6,7,8,9,10,11,12,13,14,15,16,17,18,19,20,21,22,23,24,25,26,27,28,29,30,31,32,33,34,35,4] (by kernel_rfl) (by kernel_rfl) (fun _ => regs.bl_refl _) (regs.bl_trans) (fun i => (match i with
   | 0 => regs.Say.val _ (.pointer (some ⟨g,0,none⟩))
   | 1 => regs.Say.val _ (.pointer (some ⟨g,0,none⟩))
   | 2 => regs.Say.val _ (.pointer (some ⟨g,2,none⟩))
   | 3 => regs.Say.val _ (.agg ([.int .i64 Z.1,.int .i64 Z.2.1,.int .i64 Z.2.2]).toArray)
   | 4 => regs.Say.val _ (.pointer (some ⟨g2,0,none⟩))
   | 5 => regs.Say.val _ (.pointer (some ⟨g2,0,none⟩))
   | 6 => regs.Say.val _ (.pointer (some ⟨g2,2,none⟩))
   | 7 => regs.Say.val _ (.agg ([.int .i64 Z.1,.int .i64 Z.2.1,.int .i64 Z.2.2]).toArray)
   | 8 => regs.Say.val _ (.bool true)
   | 9 => regs.Say.val _ (.bool true)
   | 10 => regs.Say.val _ (.pointer (some ⟨g,0,none⟩))
   | 11 => regs.Say.val _ (.pointer (some ⟨g,0,none⟩))
   | 12 => regs.Say.val _ (.pointer (some ⟨g,1,none⟩))
   | 13 => regs.Say.val _ (.pointer (some ⟨b,0,none⟩))
   | 14 => regs.Say.val _ (.pointer (some ⟨g2,0,none⟩))
   | 15 => regs.Say.val _ (.pointer (some ⟨g2,0,none⟩))
   | 16 => regs.Say.val _ (.pointer (some ⟨g2,1,none⟩))
   | 17 => regs.Say.val _ (.pointer (some ⟨b2,0,none⟩))
   | 18 => regs.Say.val _ (.bool true)
   | 19 => regs.Say.val _ (.bool true)
   | 20 => regs.Say.val _ (.bool true)
   | 21 => regs.Say.val _ (.pointer (some ⟨g,0,none⟩))
   | 22 => regs.Say.val _ (.pointer (some ⟨g,0,none⟩))
   | 23 => regs.Say.val _ (.pointer (some ⟨g,5,none⟩))
   | 24 => regs.Say.val _ (.map (some m))
   | 25 => regs.Say.val _ (.pointer (some ⟨g2,0,none⟩))
   | 26 => regs.Say.val _ (.pointer (some ⟨g2,0,none⟩))
   | 27 => regs.Say.val _ (.pointer (some ⟨g2,5,none⟩))
   | 28 => regs.Say.val _ (.map (some m2))
   | 29 => regs.Say.val _ (.bool false)
   | 30 => regs.Say.val _ (.bool false)
   | 31 => regs.Say.val _ (.bool false)
   | _ => regs.Say.any _ : regs.Say (regs.bl)).p) (fun _ => regs.Say.mono _) (by kernel_rfl) ((Below.refl _ _).drew) (regs.noJ_ok _ _) ⟨?_,?_,?_,?_,?_,?_,?_,?_,?_,?_,?_,?_,?_,?_,?_,?_,?_,?_,?_,?_,?_,?_,?_,?_,?_,?_,?_,?_,?_,?_,?_,?_,trivial⟩ ?_
  ·refine regs.StepOK.plain rfl fun L a w1 hh => ?_
   have h0 : a.tmps[0]?.getD undef = .pointer (some ⟨g,0,none⟩) := by rw [← Array.getD_eq_getD_getElem?]; exact hh.old 0 rfl
   have hJ := Lib.hid hh.st
   clear hh
   go_simp
   exact ⟨_,rfl,regs.bl_refl _,rfl,hJ.out⟩
  ·refine regs.StepOK.plain rfl fun L a w1 hh => ?_
   have h5 : a.tmps[5]?.getD undef = .pointer (some ⟨g,0,none⟩) := by rw [← Array.getD_eq_getD_getElem?]; exact hh.dep 0 5 (by kernel_rfl) (by kernel_rfl)
   have hJ := Lib.hid hh.st
   clear hh
   go_simp
   exact ⟨_,rfl,regs.bl_refl _,rfl,hJ.out⟩
  ·refine regs.StepOK.plain rfl fun L a w1 hh => ?_
   have h6 : a.tmps[6]?.getD undef = .pointer (some ⟨g,0,none⟩) := by rw [← Array.getD_eq_getD_getElem?]; exact hh.dep 1 6 (by kernel_rfl) (by kernel_rfl)
   have i0 := ((HFS.out _ hh.rel).blk.blk).inside
   have hJ := Lib.hid hh.st
   clear hh
   go_simp
   exact ⟨_,rfl,regs.bl_refl _,rfl,hJ.out⟩
  ·refine regs.StepOK.plain rfl fun L a w1 hh => ?_
   have h7 : a.tmps[7]?.getD undef = .pointer (some ⟨g,2,none⟩) := by rw [← Array.getD_eq_getD_getElem?]; exact hh.dep 2 7 (by kernel_rfl) (by kernel_rfl)
   have hB := Lib.hid ((HFS.out _ hh.rel).blk.blk)
   have hJ := Lib.hid hh.st
   exact wp_take 111 _ rfl g 2 (by simpa [go_sem] using h7) _ hB.out ([.int .i64 Z.1,.int .i64 Z.2.1,.int .i64 Z.2.2]) rfl _ Tryz.underlying111 rfl (by kernel_rfl) ⟨_,rfl,regs.bl_refl _,rfl,hJ.out⟩
  ·refine regs.StepOK.plain rfl fun L a w1 hh => ?_
   have h1 : a.tmps[1]?.getD undef = .pointer (some ⟨g2,0,none⟩) := by rw [← Array.getD_eq_getD_getElem?]; exact hh.old 1 rfl
   have hJ := Lib.hid hh.st
   clear hh
   go_simp
   exact ⟨_,rfl,regs.bl_refl _,rfl,hJ.out⟩
  ·refine regs.StepOK.plain rfl fun L a w1 hh => ?_
   have h9 : a.tmps[9]?.getD undef = .pointer (some ⟨g2,0,none⟩) := by rw [← Array.getD_eq_getD_getElem?]; exact hh.dep 4 9 (by kernel_rfl) (by kernel_rfl)
   have hJ := Lib.hid hh.st
   clear hh
   go_simp
   exact ⟨_,rfl,regs.bl_refl _,rfl,hJ.out⟩
  ·refine regs.StepOK.plain rfl fun L a w1 hh => ?_
   have h10 : a.tmps[10]?.getD undef = .pointer (some ⟨g2,0,none⟩) := by rw [← Array.getD_eq_getD_getElem?]; exact hh.dep 5 10 (by kernel_rfl) (by kernel_rfl)
   have i0 := ((HFT.out _ hh.rel).blk.blk).inside
   have hJ := Lib.hid hh.st
   clear hh
   go_simp
   exact ⟨_,rfl,regs.bl_refl _,rfl,hJ.out⟩
  ·refine regs.StepOK.plain rfl fun L a w1 hh => ?_
   have h11 : a.tmps[11]?.getD undef = .pointer (some ⟨g2,2,none⟩) := by rw [← Array.getD_eq_getD_getElem?]; exact hh.dep 6 11 (by kernel_rfl) (by kernel_rfl)
   have hB := Lib.hid ((HFT.out _ hh.rel).blk.blk)
   have hJ := Lib.hid hh.st
   exact wp_take 111 _ rfl g2 2 (by simpa [go_sem] using h11) _ hB.out ([.int .i64 Z.1,.int .i64 Z.2.1,.int .i64 Z.2.2]) rfl _ Tryz.underlying111 rfl (by kernel_rfl) ⟨_,rfl,regs.bl_refl _,rfl,hJ.out⟩
  ·refine regs.StepOK.plain rfl fun L a w1 hh => ?_
   have h8 : a.tmps[8]?.getD undef = .agg ([.int .i64 Z.1,.int .i64 Z.2.1,.int .i64 Z.2.2]).toArray := by rw [← Array.getD_eq_getD_getElem?]; exact hh.dep 3 8 (by kernel_rfl) (by kernel_rfl)
   have h12 : a.tmps[12]?.getD undef = .agg ([.int .i64 Z.1,.int .i64 Z.2.1,.int .i64 Z.2.2]).toArray := by rw [← Array.getD_eq_getD_getElem?]; exact hh.dep 7 12 (by kernel_rfl) (by kernel_rfl)
   have hJ := Lib.hid hh.st
   clear hh
   go_simp
   exact ⟨_,rfl,regs.bl_refl _,rfl,hJ.out⟩
  ·refine regs.StepOK.plain rfl fun L a w1 hh => ?_
   have h13 : a.tmps[13]?.getD undef = .bool true := by rw [← Array.getD_eq_getD_getElem?]; exact hh.dep 8 13 (by kernel_rfl) (by kernel_rfl)
   have hJ := Lib.hid hh.st
   clear hh
   go_simp
   exact ⟨_,rfl,regs.bl_refl _,rfl,hJ.out⟩
  ·refine regs.StepOK.yes 9 true 14 rfl rfl (fun L a w1 hh => hh.dep 9 14 (by kernel_rfl) (by kernel_rfl)) fun L a w1 hh => ?_
   have h0 : a.tmps[0]?.getD undef = .pointer (some ⟨g,0,none⟩) := by rw [← Array.getD_eq_getD_getElem?]; exact hh.old 0 rfl
   have hJ := Lib.hid hh.st
   clear hh
   go_simp
   exact ⟨_,rfl,regs.bl_refl _,rfl,hJ.out⟩
  ·refine regs.StepOK.yes 9 true 14 rfl rfl (fun L a w1 hh => hh.dep 9 14 (by kernel_rfl) (by kernel_rfl)) fun L a w1 hh => ?_
   have h15 : a.tmps[15]?.getD undef = .pointer (some ⟨g,0,none⟩) := by rw [← Array.getD_eq_getD_getElem?]; exact hh.dep 10 15 (by kernel_rfl) (by kernel_rfl)
   have hJ := Lib.hid hh.st
   clear hh
   go_simp
   exact ⟨_,rfl,regs.bl_refl _,rfl,hJ.out⟩
  ·refine regs.StepOK.yes 9 true 14 rfl rfl (fun L a w1 hh => hh.dep 9 14 (by kernel_rfl) (by kernel_rfl)) fun L a w1 hh => ?_
   have h16 : a.tmps[16]?.getD undef = .pointer (some ⟨g,0,none⟩) := by rw [← Array.getD_eq_getD_getElem?]; exact hh.dep 11 16 (by kernel_rfl) (by kernel_rfl)
   have i0 := ((HFS.out _ hh.rel).blk.blk).inside
   have hJ := Lib.hid hh.st
   clear hh
   go_simp
   exact ⟨_,rfl,regs.bl_refl _,rfl,hJ.out⟩
  ·refine regs.StepOK.yes 9 true 14 rfl rfl (fun L a w1 hh => hh.dep 9 14 (by kernel_rfl) (by kernel_rfl)) fun L a w1 hh => ?_
   have h17 : a.tmps[17]?.getD undef = .pointer (some ⟨g,1,none⟩) := by rw [← Array.getD_eq_getD_getElem?]; exact hh.dep 12 17 (by kernel_rfl) (by kernel_rfl)
   have hB := Lib.hid ((HFS.out _ hh.rel).blk.blk)
   have c0 : w1.cell? ⟨g,1,none⟩ = some (.pointer (some ⟨b,0,none⟩)) := hB.out.cell 1
   have i0 := hB.out.inside
   have hJ := Lib.hid hh.st
   clear hh
   go_simp
   exact ⟨_,rfl,regs.bl_refl _,rfl,hJ.out⟩
  ·refine regs.StepOK.yes 9 true 14 rfl rfl (fun L a w1 hh => hh.dep 9 14 (by kernel_rfl) (by kernel_rfl)) fun L a w1 hh => ?_
   have h1 : a.tmps[1]?.getD undef = .pointer (some ⟨g2,0,none⟩) := by rw [← Array.getD_eq_getD_getElem?]; exact hh.old 1 rfl
   have hJ := Lib.hid hh.st
   clear hh
   go_simp
   exact ⟨_,rfl,regs.bl_refl _,rfl,hJ.out⟩
  ·refine regs.StepOK.yes 9 true 14 rfl rfl (fun L a w1 hh => hh.dep 9 14 (by kernel_rfl) (by kernel_rfl)) fun L a w1 hh => ?_
   have h19 : a.tmps[19]?.getD undef = .pointer (some ⟨g2,0,none⟩) := by rw [← Array.getD_eq_getD_getElem?]; exact hh.dep 14 19 (by kernel_rfl) (by kernel_rfl)
   have hJ := Lib.hid hh.st
   clear hh
   go_simp
   exact ⟨_,rfl,regs.bl_refl _,rfl,hJ.out⟩
  ·refine regs.StepOK.yes 9 true 14 rfl rfl (fun L a w1 hh => hh.dep 9 14 (by kernel_rfl) (by kernel_rfl)) fun L a w1 hh => ?_
   have h20 : a.tmps[20]?.getD undef = .pointer (some ⟨g2,0,none⟩) := by rw [← Array.getD_eq_getD_getElem?]; exact hh.dep 15 20 (by kernel_rfl) (by kernel_rfl)
   have i0 := ((HFT.out _ hh.rel).blk.blk).inside
   have hJ := Lib.hid hh.st
   clear hh
   go_simp
   exact ⟨_,rfl,regs.bl_refl _,rfl,hJ.out⟩
  ·refine regs.StepOK.yes 9 true 14 rfl rfl (fun L a w1 hh => hh.dep 9 14 (by kernel_rfl) (by kernel_rfl)) fun L a w1 hh => ?_
   have h21 : a.tmps[21]?.getD undef = .pointer (some ⟨g2,1,none⟩) := by rw [← Array.getD_eq_getD_getElem?]; exact hh.dep 16 21 (by kernel_rfl) (by kernel_rfl)
   have hB := Lib.hid ((HFT.out _ hh.rel).blk.blk)
   have c0 : w1.cell? ⟨g2,1,none⟩ = some (.pointer (some ⟨b2,0,none⟩)) := hB.out.cell 1
   have i0 := hB.out.inside
   have hJ := Lib.hid hh.st
   clear hh
   go_simp
   exact ⟨_,rfl,regs.bl_refl _,rfl,hJ.out⟩
  ·refine regs.StepOK.yes 9 true 14 rfl rfl (fun L a w1 hh => hh.dep 9 14 (by kernel_rfl) (by kernel_rfl)) fun L a w1 hh => ?_
   have h18 : a.tmps[18]?.getD undef = .pointer (some ⟨b,0,none⟩) := by rw [← Array.getD_eq_getD_getElem?]; exact hh.dep 13 18 (by kernel_rfl) (by kernel_rfl)
   have h22 : a.tmps[22]?.getD undef = .pointer (some ⟨b2,0,none⟩) := by rw [← Array.getD_eq_getD_getElem?]; exact hh.dep 17 22 (by kernel_rfl) (by kernel_rfl)
   have hC := Lib.hid (HTS1.out _ hh.rel)
   have hJ := Lib.hid hh.st
   clear hh
   go_simp
   refine hC.out.mono ?_
   rintro e w9 ⟨rfl,hb9⟩
   exact ⟨_,rfl,hb9,rfl,hJ.out⟩
  ·refine regs.StepOK.plain rfl fun L a w1 hh => ?_
   have h14 : a.tmps[14]?.getD undef = .bool true := by rw [← Array.getD_eq_getD_getElem?]; exact hh.dep 9 14 (by kernel_rfl) (by kernel_rfl)
   have h23 : a.tmps[23]?.getD undef = .bool true := by rw [← Array.getD_eq_getD_getElem?]; exact hh.dep 18 23 (by kernel_rfl) (by kernel_rfl)
   have hJ := Lib.hid hh.st
   clear hh
   go_simp
   exact ⟨_,rfl,regs.bl_refl _,rfl,hJ.out⟩
  ·refine regs.StepOK.plain rfl fun L a w1 hh => ?_
   have h24 : a.tmps[24]?.getD undef = .bool true := by rw [← Array.getD_eq_getD_getElem?]; exact hh.dep 19 24 (by kernel_rfl) (by kernel_rfl)
   have hJ := Lib.hid hh.st
   clear hh
   go_simp
   exact ⟨_,rfl,regs.bl_refl _,rfl,hJ.out⟩
  ·refine regs.StepOK.yes 20 true 25 rfl rfl (fun L a w1 hh => hh.dep 20 25 (by kernel_rfl) (by kernel_rfl)) fun L a w1 hh => ?_
   have h0 : a.tmps[0]?.getD undef = .pointer (some ⟨g,0,none⟩) := by rw [← Array.getD_eq_getD_getElem?]; exact hh.old 0 rfl
   have hJ := Lib.hid hh.st
   clear hh
   go_simp
   exact ⟨_,rfl,regs.bl_refl _,rfl,hJ.out⟩
  ·refine regs.StepOK.yes 20 true 25 rfl rfl (fun L a w1 hh => hh.dep 20 25 (by kernel_rfl) (by kernel_rfl)) fun L a w1 hh => ?_
   have h26 : a.tmps[26]?.getD undef = .pointer (some ⟨g,0,none⟩) := by rw [← Array.getD_eq_getD_getElem?]; exact hh.dep 21 26 (by kernel_rfl) (by kernel_rfl)
   have hJ := Lib.hid hh.st
   clear hh
   go_simp
   exact ⟨_,rfl,regs.bl_refl _,rfl,hJ.out⟩
  ·refine regs.StepOK.yes 20 true 25 rfl rfl (fun L a w1 hh => hh.dep 20 25 (by kernel_rfl) (by kernel_rfl)) fun L a w1 hh => ?_
   have h27 : a.tmps[27]?.getD undef = .pointer (some ⟨g,0,none⟩) := by rw [← Array.getD_eq_getD_getElem?]; exact hh.dep 22 27 (by kernel_rfl) (by kernel_rfl)
   have i0 := ((HFS.out _ hh.rel).blk.blk).inside
   have hJ := Lib.hid hh.st
   clear hh
   go_simp
   exact ⟨_,rfl,regs.bl_refl _,rfl,hJ.out⟩
  ·refine regs.StepOK.yes 20 true 25 rfl rfl (fun L a w1 hh => hh.dep 20 25 (by kernel_rfl) (by kernel_rfl)) fun L a w1 hh => ?_
   have h28 : a.tmps[28]?.getD undef = .pointer (some ⟨g,5,none⟩) := by rw [← Array.getD_eq_getD_getElem?]; exact hh.dep 23 28 (by kernel_rfl) (by kernel_rfl)
   have hB := Lib.hid ((HFS.out _ hh.rel).blk.blk)
   have c0 : w1.cell? ⟨g,5,none⟩ = some (.map (some m)) := hB.out.cell 5
   have i0 := hB.out.inside
   have hJ := Lib.hid hh.st
   clear hh
   go_simp
   exact ⟨_,rfl,regs.bl_refl _,rfl,hJ.out⟩
  ·refine regs.StepOK.yes 20 true 25 rfl rfl (fun L a w1 hh => hh.dep 20 25 (by kernel_rfl) (by kernel_rfl)) fun L a w1 hh => ?_
   have h1 : a.tmps[1]?.getD undef = .pointer (some ⟨g2,0,none⟩) := by rw [← Array.getD_eq_getD_getElem?]; exact hh.old 1 rfl
   have hJ := Lib.hid hh.st
   clear hh
   go_simp
   exact ⟨_,rfl,regs.bl_refl _,rfl,hJ.out⟩
  ·refine regs.StepOK.yes 20 true 25 rfl rfl (fun L a w1 hh => hh.dep 20 25 (by kernel_rfl) (by kernel_rfl)) fun L a w1 hh => ?_
   have h30 : a.tmps[30]?.getD undef = .pointer (some ⟨g2,0,none⟩) := by rw [← Array.getD_eq_getD_getElem?]; exact hh.dep 25 30 (by kernel_rfl) (by kernel_rfl)
   have hJ := Lib.hid hh.st
   clear hh
   go_simp
   exact ⟨_,rfl,regs.bl_refl _,rfl,hJ.out⟩
  ·refine regs.StepOK.yes 20 true 25 rfl rfl (fun L a w1 hh => hh.dep 20 25 (by kernel_rfl) (by kernel_rfl)) fun L a w1 hh => ?_
   have h31 : a.tmps[31]?.getD undef = .pointer (some ⟨g2,0,none⟩) := by rw [← Array.getD_eq_getD_getElem?]; exact hh.dep 26 31 (by kernel_rfl) (by kernel_rfl)
   have i0 := ((HFT.out _ hh.rel).blk.blk).inside
   have hJ := Lib.hid hh.st
   clear hh
   go_simp
   exact ⟨_,rfl,regs.bl_refl _,rfl,hJ.out⟩
  ·refine regs.StepOK.yes 20 true 25 rfl rfl (fun L a w1 hh => hh.dep 20 25 (by kernel_rfl) (by kernel_rfl)) fun L a w1 hh => ?_
   have h32 : a.tmps[32]?.getD undef = .pointer (some ⟨g2,5,none⟩) := by rw [← Array.getD_eq_getD_getElem?]; exact hh.dep 27 32 (by kernel_rfl) (by kernel_rfl)
   have hB := Lib.hid ((HFT.out _ hh.rel).blk.blk)
   have c0 : w1.cell? ⟨g2,5,none⟩ = some (.map (some m2)) := hB.out.cell 5
   have i0 := hB.out.inside
   have hJ := Lib.hid hh.st
   clear hh
   go_simp
   exact ⟨_,rfl,regs.bl_refl _,rfl,hJ.out⟩
  ·refine regs.StepOK.yes 20 true 25 rfl rfl (fun L a w1 hh => hh.dep 20 25 (by kernel_rfl) (by kernel_rfl)) fun L a w1 hh => ?_
   have h29 : a.tmps[29]?.getD undef = .map (some m) := by rw [← Array.getD_eq_getD_getElem?]; exact hh.dep 24 29 (by kernel_rfl) (by kernel_rfl)
   have h33 : a.tmps[33]?.getD undef = .map (some m2) := by rw [← Array.getD_eq_getD_getElem?]; exact hh.dep 28 33 (by kernel_rfl) (by kernel_rfl)
   have hC := Lib.hid (HME1.out _ hh.rel)
   have hJ := Lib.hid hh.st
   clear hh
   go_simp
   refine hC.out.mono ?_
   rintro e w9 ⟨rfl,hb9⟩
   exact ⟨_,rfl,hb9,rfl,hJ.out⟩
  ·refine regs.StepOK.plain rfl fun L a w1 hh => ?_
   have h25 : a.tmps[25]?.getD undef = .bool true := by rw [← Array.getD_eq_getD_getElem?]; exact hh.dep 20 25 (by kernel_rfl) (by kernel_rfl)
   have h34 : a.tmps[34]?.getD undef = .bool false := by rw [← Array.getD_eq_getD_getElem?]; exact hh.dep 29 34 (by kernel_rfl) (by kernel_rfl)
   have hJ := Lib.hid hh.st
   clear hh
   go_simp
   exact ⟨_,rfl,regs.bl_refl _,rfl,hJ.out⟩
  ·refine regs.StepOK.plain rfl fun L a w1 hh => ?_
   have h35 : a.tmps[35]?.getD undef = .bool false := by rw [← Array.getD_eq_getD_getElem?]; exact hh.dep 30 35 (by kernel_rfl) (by kernel_rfl)
   have hJ := Lib.hid hh.st
   clear hh
   go_simp
   exact ⟨_,rfl,regs.bl_refl _,rfl,hJ.out⟩
  intro L w4 val hL hJ hR hv
  have h4 : val 4 = .bool false := hv 31 4 (by kernel_rfl)
  have HR4 := Lib.hid hR
  clear hv hL hJ hR
  simp only [regs.putAll,List.map_cons,List.map_nil,h4]
  simp only [Act.put,List.setIfInBounds_toArray,List.set_cons_zero,List.set_cons_succ]
  clear h4
  generalize val 5 = v5 at *
  generalize val 6 = v6 at *
  generalize val 7 = v7 at *
  generalize val 8 = v8 at *
  generalize val 9 = v9 at *
  generalize val 10 = v10 at *
  generalize val 11 = v11 at *
  generalize val 12 = v12 at *
  generalize val 13 = v13 at *
  generalize val 14 = v14 at *
  generalize val 15 = v15 at *
  generalize val 16 = v16 at *
  generalize val 17 = v17 at *
  generalize val 18 = v18 at *
  generalize val 19 = v19 at *
  generalize val 20 = v20 at *
  generalize val 21 = v21 at *
  generalize val 22 = v22 at *
  generalize val 23 = v23 at *
  generalize val 24 = v24 at *
  generalize val 25 = v25 at *
  generalize val 26 = v26 at *
  generalize val 27 = v27 at *
  generalize val 28 = v28 at *
  generalize val 29 = v29 at *
  generalize val 30 = v30 at *
  generalize val 31 = v31 at *
  generalize val 32 = v32 at *
  generalize val 33 = v33 at *
  generalize val 34 = v34 at *
  generalize val 35 = v35 at *
  go_wp2_with (fail)
  go_ret
  exact ⟨false,rfl,⟨(fun e => nomatch e),fun e => absurd e.2 HN.out⟩,HR4.out⟩
 have heq : ∀ i,has x.t i = true → eqN (x.nd i) (y.nd i) = true := Classical.byContradiction heq
 have HN := Lib.hid heq
 have HME1 : Hid (∀ W,regs.bl w W → Calls Tryz.prog 55 #[.map (some m),.map (some m2),.func (.func 56) #[] #[]] W fun e w' => e = .returned (.bool true) ∧ Below W.heap.size W w') := fun W hb => (HME.out W hb hal).mono fun e w' ⟨r,h1,h2,h3⟩ => ⟨by rw [h1,show r = true from h2.2 heq],h3⟩
 clear HME HTS hal heq
 refine regs.wp_region_put (regs.bl) (regs.noJ) [5,6,7,8,9,10,11,12,13,14,15,16,17,18,19,20,21,22,23,24,25,26,27,28,29,30,31,32,33,34,35,4] (by kernel_rfl) (by kernel_rfl) (fun _ => regs.bl_refl _) (regs.bl_trans) (fun i => (match i with
  | 0 => regs.Say.val _ (.pointer (some ⟨g,0,none⟩))
  | 1 => regs.Say.val _ (.pointer (some ⟨g,0,none⟩))
  | 2 => regs.Say.val _ (.pointer (some ⟨g,2,none⟩))
  | 3 => regs.Say.val _ (.agg ([.int .i64 Z.1,.int .i64 Z.2.1,.int .i64 Z.2.2]).toArray)
  | 4 => regs.Say.val _ (.pointer (some ⟨g2,0,none⟩))
  | 5 => regs.Say.val _ (.pointer (some ⟨g2,0,none⟩))
  | 6 => regs.Say.val _ (.pointer (some ⟨g2,2,none⟩))
  | 7 => regs.Say.val _ (.agg ([.int .i64 Z.1,.int .i64 Z.2.1,.int .i64 Z.2.2]).toArray)
  | 8 => regs.Say.val _ (.bool true)
  | 9 => regs.Say.val _ (.bool true)
  | 10 => regs.Say.val _ (.pointer (some ⟨g,0,none⟩))
  | 11 => regs.Say.val _ (.pointer (some ⟨g,0,none⟩))
  | 12 => regs.Say.val _ (.pointer (some ⟨g,1,none⟩))
  | 13 => regs.Say.val _ (.pointer (some ⟨b,0,none⟩))
  | 14 => regs.Say.val _ (.pointer (some ⟨g2,0,none⟩))
  | 15 => regs.Say.val _ (.pointer (some ⟨g2,0,none⟩))
  | 16 => regs.Say.val _ (.pointer (some ⟨g2,1,none⟩))
  | 17 => regs.Say.val _ (.pointer (some ⟨b2,0,none⟩))
  | 18 => regs.Say.val _ (.bool true)
  | 19 => regs.Say.val _ (.bool true)
  | 20 => regs.Say.val _ (.bool true)
  | 21 => regs.Say.val _ (.pointer (some ⟨g,0,none⟩))
  | 22 => regs.Say.val _ (.pointer (some ⟨g,0,none⟩))
  | 23 => regs.Say.val _ (.pointer (some ⟨g,5,none⟩))
  | 24 => regs.Say.val _ (.map (some m))
  | 25 => regs.Say.val _ (.pointer (some ⟨g2,0,none⟩))
  | 26 => regs.Say.val _ (.pointer (some ⟨g2,0,none⟩))
  | 27 => regs.Say.val _ (.pointer (some ⟨g2,5,none⟩))
  | 28 => regs.Say.val _ (.map (some m2))
  | 29 => regs.Say.val _ (.bool true)
  | 30 => regs.Say.val _ (.bool true)
  | 31 => regs.Say.val _ (.bool true)
  | _ => regs.Say.any _ : regs.Say (regs.bl)).p) (fun _ => regs.Say.mono _) (by kernel_rfl) ((Below.refl _ _).drew) (regs.noJ_ok _ _) ⟨?_,?_,?_,?_,?_,?_,?_,?_,?_,?_,?_,?_,?_,?_,?_,?_,?_,?_,?_,?_,?_,?_,?_,?_,?_,?_,?_,?_,?_,?_,?_,?_,trivial⟩ ?_
 ·refine regs.StepOK.plain rfl fun L a w1 hh => ?_
  have h0 : a.tmps[0]?.getD undef = .pointer (some ⟨g,0,none⟩) := by rw [← Array.getD_eq_getD_getElem?]; exact hh.old 0 rfl
  have hJ := Lib.hid hh.st
  clear hh
  go_simp
  exact ⟨_,rfl,regs.bl_refl _,rfl,hJ.out⟩
 ·refine regs.StepOK.plain rfl fun L a w1 hh => ?_
  have h5 : a.tmps[5]?.getD undef = .pointer (some ⟨g,0,none⟩) := by rw [← Array.getD_eq_getD_getElem?]; exact hh.dep 0 5 (by kernel_rfl) (by kernel_rfl)
  have hJ := Lib.hid hh.st
  clear hh
  go_simp
  exact ⟨_,rfl,regs.bl_refl _,rfl,hJ.out⟩
 ·refine regs.StepOK.plain rfl fun L a w1 hh => ?_
  have h6 : a.tmps[6]?.getD undef = .pointer (some ⟨g,0,none⟩) := by rw [← Array.getD_eq_getD_getElem?]; exact hh.dep 1 6 (by kernel_rfl) (by kernel_rfl)
  have i0 := ((HFS.out _ hh.rel).blk.blk).inside
  have hJ := Lib.hid hh.st
  clear hh
  go_simp
  exact ⟨_,rfl,regs.bl_refl _,rfl,hJ.out⟩
 ·refine regs.StepOK.plain rfl fun L a w1 hh => ?_
  have h7 : a.tmps[7]?.getD undef = .pointer (some ⟨g,2,none⟩) := by rw [← Array.getD_eq_getD_getElem?]; exact hh.dep 2 7 (by kernel_rfl) (by kernel_rfl)
  have hB := Lib.hid ((HFS.out _ hh.rel).blk.blk)
  have hJ := Lib.hid hh.st
  exact wp_take 111 _ rfl g 2 (by simpa [go_sem] using h7) _ hB.out ([.int .i64 Z.1,.int .i64 Z.2.1,.int .i64 Z.2.2]) rfl _ Tryz.underlying111 rfl (by kernel_rfl) ⟨_,rfl,regs.bl_refl _,rfl,hJ.out⟩
 ·refine regs.StepOK.plain rfl fun L a w1 hh => ?_
  have h1 : a.tmps[1]?.getD undef = .pointer (some ⟨g2,0,none⟩) := by rw [← Array.getD_eq_getD_getElem?]; exact hh.old 1 rfl
  have hJ := Lib.hid hh.st
  clear hh
  go_simp
  exact ⟨_,rfl,regs.bl_refl _,rfl,hJ.out⟩
 ·refine regs.StepOK.plain rfl fun L a w1 hh => ?_
  have h9 : a.tmps[9]?.getD undef = .pointer (some ⟨g2,0,none⟩) := by rw [← Array.getD_eq_getD_getElem?]; exact hh.dep 4 9 (by kernel_rfl) (by kernel_rfl)
  have hJ := Lib.hid hh.st
  clear hh
  go_simp
  exact ⟨_,rfl,regs.bl_refl _,rfl,hJ.out⟩
 ·refine regs.StepOK.plain rfl fun L a w1 hh => ?_
  have h10 : a.tmps[10]?.getD undef = .pointer (some ⟨g2,0,none⟩) := by rw [← Array.getD_eq_getD_getElem?]; exact hh.dep 5 10 (by kernel_rfl) (by kernel_rfl)
  have i0 := ((HFT.out _ hh.rel).blk.blk).inside
  have hJ := Lib.hid hh.st
  clear hh
  go_simp
  exact ⟨_,rfl,regs.bl_refl _,rfl,hJ.out⟩
 ·refine regs.StepOK.plain rfl fun L a w1 hh => ?_
  have h11 : a.tmps[11]?.getD undef = .pointer (some ⟨g2,2,none⟩) := by rw [← Array.getD_eq_getD_getElem?]; exact hh.dep 6 11 (by kernel_rfl) (by kernel_rfl)
  have hB := Lib.hid ((HFT.out _ hh.rel).blk.blk)
  have hJ := Lib.hid hh.st
  exact wp_take 111 _ rfl g2 2 (by simpa [go_sem] using h11) _ hB.out ([.int .i64 Z.1,.int .i64 Z.2.1,.int .i64 Z.2.2]) rfl _ Tryz.underlying111 rfl (by kernel_rfl) ⟨_,rfl,regs.bl_refl _,rfl,hJ.out⟩
 ·refine regs.StepOK.plain rfl fun L a w1 hh => ?_
  have h8 : a.tmps[8]?.getD undef = .agg ([.int .i64 Z.1,.int .i64 Z.2.1,.int .i64 Z.2.2]).toArray := by rw [← Array.getD_eq_getD_getElem?]; exact hh.dep 3 8 (by kernel_rfl) (by kernel_rfl)
  have h12 : a.tmps[12]?.getD undef = .agg ([.int .i64 Z.1,.int .i64 Z.2.1,.int .i64 Z.2.2]).toArray := by rw [← Array.getD_eq_getD_getElem?]; exact hh.dep 7 12 (by kernel_rfl) (by kernel_rfl)
  have hJ := Lib.hid hh.st
  clear hh
  go_simp
  exact ⟨_,rfl,regs.bl_refl _,rfl,hJ.out⟩
 ·refine regs.StepOK.plain rfl fun L a w1 hh => ?_
  have h13 : a.tmps[13]?.getD undef = .bool true := by rw [← Array.getD_eq_getD_getElem?]; exact hh.dep 8 13 (by kernel_rfl) (by kernel_rfl)
  have hJ := Lib.hid hh.st
  clear hh
  go_simp
  exact ⟨_,rfl,regs.bl_refl _,rfl,hJ.out⟩
 ·refine regs.StepOK.yes 9 true 14 rfl rfl (fun L a w1 hh => hh.dep 9 14 (by kernel_rfl) (by kernel_rfl)) fun L a w1 hh => ?_
  have h0 : a.tmps[0]?.getD undef = .pointer (some ⟨g,0,none⟩) := by rw [← Array.getD_eq_getD_getElem?]; exact hh.old 0 rfl
  have hJ := Lib.hid hh.st
  clear hh
  go_simp
  exact ⟨_,rfl,regs.bl_refl _,rfl,hJ.out⟩
 ·refine regs.StepOK.yes 9 true 14 rfl rfl (fun L a w1 hh => hh.dep 9 14 (by kernel_rfl) (by kernel_rfl)) fun L a w1 hh => ?_
  have h15 : a.tmps[15]?.getD undef = .pointer (some ⟨g,0,none⟩) := by rw [← Array.getD_eq_getD_getElem?]; exact hh.dep 10 15 (by kernel_rfl) (by kernel_rfl)
  have hJ := Lib.hid hh.st
  clear hh
  go_simp
  exact ⟨_,rfl,regs.bl_refl _,rfl,hJ.out⟩
 ·refine regs.StepOK.yes 9 true 14 rfl rfl (fun L a w1 hh => hh.dep 9 14 (by kernel_rfl) (by kernel_rfl)) fun L a w1 hh => ?_
  have h16 : a.tmps[16]?.getD undef = .pointer (some ⟨g,0,none⟩) := by rw [← Array.getD_eq_getD_getElem?]; exact hh.dep 11 16 (by kernel_rfl) (by kernel_rfl)
  have i0 := ((HFS.out _ hh.rel).blk.blk).inside
  have hJ := Lib.hid hh.st
  clear hh
  go_simp
  exact ⟨_,rfl,regs.bl_refl _,rfl,hJ.out⟩
 ·refine regs.StepOK.yes 9 true 14 rfl rfl (fun L a w1 hh => hh.dep 9 14 (by kernel_rfl) (by kernel_rfl)) fun L a w1 hh => ?_
  have h17 : a.tmps[17]?.getD undef = .pointer (some ⟨g,1,none⟩) := by rw [← Array.getD_eq_getD_getElem?]; exact hh.dep 12 17 (by kernel_rfl) (by kernel_rfl)
  have hB := Lib.hid ((HFS.out _ hh.rel).blk.blk)
  have c0 : w1.cell? ⟨g,1,none⟩ = some (.pointer (some ⟨b,0,none⟩)) := hB.out.cell 1
  have i0 := hB.out.inside
  have hJ := Lib.hid hh.st
  clear hh
  go_simp
  exact ⟨_,rfl,regs.bl_refl _,rfl,hJ.out⟩
 ·refine regs.StepOK.yes 9 true 14 rfl rfl (fun L a w1 hh => hh.dep 9 14 (by kernel_rfl) (by kernel_rfl)) fun L a w1 hh => ?_
  have h1 : a.tmps[1]?.getD undef = .pointer (some ⟨g2,0,none⟩) := by rw [← Array.getD_eq_getD_getElem?]; exact hh.old 1 rfl
  have hJ := Lib.hid hh.st
  clear hh
  go_simp
  exact ⟨_,rfl,regs.bl_refl _,rfl,hJ.out⟩
 ·refine regs.StepOK.yes 9 true 14 rfl rfl (fun L a w1 hh => hh.dep 9 14 (by kernel_rfl) (by kernel_rfl)) fun L a w1 hh => ?_
  have h19 : a.tmps[19]?.getD undef = .pointer (some ⟨g2,0,none⟩) := by rw [← Array.getD_eq_getD_getElem?]; exact hh.dep 14 19 (by kernel_rfl) (by kernel_rfl)
  have hJ := Lib.hid hh.st
  clear hh
  go_simp
  exact ⟨_,rfl,regs.bl_refl _,rfl,hJ.out⟩
 ·refine regs.StepOK.yes 9 true 14 rfl rfl (fun L a w1 hh => hh.dep 9 14 (by kernel_rfl) (by kernel_rfl)) fun L a w1 hh => ?_
  have h20 : a.tmps[20]?.getD undef = .pointer (some ⟨g2,0,none⟩) := by rw [← Array.getD_eq_getD_getElem?]; exact hh.dep 15 20 (by kernel_rfl) (by kernel_rfl)
  have i0 := ((HFT.out _ hh.rel).blk.blk).inside
  have hJ := Lib.hid hh.st
  clear hh
  go_simp
  exact ⟨_,rfl,regs.bl_refl _,rfl,hJ.out⟩
 ·refine regs.StepOK.yes 9 true 14 rfl rfl (fun L a w1 hh => hh.dep 9 14 (by kernel_rfl) (by kernel_rfl)) fun L a w1 hh => ?_
  have h21 : a.tmps[21]?.getD undef = .pointer (some ⟨g2,1,none⟩) := by rw [← Array.getD_eq_getD_getElem?]; exact hh.dep 16 21 (by kernel_rfl) (by kernel_rfl)
  have hB := Lib.hid ((HFT.out _ hh.rel).blk.blk)
  have c0 : w1.cell? ⟨g2,1,none⟩ = some (.pointer (some ⟨b2,0,none⟩)) := hB.out.cell 1
  have i0 := hB.out.inside
  have hJ := Lib.hid hh.st
  clear hh
  go_simp
  exact ⟨_,rfl,regs.bl_refl _,rfl,hJ.out⟩
 ·refine regs.StepOK.yes 9 true 14 rfl rfl (fun L a w1 hh => hh.dep 9 14 (by kernel_rfl) (by kernel_rfl)) fun L a w1 hh => ?_
  have h18 : a.tmps[18]?.getD undef = .pointer (some ⟨b,0,none⟩) := by rw [← Array.getD_eq_getD_getElem?]; exact hh.dep 13 18 (by kernel_rfl) (by kernel_rfl)
  have h22 : a.tmps[22]?.getD undef = .pointer (some ⟨b2,0,none⟩) := by rw [← Array.getD_eq_getD_getElem?]; exact hh.dep 17 22 (by kernel_rfl) (by kernel_rfl)
  have hC := Lib.hid (HTS1.out _ hh.rel)
  have hJ := Lib.hid hh.st
  clear hh
  go_simp
  refine hC.out.mono ?_
  rintro e w9 ⟨rfl,hb9⟩
  exact ⟨_,rfl,hb9,rfl,hJ.out⟩
 ·refine regs.StepOK.plain rfl fun L a w1 hh => ?_
  have h14 : a.tmps[14]?.getD undef = .bool true := by rw [← Array.getD_eq_getD_getElem?]; exact hh.dep 9 14 (by kernel_rfl) (by kernel_rfl)
  have h23 : a.tmps[23]?.getD undef = .bool true := by rw [← Array.getD_eq_getD_getElem?]; exact hh.dep 18 23 (by kernel_rfl) (by kernel_rfl)
  have hJ := Lib.hid hh.st
  clear hh
  go_simp
  exact ⟨_,rfl,regs.bl_refl _,rfl,hJ.out⟩
 ·refine regs.StepOK.plain rfl fun L a w1 hh => ?_
  have h24 : a.tmps[24]?.getD undef = .bool true := by rw [← Array.getD_eq_getD_getElem?]; exact hh.dep 19 24 (by kernel_rfl) (by kernel_rfl)
  have hJ := Lib.hid hh.st
  clear hh
  go_simp
  exact ⟨_,rfl,regs.bl_refl _,rfl,hJ.out⟩
 ·refine regs.StepOK.yes 20 true 25 rfl rfl (fun L a w1 hh => hh.dep 20 25 (by kernel_rfl) (by kernel_rfl)) fun L a w1 hh => ?_
  have h0 : a.tmps[0]?.getD undef = .pointer (some ⟨g,0,none⟩) := by rw [← Array.getD_eq_getD_getElem?]; exact hh.old 0 rfl
  have hJ := Lib.hid hh.st
  clear hh
  go_simp
  exact ⟨_,rfl,regs.bl_refl _,rfl,hJ.out⟩
 ·refine regs.StepOK.yes 20 true 25 rfl rfl (fun L a w1 hh => hh.dep 20 25 (by kernel_rfl) (by kernel_rfl)) fun L a w1 hh => ?_
  have h26 : a.tmps[26]?.getD undef = .pointer (some ⟨g,0,none⟩) := by rw [← Array.getD_eq_getD_getElem?]; exact hh.dep 21 26 (by kernel_rfl) (by kernel_rfl)
  have hJ := Lib.hid hh.st
  clear hh
  go_simp
  exact ⟨_,rfl,regs.bl_refl _,rfl,hJ.out⟩
 ·refine regs.StepOK.yes 20 true 25 rfl rfl (fun L a w1 hh => hh.dep 20 25 (by kernel_rfl) (by kernel_rfl)) fun L a w1 hh => ?_
  have h27 : a.tmps[27]?.getD undef = .pointer (some ⟨g,0,none⟩) := by rw [← Array.getD_eq_getD_getElem?]; exact hh.dep 22 27 (by kernel_rfl) (by kernel_rfl)
  have i0 := ((HFS.out _ hh.rel).blk.blk).inside
  have hJ := Lib.hid hh.st
  clear hh
  go_simp
  exact ⟨_,rfl,regs.bl_refl _,rfl,hJ.out⟩
 ·refine regs.StepOK.yes 20 true 25 rfl rfl (fun L a w1 hh => hh.dep 20 25 (by kernel_rfl) (by kernel_rfl)) fun L a w1 hh => ?_
  have h28 : a.tmps[28]?.getD undef = .pointer (some ⟨g,5,none⟩) := by rw [← Array.getD_eq_getD_getElem?]; exact hh.dep 23 28 (by kernel_rfl) (by kernel_rfl)
  have hB := Lib.hid ((HFS.out _ hh.rel).blk.blk)
  have c0 : w1.cell? ⟨g,5,none⟩ = some (.map (some m)) := hB.out.cell 5
  have i0 := hB.out.inside
  have hJ := Lib.hid hh.st
  clear hh
  go_simp
  exact ⟨_,rfl,regs.bl_refl _,rfl,hJ.out⟩
 ·refine regs.StepOK.yes 20 true 25 rfl rfl (fun L a w1 hh => hh.dep 20 25 (by kernel_rfl) (by kernel_rfl)) fun L a w1 hh => ?_
  have h1 : a.tmps[1]?.getD undef = .pointer (some ⟨g2,0,none⟩) := by rw [← Array.getD_eq_getD_getElem?]; exact hh.old 1 rfl
  have hJ := Lib.hid hh.st
  clear hh
  go_simp
  exact ⟨_,rfl,regs.bl_refl _,rfl,hJ.out⟩
 ·refine regs.StepOK.yes 20 true 25 rfl rfl (fun L a w1 hh => hh.dep 20 25 (by kernel_rfl) (by kernel_rfl)) fun L a w1 hh => ?_
  have h30 : a.tmps[30]?.getD undef = .pointer (some ⟨g2,0,none⟩) := by rw [← Array.getD_eq_getD_getElem?]; exact hh.dep 25 30 (by kernel_rfl) (by kernel_rfl)
  have hJ := Lib.hid hh.st
  clear hh
  go_simp
  exact ⟨_,rfl,regs.bl_refl _,rfl,hJ.out⟩
 ·refine regs.StepOK.yes 20 true 25 rfl rfl (fun L a w1 hh => hh.dep 20 25 (by kernel_rfl) (by kernel_rfl)) fun L a w1 hh => ?_
  have h31 : a.tmps[31]?.getD undef = .pointer (some ⟨g2,0,none⟩) := by rw [← Array.getD_eq_getD_getElem?]; exact hh.dep 26 31 (by kernel_rfl) (by kernel_rfl)
  have i0 := ((HFT.out _ hh.rel).blk.blk).inside
  have hJ := Lib.hid hh.st
  clear hh
  go_simp
  exact ⟨_,rfl,regs.bl_refl _,rfl,hJ.out⟩
 ·refine regs.StepOK.yes 20 true 25 rfl rfl (fun L a w1 hh => hh.dep 20 25 (by kernel_rfl) (by kernel_rfl)) fun L a w1 hh => ?_
  have h32 : a.tmps[32]?.getD undef = .pointer (some ⟨g2,5,none⟩) := by rw [← Array.getD_eq_getD_getElem?]; exact hh.dep 27 32 (by kernel_rfl) (by kernel_rfl)
  have hB := Lib.hid ((HFT.out _ hh.rel).blk.blk)
  have c0 : w1.cell? ⟨g2,5,none⟩ = some (.map (some m2)) := hB.out.cell 5
  have i0 := hB.out.inside
  have hJ := Lib.hid hh.st
  clear hh
  go_simp
  exact ⟨_,rfl,regs.bl_refl _,rfl,hJ.out⟩
 ·refine regs.StepOK.yes 20 true 25 rfl rfl (fun L a w1 hh => hh.dep 20 25 (by kernel_rfl) (by kernel_rfl)) fun L a w1 hh => ?_
  have h29 : a.tmps[29]?.getD undef = .map (some m) := by rw [← Array.getD_eq_getD_getElem?]; exact hh.dep 24 29 (by kernel_rfl) (by kernel_rfl)
  have h33 : a.tmps[33]?.getD undef = .map (some m2) := by rw [← Array.getD_eq_getD_getElem?]; exact hh.dep 28 33 (by kernel_rfl) (by kernel_rfl)
  have hC := Lib.hid (HME1.out _ hh.rel)
  have hJ := Lib.hid hh.st
  clear hh
  go_simp
  refine hC.out.mono ?_
  rintro e w9 ⟨rfl,hb9⟩
  exact ⟨_,rfl,hb9,rfl,hJ.out⟩
 ·refine regs.StepOK.plain rfl fun L a w1 hh => ?_
  have h25 : a.tmps[25]?.getD undef = .bool true := by rw [← Array.getD_eq_getD_getElem?]; exact hh.dep 20 25 (by kernel_rfl) (by kernel_rfl)
  have h34 : a.tmps[34]?.getD undef = .bool true := by rw [← Array.getD_eq_getD_getElem?]; exact hh.dep 29 34 (by kernel_rfl) (by kernel_rfl)
  have hJ := Lib.hid hh.st
  clear hh
  go_simp
  exact ⟨_,rfl,regs.bl_refl _,rfl,hJ.out⟩
 ·refine regs.StepOK.plain rfl fun L a w1 hh => ?_
  have h35 : a.tmps[35]?.getD undef = .bool true := by rw [← Array.getD_eq_getD_getElem?]; exact hh.dep 30 35 (by kernel_rfl) (by kernel_rfl)
  have hJ := Lib.hid hh.st
  clear hh
  go_simp
  exact ⟨_,rfl,regs.bl_refl _,rfl,hJ.out⟩
 intro L w4 val hL hJ hR hv
 have h4 : val 4 = .bool true := hv 31 4 (by kernel_rfl)
 have HR4 := Lib.hid hR
 clear hv hL hJ hR
 simp only [regs.putAll,List.map_cons,List.map_nil,h4]
 simp only [Act.put,List.setIfInBounds_toArray,List.set_cons_zero,List.set_cons_succ]
 clear h4
 generalize val 5 = v5 at *
 generalize val 6 = v6 at *
 generalize val 7 = v7 at *
 generalize val 8 = v8 at *
 generalize val 9 = v9 at *
 generalize val 10 = v10 at *
 generalize val 11 = v11 at *
 generalize val 12 = v12 at *
 generalize val 13 = v13 at *
 generalize val 14 = v14 at *
 generalize val 15 = v15 at *
 generalize val 16 = v16 at *
 generalize val 17 = v17 at *
 generalize val 18 = v18 at *
 generalize val 19 = v19 at *
 generalize val 20 = v20 at *
 generalize val 21 = v21 at *
 generalize val 22 = v22 at *
 generalize val 23 = v23 at *
 generalize val 24 = v24 at *
 generalize val 25 = v25 at *
 generalize val 26 = v26 at *
 generalize val 27 = v27 at *
 generalize val 28 = v28 at *
 generalize val 29 = v29 at *
 generalize val 30 = v30 at *
 generalize val 31 = v31 at *
 generalize val 32 = v32 at *
 generalize val 33 = v33 at *
 generalize val 34 = v34 at *
 generalize val 35 = v35 at *
 go_wp2_with (fail)
 go_ret
 exact ⟨true,rfl,⟨fun _ => ⟨HA.out,HN.out⟩,fun _ => rfl⟩,HR4.out⟩
end
end Go.Proofs.YtehmblcbccceaaaGreat
