import Derived.Test.YtehmblcbccceaaaGreatLScY
import Derived.Test.YtehmblcbccceaaaGreatLScLay
import Derived.Shelf.SlMaps.Clone
namespace Go.Proofs.YtehmblcbccceaaaGreat
open Go.RowKit pxm imm trm Go.Maps
theorem mclone {w : World} {m : Nat} {es : LV} (h : VM w m es) : Calls Tryz.prog 53 #[.map (some m)] w fun e w' => e = .returned (.map (some w.heap.size)) ∧ VM w' w.heap.size es ∧ Below w.heap.size w w' := by
  refine (AnyW.maps_Clone_owns l_mclone 3 anyE m es.length (mapV es) w h.own).mono ?_
  rintro e w' ⟨rfl,h1,-,h3⟩
  exact ⟨rfl,⟨h.rises,h1,h.few⟩,h3⟩
structure CpJ (base : Nat) (Z : ZZ) (t : T) (es : LV) (i8 i13 i14 i15 : Bool) (v11 v16 v17 v2 : Value) (w : World) : Prop where
  bsz : base ≤ w.heap.size
  tree : i8 = true → ∃ b s,v11 = .pointer (some ⟨b,0,none⟩) ∧ TreeAt w b s t ∧ (∀ k,FootT b s t k → base ≤ k) ∧ (i13 = true → ∀ m,v16 = .map (some m) → ¬ FootT b s t m)
  map : i13 = true → ∃ m,v16 = .map (some m) ∧ VM w m es ∧ base ≤ m
  scn : i14 = true → ∃ g b s m,v17 = .pointer (some ⟨g,0,none⟩) ∧ base ≤ g ∧ BlkT w g (sccs b m Z) tScene ∧ TreeAt w b s t ∧ VM w m es ∧ (∀ k,SFoot b m s t k → base ≤ k) ∧ ¬ FootT b s t m ∧ ¬ SFoot b m s t g
  out : i15 = true → v2 = v17
  o14 : i14 = true → i8 = true ∧ i13 = true
  o15 : i15 = true → i14 = true
section
variable {base : Nat} {Z : ZZ} {t : T} {es : LV} {i8 i13 i14 i15 : Bool} {v11 v16 v17 v2 : Value} {w w' : World}
theorem CpJ.slots {u11 u16 u17 u2 : Value} (h : CpJ base Z t es i8 i13 i14 i15 v11 v16 v17 v2 w) (e1 : u11 = v11) (e2 : u16 = v16) (e3 : u17 = v17) (e4 : u2 = v2) : CpJ base Z t es i8 i13 i14 i15 u11 u16 u17 u2 w := by
  rw [e1,e2,e3,e4]; exact h
theorem CpJ.below (h : CpJ base Z t es i8 i13 i14 i15 v11 v16 v17 v2 w) (hb : Below w.heap.size w w') : CpJ base Z t es i8 i13 i14 i15 v11 v16 v17 v2 w' where
  bsz := Nat.le_trans h.bsz hb.size
  tree e := by
    obtain ⟨b,s,h1,h2,h3⟩ := h.tree e
    exact ⟨b,s,h1,h2.below hb,h3⟩
  map e := by
    obtain ⟨m,h1,h2,h3⟩ := h.map e
    exact ⟨m,h1,h2.below hb,h3⟩
  scn e := by
    obtain ⟨g,b,s,m,h1,h2,h3,h4,h5,h6⟩ := h.scn e
    exact ⟨g,b,s,m,h1,h2,h3.stays (hb.block _ h3.inside),h4.below hb,h5.below hb,h6⟩
  out := h.out
  o14 := h.o14
  o15 := h.o15
theorem CpJ.start (hb : base ≤ w.heap.size) : CpJ base Z t es false false false false v11 v16 v17 v2 w :=
  ⟨hb,(fun e => nomatch e),(fun e => nomatch e),(fun e => nomatch e),(fun e => nomatch e),(fun e => nomatch e),(fun e => nomatch e)⟩
theorem CpJ.grow (h : CpJ base Z t es i8 i13 i14 i15 v11 v16 v17 v2 w) (h8 : i8 = false) {b : Nat} {s : Sh} {u11 : Value} (hb : Below w.heap.size w w') (h1 : TreeAt w' b s t) (h2 : ∀ k,FootT b s t k → w.heap.size ≤ k) (e11 : u11 = .pointer (some ⟨b,0,none⟩)) : CpJ base Z t es true i13 i14 i15 u11 v16 v17 v2 w' :=
  have h14 := not_of (fun e => (h.o14 e).1) h8
  have h15 := not_of h.o15 h14
  have h' := h.below hb
  ⟨h'.bsz,fun _ => ⟨b,s,e11,h1,fun k hk => Nat.le_trans h.bsz (h2 k hk),fun e m em hm => by
    obtain ⟨m',e1,e2,-⟩ := h.map e
    rw [em] at e1
    injection e1 with e1
    injection e1 with e1
    have := h2 m hm
    have := e2.inside
    omega⟩,h'.map,(fun e => by rw [h14] at e; cases e),(fun e => by rw [h15] at e; cases e),(fun e => ⟨rfl,(h'.o14 e).2⟩),h'.o15⟩
theorem CpJ.make {u16 : Value} (h : CpJ base Z t es i8 i13 i14 i15 v11 v16 v17 v2 w) (h13 : i13 = false) (hb : Below w.heap.size w w') (h1 : VM w' w.heap.size es) (e16 : u16 = .map (some w.heap.size)) : CpJ base Z t es i8 true i14 i15 v11 u16 v17 v2 w' := by
  have h14 := not_of (fun e => (h.o14 e).2) h13
  subst e16 h13 h14
  have h' := h.below hb
  refine ⟨h'.bsz,fun e => ?_,fun _ => ⟨_,rfl,h1,h.bsz⟩,h'.scn,h'.out,fun e => (nomatch e),h'.o15⟩
  obtain ⟨b0,s0,h10,h20,h30,-⟩ := h.tree e
  refine ⟨b0,s0,h10,h20.below hb,h30,fun _ m em hm => ?_⟩
  injection em with em
  injection em with em
  have := h20.raw.inside m hm
  omega
theorem CpJ.last (h : CpJ base Z t es i8 i13 i14 i15 v11 v16 v17 v2 w) (h8 : i8 = true) (h13 : i13 = true) (h14 : i14 = false) : ∃ b m,v11 = .pointer (some ⟨b,0,none⟩) ∧ v16 = .map (some m) ∧ ∀ e w',OfQ b m Z w e w' → ∃ u,e = .returned u ∧ Below w.heap.size w w' ∧ CpJ base Z t es i8 i13 true i15 v11 v16 u v2 w' := by
  have h15 := not_of h.o15 h14
  subst h8 h13 h14
  obtain ⟨b,s,e1,e2,e3,e4⟩ := h.tree rfl
  obtain ⟨m,f1,f2,f3⟩ := h.map rfl
  refine ⟨b,m,e1,f1,?_⟩
  rintro e w' ⟨g,rfl,g1,g2,g3⟩
  have h' := h.below g3
  have hnf := e4 rfl m f1
  refine ⟨_,rfl,g3,⟨h'.bsz,h'.tree,h'.map,fun _ => ⟨g,b,s,m,rfl,Nat.le_trans h.bsz g1,g2,e2.below g3,f2.below g3,fun k hk => ?_,hnf,fun hk => ?_⟩,(fun e => by rw [h15] at e; cases e),(fun _ => ⟨rfl,rfl⟩),(fun _ => rfl)⟩⟩
  · rcases hk with e | e
    · rw [e]; exact f3
    · exact e3 k e
  · rcases hk with e | e
    · have := f2.inside; omega
    · have := e2.raw.inside g e; omega
theorem CpJ.tell {u2 : Value} (h : CpJ base Z t es i8 i13 i14 i15 v11 v16 v17 v2 w) (h14 : i14 = true) (e2 : u2 = v17) : CpJ base Z t es i8 i13 i14 true v11 v16 v17 u2 w := ⟨h.bsz,h.tree,h.map,h.scn,fun _ => e2,h.o14,fun _ => h14⟩
end
def SCopyQ (Z : ZZ) (S : Bset) (x : PSc) (w : World) (e : Ending) (w' : World) : Prop :=
  ∃ g b m s,e = .returned (.pointer (some ⟨g,0,none⟩)) ∧ SceneAt w' g b m s ⟨Z.1,Z.2,fun k => Z.3 k ∨ S k⟩ x ∧ Below w.heap.size w w' ∧ (∀ k,SFoot b m s x.t k → w.heap.size ≤ k) ∧ w.heap.size ≤ g
section
variable {w : World} {g b m : Nat} {s : Sh} {Z : ZZ} {x : PSc}
set_option maxHeartbeats 4000000 in
set_option maxRecDepth 100000 in
theorem scopy_any (h : SceneAt w g b m s Z x) (hn : x.t.length ≤ 1000) :
    Calls Tryz.prog 18 #[.pointer (some ⟨g,0,none⟩)] w (SCopyQ Z (SFoot b m s x.t) x w) := by
  have HS := Lib.hid h
  have HN := Lib.hid hn
  have HFS : Hid (∀ W,Below w.heap.size w W → SceneAt W g b m s Z x) := fun W hb => h.below hb
  obtain ⟨es,hm,h1,h2⟩ := h.map
  have HVM : Hid (∀ W,Below w.heap.size w W → VM W m es) := fun W hb => hm.below hb
  have HE1 := Lib.hid h1
  have HE2 := Lib.hid h2
  clear h hn hm h1 h2
  go_enter Tryz.func18,Tryz.ntmps18
  go_upto_region 1 with (fail)
  refine regv.wp_region_put (Below w.heap.size) (fun L V wx => CpJ w.heap.size Z x.t es (L 8) (L 13) (L 14) (L 15) (V 11) (V 16) (V 17) (V 2) wx) [3,4,5,6,7,8,9,10,11,12,13,14,15,16,17,2] (by kernel_rfl) (by kernel_rfl) (fun _ => Below.refl _ _) (fun _ _ _ h k => h.trans k) (fun i => (match i with
    | 0 => regs.Say.val _ (.pointer (some ⟨g,0,none⟩))
    | 1 => regs.Say.val _ (.pointer (some ⟨g,0,none⟩))
    | 2 => regs.Say.val _ (.pointer (some ⟨g,2,none⟩))
    | 3 => regs.Say.val _ (.agg ([.int .i64 Z.1,.int .i64 Z.2.1,.int .i64 Z.2.2]).toArray)
    | 4 => regs.Say.val _ (.pointer (some ⟨g,0,none⟩))
    | 5 => regs.Say.val _ (.pointer (some ⟨g,0,none⟩))
    | 6 => regs.Say.val _ (.pointer (some ⟨g,1,none⟩))
    | 7 => regs.Say.val _ (.pointer (some ⟨b,0,none⟩))
    | 8 => regs.Say.any _
    | 9 => regs.Say.val _ (.pointer (some ⟨g,0,none⟩))
    | 10 => regs.Say.val _ (.pointer (some ⟨g,0,none⟩))
    | 11 => regs.Say.val _ (.pointer (some ⟨g,5,none⟩))
    | 12 => regs.Say.val _ (.map (some m))
    | 13 => regs.Say.any _
    | 14 => regs.Say.any _
    | 15 => regs.Say.any _
    | _ => regs.Say.any _ : regs.Say (Below w.heap.size)).p) (fun _ => regs.Say.mono _) (by kernel_rfl) ((Below.refl _ _).drew) (CpJ.start (Below.refl 0 w).drew.size) ⟨?_,?_,?_,?_,?_,?_,?_,?_,?_,?_,?_,?_,?_,?_,?_,?_,trivial⟩ ?_
  · refine regv.StepOK.plain rfl fun L a w1 hh => ?_
    have h0 : a.tmps[0]?.getD undef = .pointer (some ⟨g,0,none⟩) := by rw [← Array.getD_eq_getD_getElem?]; exact hh.old 0 rfl
    have hJ := Lib.hid hh.st
    clear hh
    go_simp
    exact ⟨_,rfl,Below.refl _ _,rfl,CpJ.slots hJ.out (regv.sl_ne (by decide)) (regv.sl_ne (by decide)) (regv.sl_ne (by decide)) (regv.sl_ne (by decide))⟩
  · refine regv.StepOK.plain rfl fun L a w1 hh => ?_
    have h3 : a.tmps[3]?.getD undef = .pointer (some ⟨g,0,none⟩) := by rw [← Array.getD_eq_getD_getElem?]; exact hh.dep 0 3 (by kernel_rfl) (by kernel_rfl)
    have hJ := Lib.hid hh.st
    clear hh
    go_simp
    exact ⟨_,rfl,Below.refl _ _,rfl,CpJ.slots hJ.out (regv.sl_ne (by decide)) (regv.sl_ne (by decide)) (regv.sl_ne (by decide)) (regv.sl_ne (by decide))⟩
  · refine regv.StepOK.plain rfl fun L a w1 hh => ?_
    have h4 : a.tmps[4]?.getD undef = .pointer (some ⟨g,0,none⟩) := by rw [← Array.getD_eq_getD_getElem?]; exact hh.dep 1 4 (by kernel_rfl) (by kernel_rfl)
    have i0 := ((HFS.out _ hh.rel).blk.blk).inside
    have hJ := Lib.hid hh.st
    clear hh
    go_simp
    exact ⟨_,rfl,Below.refl _ _,rfl,CpJ.slots hJ.out (regv.sl_ne (by decide)) (regv.sl_ne (by decide)) (regv.sl_ne (by decide)) (regv.sl_ne (by decide))⟩
  · refine regv.StepOK.plain rfl fun L a w1 hh => ?_
    have h5 : a.tmps[5]?.getD undef = .pointer (some ⟨g,2,none⟩) := by rw [← Array.getD_eq_getD_getElem?]; exact hh.dep 2 5 (by kernel_rfl) (by kernel_rfl)
    have hB := Lib.hid ((HFS.out _ hh.rel).blk.blk)
    have hJ := Lib.hid hh.st
    exact wp_take 111 _ rfl g 2 (by simpa [go_sem] using h5) _ hB.out ([.int .i64 Z.1,.int .i64 Z.2.1,.int .i64 Z.2.2]) rfl _ Tryz.underlying111 rfl (by kernel_rfl) ⟨_,rfl,Below.refl _ _,rfl,CpJ.slots hJ.out (regv.sl_ne (by decide)) (regv.sl_ne (by decide)) (regv.sl_ne (by decide)) (regv.sl_ne (by decide))⟩
  · refine regv.StepOK.plain rfl fun L a w1 hh => ?_
    have h0 : a.tmps[0]?.getD undef = .pointer (some ⟨g,0,none⟩) := by rw [← Array.getD_eq_getD_getElem?]; exact hh.old 0 rfl
    have hJ := Lib.hid hh.st
    clear hh
    go_simp
    exact ⟨_,rfl,Below.refl _ _,rfl,CpJ.slots hJ.out (regv.sl_ne (by decide)) (regv.sl_ne (by decide)) (regv.sl_ne (by decide)) (regv.sl_ne (by decide))⟩
  · refine regv.StepOK.plain rfl fun L a w1 hh => ?_
    have h7 : a.tmps[7]?.getD undef = .pointer (some ⟨g,0,none⟩) := by rw [← Array.getD_eq_getD_getElem?]; exact hh.dep 4 7 (by kernel_rfl) (by kernel_rfl)
    have hJ := Lib.hid hh.st
    clear hh
    go_simp
    exact ⟨_,rfl,Below.refl _ _,rfl,CpJ.slots hJ.out (regv.sl_ne (by decide)) (regv.sl_ne (by decide)) (regv.sl_ne (by decide)) (regv.sl_ne (by decide))⟩
  · refine regv.StepOK.plain rfl fun L a w1 hh => ?_
    have h8 : a.tmps[8]?.getD undef = .pointer (some ⟨g,0,none⟩) := by rw [← Array.getD_eq_getD_getElem?]; exact hh.dep 5 8 (by kernel_rfl) (by kernel_rfl)
    have i0 := ((HFS.out _ hh.rel).blk.blk).inside
    have hJ := Lib.hid hh.st
    clear hh
    go_simp
    exact ⟨_,rfl,Below.refl _ _,rfl,CpJ.slots hJ.out (regv.sl_ne (by decide)) (regv.sl_ne (by decide)) (regv.sl_ne (by decide)) (regv.sl_ne (by decide))⟩
  · refine regv.StepOK.plain rfl fun L a w1 hh => ?_
    have h9 : a.tmps[9]?.getD undef = .pointer (some ⟨g,1,none⟩) := by rw [← Array.getD_eq_getD_getElem?]; exact hh.dep 6 9 (by kernel_rfl) (by kernel_rfl)
    have hB := Lib.hid ((HFS.out _ hh.rel).blk.blk)
    have c0 : w1.cell? ⟨g,1,none⟩ = some (.pointer (some ⟨b,0,none⟩)) := hB.out.cell 1
    have i0 := hB.out.inside
    have hJ := Lib.hid hh.st
    clear hh
    go_simp
    exact ⟨_,rfl,Below.refl _ _,rfl,CpJ.slots hJ.out (regv.sl_ne (by decide)) (regv.sl_ne (by decide)) (regv.sl_ne (by decide)) (regv.sl_ne (by decide))⟩
  · refine regv.StepOK.plain rfl fun L a w1 hh => ?_
    have h10 : a.tmps[10]?.getD undef = .pointer (some ⟨b,0,none⟩) := by rw [← Array.getD_eq_getD_getElem?]; exact hh.dep 7 10 (by kernel_rfl) (by kernel_rfl)
    have hJ := Lib.hid hh.st
    have hsz := Lib.hid hh.size
    have hC := Lib.hid (tclone (HFS.out _ hh.rel).tree HN.out)
    unfold CloneQ at hC
    have hun := Lib.hid hh.un
    clear hh
    go_simp
    refine hC.out.mono ?_
    rintro e w9 ⟨b9,s9,rfl,ht9,hf9,hb9⟩
    exact ⟨_,rfl,hb9.mono hJ.out.bsz,trivial,CpJ.slots (hJ.out.grow hun.out hb9 ht9 hf9 rfl) (regv.sl_same (by rw [hsz.out]; simp)) (regv.sl_ne (by decide)) (regv.sl_ne (by decide)) (regv.sl_ne (by decide))⟩
  · refine regv.StepOK.plain rfl fun L a w1 hh => ?_
    have h0 : a.tmps[0]?.getD undef = .pointer (some ⟨g,0,none⟩) := by rw [← Array.getD_eq_getD_getElem?]; exact hh.old 0 rfl
    have hJ := Lib.hid hh.st
    clear hh
    go_simp
    exact ⟨_,rfl,Below.refl _ _,rfl,CpJ.slots hJ.out (regv.sl_ne (by decide)) (regv.sl_ne (by decide)) (regv.sl_ne (by decide)) (regv.sl_ne (by decide))⟩
  · refine regv.StepOK.plain rfl fun L a w1 hh => ?_
    have h12 : a.tmps[12]?.getD undef = .pointer (some ⟨g,0,none⟩) := by rw [← Array.getD_eq_getD_getElem?]; exact hh.dep 9 12 (by kernel_rfl) (by kernel_rfl)
    have hJ := Lib.hid hh.st
    clear hh
    go_simp
    exact ⟨_,rfl,Below.refl _ _,rfl,CpJ.slots hJ.out (regv.sl_ne (by decide)) (regv.sl_ne (by decide)) (regv.sl_ne (by decide)) (regv.sl_ne (by decide))⟩
  · refine regv.StepOK.plain rfl fun L a w1 hh => ?_
    have h13 : a.tmps[13]?.getD undef = .pointer (some ⟨g,0,none⟩) := by rw [← Array.getD_eq_getD_getElem?]; exact hh.dep 10 13 (by kernel_rfl) (by kernel_rfl)
    have i0 := ((HFS.out _ hh.rel).blk.blk).inside
    have hJ := Lib.hid hh.st
    clear hh
    go_simp
    exact ⟨_,rfl,Below.refl _ _,rfl,CpJ.slots hJ.out (regv.sl_ne (by decide)) (regv.sl_ne (by decide)) (regv.sl_ne (by decide)) (regv.sl_ne (by decide))⟩
  · refine regv.StepOK.plain rfl fun L a w1 hh => ?_
    have h14 : a.tmps[14]?.getD undef = .pointer (some ⟨g,5,none⟩) := by rw [← Array.getD_eq_getD_getElem?]; exact hh.dep 11 14 (by kernel_rfl) (by kernel_rfl)
    have hB := Lib.hid ((HFS.out _ hh.rel).blk.blk)
    have c0 : w1.cell? ⟨g,5,none⟩ = some (.map (some m)) := hB.out.cell 5
    have i0 := hB.out.inside
    have hJ := Lib.hid hh.st
    clear hh
    go_simp
    exact ⟨_,rfl,Below.refl _ _,rfl,CpJ.slots hJ.out (regv.sl_ne (by decide)) (regv.sl_ne (by decide)) (regv.sl_ne (by decide)) (regv.sl_ne (by decide))⟩
  · refine regv.StepOK.plain rfl fun L a w1 hh => ?_
    have h15 : a.tmps[15]?.getD undef = .map (some m) := by rw [← Array.getD_eq_getD_getElem?]; exact hh.dep 12 15 (by kernel_rfl) (by kernel_rfl)
    have hJ := Lib.hid hh.st
    have hsz := Lib.hid hh.size
    have hC := Lib.hid (mclone (HVM.out _ hh.rel))
    have hun := Lib.hid hh.un
    clear hh
    go_simp
    refine hC.out.mono ?_
    rintro e w9 ⟨rfl,hm9,hb9⟩
    exact ⟨_,rfl,hb9.mono hJ.out.bsz,trivial,CpJ.slots (hJ.out.make hun.out hb9 hm9 rfl) (regv.sl_ne (by decide)) (regv.sl_same (by rw [hsz.out]; simp)) (regv.sl_ne (by decide)) (regv.sl_ne (by decide))⟩
  · refine regv.StepOK.plain rfl fun L a w1 hh => ?_
    have h6 : a.tmps[6]?.getD undef = .agg ([.int .i64 Z.1,.int .i64 Z.2.1,.int .i64 Z.2.2]).toArray := by rw [← Array.getD_eq_getD_getElem?]; exact hh.dep 3 6 (by kernel_rfl) (by kernel_rfl)
    have hJ := Lib.hid hh.st
    have hsz := Lib.hid hh.size
    obtain ⟨b9,m9,e11,e16,hQ0⟩ := hh.st.last (hh.up 8 (by kernel_rfl)) (hh.up 13 (by kernel_rfl)) hh.un
    have h11 : a.tmps[11]?.getD undef = .pointer (some ⟨b9,0,none⟩) := by rw [← Array.getD_eq_getD_getElem?]; exact e11
    have h16 : a.tmps[16]?.getD undef = .map (some m9) := by rw [← Array.getD_eq_getD_getElem?]; exact e16
    have hQ := Lib.hid hQ0
    have hC := Lib.hid (of_any Z b9 m9 w1)
    clear hQ0
    clear hh
    go_simp
    refine hC.out.mono ?_
    intro e w9 hq
    obtain ⟨u9,rfl,hb9,hs9⟩ := hQ.out e w9 hq
    exact ⟨_,rfl,hb9.mono hJ.out.bsz,trivial,CpJ.slots hs9 (regv.sl_ne (by decide)) (regv.sl_ne (by decide)) (regv.sl_same (by rw [hsz.out]; simp)) (regv.sl_ne (by decide))⟩
  · refine regv.StepOK.plain rfl fun L a w1 hh => ?_
    have hsz := Lib.hid hh.size
    have h17 : a.tmps[17]?.getD undef = regv.sl a 17 := by unfold regv.sl; rw [Array.getD_eq_getD_getElem?]
    have hu := Lib.hid (hh.st.tell (hh.up 14 (by kernel_rfl)) rfl)
    clear hh
    go_simp
    exact ⟨_,rfl,Below.refl _ _,trivial,CpJ.slots hu.out (regv.sl_ne (by decide)) (regv.sl_ne (by decide)) (regv.sl_ne (by decide)) (regv.sl_same (by rw [hsz.out]; simp))⟩
  intro L w4 val hL hJ hR hv
  have HR4 := Lib.hid hR
  have hN : CpJ w.heap.size Z x.t es (L 8) (L 13) true true (val 11) (val 16) (val 17) (val 2) w4 := by
    have h := hJ
    rw [hL 14 (by decide),hL 15 (by decide)] at h
    exact h
  obtain ⟨g9,b9,s9,m9,e17,hgb,hblk,htr,hvm,hft,hmf,hgf⟩ := hN.scn rfl
  have e2 := (hN.out rfl).trans e17
  have HSC := Lib.hid (And.intro hgb (And.intro hblk (And.intro htr (And.intro hvm (And.intro hft (And.intro hmf hgf))))))
  clear hv hL hJ hR hN hgb hblk htr hvm hft hmf hgf
  simp only [regs.putAll,List.map_cons,List.map_nil]
  simp only [Act.put,List.setIfInBounds_toArray,List.set_cons_zero,List.set_cons_succ]
  generalize val 3 = v3 at *
  generalize val 4 = v4 at *
  generalize val 5 = v5 at *
  generalize val 6 = v6 at *
  generalize val 7 = v7 at *
  generalize val 8 = v8 at *
  generalize val 9 = v9 at *
  generalize val 10 = v10 at *
  generalize val 11 = v11 at *
  generalize val 12 = v12 at *
  generalize val 13 = v13 at *
  generalize val 14 = v14 at *
  generalize val 15 = v15 at *
  generalize val 16 = v16 at *
  rw [e17]
  clear e17
  rw [e2]
  clear e2
  go_wp2_with (fail)
  go_ret
  obtain ⟨hgb,hblk,htr,hvm,hft,hmf,hgf⟩ := HSC.out
  refine ⟨g9,b9,m9,s9,rfl,⟨hblk,htr,⟨es,hvm,HE1.out,fun i hi => ?_⟩,hgf,hmf,fun k hk => ?_⟩,HR4.out,hft,hgb⟩
  · obtain ⟨v,e,A,c,e2,hv⟩ := HE2.out i hi
    refine ⟨v,e,A,c,e2,Row.below hv.1 (HR4.out.mono (Nat.le_refl _)),fun a ea hne hk => ?_,fun a ea hne hk => ?_⟩
    · have := Row.lt hv.1 ea hne
      have := hft _ hk
      omega
    · exact hk.elim (hv.3 a ea hne) (hv.2 a ea hne)
  · have hlt : k < w.heap.size := hk.elim (fun e => (HS.out.old k e).1) (fun e => HS.out.inside k e)
    exact ⟨Nat.lt_of_lt_of_le hlt HR4.out.size,fun e => by have := hft k e; omega,by omega⟩
end
end Go.Proofs.YtehmblcbccceaaaGreat
