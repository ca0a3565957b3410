import Derived.Test.YtehmblcbccceaaaGreatLScX
import Derived.Deep.Cut
namespace Go.Proofs.YtehmblcbccceaaaGreat
open Go.RowKit pxm imm trm Go.Maps
def NewQ (Z : ZZ) (w : World) (e : Ending) (w' : World) : Prop :=
  ∃ g b m s,e = .returned (.tuple #[.pointer (some ⟨g,0,none⟩),.int .i64 0]) ∧ SceneAt w' g b m s Z ⟨[],fun _ => Nd.plain,fun _ => Mp.one⟩ ∧ Below w.heap.size w w' ∧ (∀ k,SFoot b m s [] k → w.heap.size ≤ k) ∧ w.heap.size ≤ g
section
variable {w : World}
theorem make_places (w : World) : (Instr.makeMap tPlaces none).run Tryz.prog w = .ok (.map (some w.heap.size)) (w.alloc (.map #[] 0)) := rfl
theorem build_size (a b c : Int) (w : World) : (Instr.build tSize #[(0,.int .i64 a),(1,.int .i64 b),(2,.int .i64 c)]).run Tryz.prog w = .ok (.agg #[.int .i64 a,.int .i64 b,.int .i64 c]) w := by kernel_rfl
set_option maxHeartbeats 4000000 in
set_option maxRecDepth 100000 in
theorem new_ok (Z : ZZ) (hE : ∀ k,Z.3 k → k < w.heap.size) (h1 : 1 ≤ Z.1 ∧ Z.1 ≤ 4096) (h2 : 1 ≤ Z.2.1 ∧ Z.2.1 ≤ 4096) (h3 : 1 ≤ Z.2.2 ∧ Z.2.2 ≤ 65536) :
    Calls Tryz.prog 14 #[.int .i64 Z.1,.int .i64 Z.2.1,.int .i64 Z.2.2] w (NewQ Z w) := by
  have HE := Lib.hid hE
  obtain ⟨a1,a2⟩ := h1
  obtain ⟨b1,b2⟩ := h2
  obtain ⟨d1,d2⟩ := h3
  have HQ : Hid (NewQ Z w = NewQ Z w) := rfl
  clear hE
  go_enter Tryz.func14,Tryz.ntmps14
  go_upto_region 1 with (fail)
  go_cut [23] from 9 (fun u wx => u = .bool false ∧ wx = w)
  case first =>
    go_wp2_with (fail)
    all_goals first
      | (go_meet; case rel => exact ⟨by first | rfl | (simp; omega),rfl⟩)
      | (exfalso; omega)
  case rest =>
  obtain ⟨rfl,rfl⟩ := hcut
  go_wp2_with (fail)
  refine (plain_nd wc).mono ?_
  rintro e w1 ⟨rfl,hb1⟩
  have HB1 := Lib.hid hb1
  have HZ2 : Hid (Blk (w1.alloc (.cells #[.int .i64 0,.int .i64 0,.int .i64 0,.int .i64 0,.int .i64 0,.int .i64 0,.int .i64 0,.bool false,.bool false,.int .i64 0,.int .i64 0,.int .i64 0,.int .i64 0,.int .i64 0,.int .i64 0,.int .i64 0,.int .u32 0,.int .i64 0,.int .i64 0,.slice none 0 0] 72)) w1.heap.size [.int .i64 0,.int .i64 0,.int .i64 0,.int .i64 0,.int .i64 0,.int .i64 0,.int .i64 0,.bool false,.bool false,.int .i64 0,.int .i64 0,.int .i64 0,.int .i64 0,.int .i64 0,.int .i64 0,.int .i64 0,.int .u32 0,.int .i64 0,.int .i64 0,.slice none 0 0]) := blk_new w1 [.int .i64 0,.int .i64 0,.int .i64 0,.int .i64 0,.int .i64 0,.int .i64 0,.int .i64 0,.bool false,.bool false,.int .i64 0,.int .i64 0,.int .i64 0,.int .i64 0,.int .i64 0,.int .i64 0,.int .i64 0,.int .u32 0,.int .i64 0,.int .i64 0,.slice none 0 0] _
  have HBa : Hid (Below w1.heap.size w1 (w1.alloc (.cells #[.int .i64 0,.int .i64 0,.int .i64 0,.int .i64 0,.int .i64 0,.int .i64 0,.int .i64 0,.bool false,.bool false,.int .i64 0,.int .i64 0,.int .i64 0,.int .i64 0,.int .i64 0,.int .i64 0,.int .i64 0,.int .u32 0,.int .i64 0,.int .i64 0,.slice none 0 0] 72))) := (Below.refl _ _).alloc (Nat.le_refl _) _
  clear hb1
  go_upto_region 4 with (first | (with_reducible show wpList _ _ _ (Oper.mk _ (Op.store _ _ _) _ _ _ _ :: _) _ _; first | (refine wpl_stow 72 _ _ rfl rfl rfl _ 0 rfl (Nd.plain.cs none 0) rfl ([.int .i64 0,.int .i64 0,.int .i64 0,.int .i64 0,.int .i64 0,.int .i64 0,.int .i64 0,.bool false,.bool false,.int .i64 0,.int .i64 0,.int .i64 0,.int .i64 0,.int .i64 0,.int .i64 0,.int .i64 0,.int .u32 0,.int .i64 0,.int .i64 0,.slice none 0 0]) HZ2.out (Nd.plain.cs none 0) rfl (Nat.le_of_ble_eq_true rfl) (by kernel_rfl) (Nd.one _ _ _) ?_; intro w3 HW3 HK3)))
  have HB3 : Hid (Below wc.heap.size wc w3) := HB1.out.trans ((HW3.out.below HBa.out (Nat.le_refl _)).mono HB1.out.size)
  obtain ⟨k8,hk8⟩ : ∃ k8,w1.heap.size = k8 := ⟨_,rfl⟩
  rw [hk8] at HK3 ⊢
  clear HZ2 HBa HW3 HB1 hk8
  refine regv.wp_region_put (Below w3.heap.size) (fun L V wx => NewJ w3.heap.size Z (L 4) (L 5) (L 10) (L 11) (L 12) (L 13) (V 29) (V 30) (V 35) (V 36) (V 6) wx) [25,26,27,28,29,30,31,32,33,34,35,36,6,7] (by kernel_rfl) (by kernel_rfl) (fun _ => Below.refl _ _) (fun _ _ _ h k => h.trans k) (fun i => (match i with
    | 0 => regs.Say.val _ (.int .i64 Z.1)
    | 1 => regs.Say.val _ (.int .i64 Z.2.1)
    | 2 => regs.Say.val _ (.int .i64 Z.2.2)
    | 3 => regs.Say.val _ (.agg ([.int .i64 Z.1,.int .i64 Z.2.1,.int .i64 Z.2.2]).toArray)
    | 4 => regs.Say.any _
    | 5 => regs.Say.any _
    | 6 => regs.Say.val _ (.agg (Nd.plain.cs none 0).toArray)
    | 7 => regs.Say.val _ (.pointer (some ⟨k8,0,none⟩))
    | 8 => regs.Say.val _ (.agg (Mp.one.cs).toArray)
    | 9 => regs.Say.val _ (.agg (plcs Nd.plain none 0 Mp.one).toArray)
    | 10 => regs.Say.any _
    | 11 => regs.Say.any _
    | 12 => regs.Say.any _
    | 13 => regs.Say.any _
    | 14 => regs.Say.val _ (.int .i64 0)
    | _ => regs.Say.any _ : regs.Say (Below w3.heap.size)).p) (fun _ => regs.Say.mono _) (by kernel_rfl) ((Below.refl _ _).drew) (NewJ.start (Below.refl 0 w3).drew.size) ⟨?_,?_,?_,?_,?_,?_,?_,?_,?_,?_,?_,?_,?_,?_,?_,trivial⟩ ?_
  · refine regv.StepOK.plain rfl fun L a w1 hh => ?_
    have h0 : a.tmps[0]?.getD undef = .int .i64 Z.1 := by rw [← Array.getD_eq_getD_getElem?]; exact hh.old 0 rfl
    have hJ := Lib.hid hh.st
    clear hh
    go_simp
    exact ⟨_,rfl,Below.refl _ _,rfl,NewJ.slots hJ.out (regv.sl_ne (by decide)) (regv.sl_ne (by decide)) (regv.sl_ne (by decide)) (regv.sl_ne (by decide)) (regv.sl_ne (by decide))⟩
  · refine regv.StepOK.plain rfl fun L a w1 hh => ?_
    have h1 : a.tmps[1]?.getD undef = .int .i64 Z.2.1 := by rw [← Array.getD_eq_getD_getElem?]; exact hh.old 1 rfl
    have hJ := Lib.hid hh.st
    clear hh
    go_simp
    exact ⟨_,rfl,Below.refl _ _,rfl,NewJ.slots hJ.out (regv.sl_ne (by decide)) (regv.sl_ne (by decide)) (regv.sl_ne (by decide)) (regv.sl_ne (by decide)) (regv.sl_ne (by decide))⟩
  · refine regv.StepOK.plain rfl fun L a w1 hh => ?_
    have h2 : a.tmps[2]?.getD undef = .int .i64 Z.2.2 := by rw [← Array.getD_eq_getD_getElem?]; exact hh.old 2 rfl
    have hJ := Lib.hid hh.st
    clear hh
    go_simp
    exact ⟨_,rfl,Below.refl _ _,rfl,NewJ.slots hJ.out (regv.sl_ne (by decide)) (regv.sl_ne (by decide)) (regv.sl_ne (by decide)) (regv.sl_ne (by decide)) (regv.sl_ne (by decide))⟩
  · refine regv.StepOK.plain rfl fun L a w1 hh => ?_
    have h25 : a.tmps[25]?.getD undef = .int .i64 Z.1 := by rw [← Array.getD_eq_getD_getElem?]; exact hh.dep 0 25 (by kernel_rfl) (by kernel_rfl)
    have h26 : a.tmps[26]?.getD undef = .int .i64 Z.2.1 := by rw [← Array.getD_eq_getD_getElem?]; exact hh.dep 1 26 (by kernel_rfl) (by kernel_rfl)
    have h27 : a.tmps[27]?.getD undef = .int .i64 Z.2.2 := by rw [← Array.getD_eq_getD_getElem?]; exact hh.dep 2 27 (by kernel_rfl) (by kernel_rfl)
    have hJ := Lib.hid hh.st
    exact wp_build _ _ rfl (by simp [go_sem,h25,h26,h27]) (build_size Z.1 Z.2.1 Z.2.2 w1) ⟨_,rfl,Below.refl _ _,rfl,NewJ.slots hJ.out (regv.sl_ne (by decide)) (regv.sl_ne (by decide)) (regv.sl_ne (by decide)) (regv.sl_ne (by decide)) (regv.sl_ne (by decide))⟩
  · refine regv.StepOK.plain rfl fun L a w1 hh => ?_
    have hJ := Lib.hid hh.st
    have hsz := Lib.hid hh.size
    have hC := Lib.hid (tnew w1)
    have hun := Lib.hid hh.un
    clear hh
    go_simp
    refine hC.out.mono ?_
    rintro e w9 ⟨b9,s9,rfl,ht9,hb9,hf9⟩
    exact ⟨_,rfl,hb9.mono hJ.out.bsz,trivial,NewJ.slots (hJ.out.grow hun.out hb9 ht9 hf9 rfl) (regv.sl_same (by rw [hsz.out]; simp)) (regv.sl_ne (by decide)) (regv.sl_ne (by decide)) (regv.sl_ne (by decide)) (regv.sl_ne (by decide))⟩
  · refine regv.StepOK.plain rfl fun L a w1 hh => ?_
    have hJ := Lib.hid hh.st
    have hsz := Lib.hid hh.size
    have hmm := make_places w1
    have hu := Lib.hid (hh.st.make hh.un rfl)
    clear hh
    go_simp
    exact ⟨_,rfl,(Below.refl _ _).alloc hJ.out.bsz _,trivial,NewJ.slots hu.out (regv.sl_ne (by decide)) (regv.sl_same (by rw [hsz.out]; simp)) (regv.sl_ne (by decide)) (regv.sl_ne (by decide)) (regv.sl_ne (by decide))⟩
  · refine regv.StepOK.plain rfl fun L a w1 hh => ?_
    have h8 : a.tmps[8]?.getD undef = .pointer (some ⟨k8,0,none⟩) := by rw [← Array.getD_eq_getD_getElem?]; exact hh.old 8 rfl
    have hB := Lib.hid (HK3.out.below' hh.rel)
    have hJ := Lib.hid hh.st
    exact wp_take 72 _ rfl k8 0 (by simpa [go_sem] using h8) _ hB.out (Nd.plain.cs none 0) rfl _ Tryz.underlying72 rfl (by kernel_rfl) ⟨_,rfl,Below.refl _ _,rfl,NewJ.slots hJ.out (regv.sl_ne (by decide)) (regv.sl_ne (by decide)) (regv.sl_ne (by decide)) (regv.sl_ne (by decide)) (regv.sl_ne (by decide))⟩
  · refine regv.StepOK.plain rfl fun L a w1 hh => ?_
    have h8 : a.tmps[8]?.getD undef = .pointer (some ⟨k8,0,none⟩) := by rw [← Array.getD_eq_getD_getElem?]; exact hh.old 8 rfl
    have i0 := (HK3.out.below' hh.rel).inside
    have hJ := Lib.hid hh.st
    clear hh
    go_simp
    exact ⟨_,rfl,Below.refl _ _,rfl,NewJ.slots hJ.out (regv.sl_ne (by decide)) (regv.sl_ne (by decide)) (regv.sl_ne (by decide)) (regv.sl_ne (by decide)) (regv.sl_ne (by decide))⟩
  · refine regv.StepOK.plain rfl fun L a w1 hh => ?_
    have h32 : a.tmps[32]?.getD undef = .pointer (some ⟨k8,0,none⟩) := by rw [← Array.getD_eq_getD_getElem?]; exact hh.dep 7 32 (by kernel_rfl) (by kernel_rfl)
    have hB := Lib.hid (HK3.out.below' hh.rel)
    have hJ := Lib.hid hh.st
    exact wp_take 68 _ rfl k8 0 (by simpa [go_sem] using h32) _ hB.out (Mp.one.cs) rfl _ Tryz.underlying68 rfl (by kernel_rfl) ⟨_,rfl,Below.refl _ _,rfl,NewJ.slots hJ.out (regv.sl_ne (by decide)) (regv.sl_ne (by decide)) (regv.sl_ne (by decide)) (regv.sl_ne (by decide)) (regv.sl_ne (by decide))⟩
  · refine regv.StepOK.plain rfl fun L a w1 hh => ?_
    have h31 : a.tmps[31]?.getD undef = .agg (Nd.plain.cs none 0).toArray := by rw [← Array.getD_eq_getD_getElem?]; exact hh.dep 6 31 (by kernel_rfl) (by kernel_rfl)
    have h33 : a.tmps[33]?.getD undef = .agg (Mp.one.cs).toArray := by rw [← Array.getD_eq_getD_getElem?]; exact hh.dep 8 33 (by kernel_rfl) (by kernel_rfl)
    have hJ := Lib.hid hh.st
    exact wp_build _ _ rfl (by simp [go_sem,h31,h33]) (build_placed Nd.plain none 0 Mp.one w1) ⟨_,rfl,Below.refl _ _,rfl,NewJ.slots hJ.out (regv.sl_ne (by decide)) (regv.sl_ne (by decide)) (regv.sl_ne (by decide)) (regv.sl_ne (by decide)) (regv.sl_ne (by decide))⟩
  · refine regv.StepOK.plain rfl fun L a w1 hh => ?_
    have h34 : a.tmps[34]?.getD undef = .agg (plcs Nd.plain none 0 Mp.one).toArray := by rw [← Array.getD_eq_getD_getElem?]; exact hh.dep 9 34 (by kernel_rfl) (by kernel_rfl)
    obtain ⟨m9,w9,e9,hrun,hb9,hs9⟩ := hh.st.put (hh.up 5 (by kernel_rfl)) hh.un
    have h30 : a.tmps[30]?.getD undef = .map (some m9) := by rw [← Array.getD_eq_getD_getElem?]; exact e9
    unfold plv at hrun
    clear hh
    go_simp
    exact ⟨⟨undef,trivial⟩,NewJ.slots hs9 rfl e9.symm rfl rfl rfl⟩
  · refine regv.StepOK.plain rfl fun L a w1 hh => ?_
    have hsz := Lib.hid hh.size
    have h30 : a.tmps[30]?.getD undef = regv.sl a 30 := by unfold regv.sl; rw [Array.getD_eq_getD_getElem?]
    have hu := Lib.hid (hh.st.copy (hh.up 10 (by kernel_rfl)) rfl)
    clear hh
    go_simp
    exact ⟨_,rfl,Below.refl _ _,trivial,NewJ.slots hu.out (regv.sl_ne (by decide)) (regv.sl_ne (by decide)) (regv.sl_same (by rw [hsz.out]; simp)) (regv.sl_ne (by decide)) (regv.sl_ne (by decide))⟩
  · refine regv.StepOK.plain rfl fun L a w1 hh => ?_
    have h28 : a.tmps[28]?.getD undef = .agg ([.int .i64 Z.1,.int .i64 Z.2.1,.int .i64 Z.2.2]).toArray := by rw [← Array.getD_eq_getD_getElem?]; exact hh.dep 3 28 (by kernel_rfl) (by kernel_rfl)
    have hJ := Lib.hid hh.st
    have hsz := Lib.hid hh.size
    obtain ⟨b9,m9,e29,e35,hQ0⟩ := hh.st.last (hh.up 4 (by kernel_rfl)) (hh.up 11 (by kernel_rfl)) hh.un
    have h29 : a.tmps[29]?.getD undef = .pointer (some ⟨b9,0,none⟩) := by rw [← Array.getD_eq_getD_getElem?]; exact e29
    have h35 : a.tmps[35]?.getD undef = .map (some m9) := by rw [← Array.getD_eq_getD_getElem?]; exact e35
    have hQ := Lib.hid hQ0
    have hC := Lib.hid (of_any Z b9 m9 w1)
    clear hQ0
    clear hh
    go_simp
    refine hC.out.mono ?_
    intro e w9 hq
    obtain ⟨u9,rfl,hb9,hs9⟩ := hQ.out e w9 hq
    exact ⟨_,rfl,hb9.mono hJ.out.bsz,trivial,NewJ.slots hs9 (regv.sl_ne (by decide)) (regv.sl_ne (by decide)) (regv.sl_ne (by decide)) (regv.sl_same (by rw [hsz.out]; simp)) (regv.sl_ne (by decide))⟩
  · refine regv.StepOK.plain rfl fun L a w1 hh => ?_
    have hsz := Lib.hid hh.size
    have h36 : a.tmps[36]?.getD undef = regv.sl a 36 := by unfold regv.sl; rw [Array.getD_eq_getD_getElem?]
    have hu := Lib.hid (hh.st.tell (hh.up 12 (by kernel_rfl)) rfl)
    clear hh
    go_simp
    exact ⟨_,rfl,Below.refl _ _,trivial,NewJ.slots hu.out (regv.sl_ne (by decide)) (regv.sl_ne (by decide)) (regv.sl_ne (by decide)) (regv.sl_ne (by decide)) (regv.sl_same (by rw [hsz.out]; simp))⟩
  · refine regv.StepOK.plain rfl fun L a w1 hh => ?_
    have hJ := Lib.hid hh.st
    clear hh
    go_simp
    exact ⟨_,rfl,Below.refl _ _,rfl,NewJ.slots hJ.out (regv.sl_ne (by decide)) (regv.sl_ne (by decide)) (regv.sl_ne (by decide)) (regv.sl_ne (by decide)) (regv.sl_ne (by decide))⟩
  intro L w4 val hL hJ hR hv
  have h7 : val 7 = .int .i64 0 := hv 14 7 (by kernel_rfl)
  have HR4 := Lib.hid hR
  have hN : NewJ w3.heap.size Z (L 4) (L 5) (L 10) (L 11) true true (val 29) (val 30) (val 35) (val 36) (val 6) w4 := by
    have h := hJ
    rw [hL 12 (by decide),hL 13 (by decide)] at h
    exact h
  obtain ⟨g,b,m,s,e6,hsc,hft,hgb⟩ := hN.scene (fun k hk => Nat.lt_of_lt_of_le (HE.out k hk) HB3.out.size)
  have HSC := Lib.hid (And.intro hsc (And.intro hft hgb))
  clear hv hL hJ hR hN hsc hft hgb
  simp only [regs.putAll,List.map_cons,List.map_nil,h7]
  simp only [Act.put,List.setIfInBounds_toArray,List.set_cons_zero,List.set_cons_succ]
  clear h7
  generalize val 25 = v25 at *
  generalize val 26 = v26 at *
  generalize val 27 = v27 at *
  generalize val 28 = v28 at *
  generalize val 29 = v29 at *
  generalize val 30 = v30 at *
  generalize val 31 = v31 at *
  generalize val 32 = v32 at *
  generalize val 33 = v33 at *
  generalize val 34 = v34 at *
  generalize val 35 = v35 at *
  generalize val 36 = v36 at *
  rw [e6]
  clear e6
  go_wp2_with (fail)
  go_ret2
  have hz := HB3.out.size
  exact ⟨g,b,m,s,rfl,HSC.out.1,HB3.out.trans (HR4.out.mono HB3.out.size),fun k hk => Nat.le_trans hz (HSC.out.2.1 k hk),Nat.le_trans hz HSC.out.2.2⟩
set_option maxHeartbeats 2000000 in
set_option maxRecDepth 100000 in
theorem new_bad : Calls Tryz.prog 14 #[.int .i64 0,.int .i64 1,.int .i64 1] w fun e w' => e = .returned (.tuple #[.pointer none,.int .i64 11]) ∧ Below w.heap.size w w' := by
  go_enter Tryz.func14,Tryz.ntmps14
  go_wp2_with (fail)
  go_ret2
  exact ⟨rfl,Below.refl _ _⟩
end
end Go.Proofs.YtehmblcbccceaaaGreat
