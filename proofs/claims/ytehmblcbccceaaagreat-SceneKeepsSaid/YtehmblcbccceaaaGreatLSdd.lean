import Derived.Test.YtehmblcbccceaaaGreatLSdc
namespace Go.Proofs.YtehmblcbccceaaaGreat
open Go.RowKit pxm imm trm Go.Maps
structure MyS (w0 : World) (g b m : Nat) (s : Sh) (Z : ZZ) (x : PSc) (w : World) : Prop where
 at_ : SceneAt w g b m s Z x
 ft : ∀ k,SFoot b m s x.t k → w0.heap.size ≤ k
 bel : Below w0.heap.size w0 w
section
variable {w0 w w' : World} {g b m : Nat} {s s' : Sh} {Z : ZZ} {x x' : PSc}
theorem MyS.below (h : MyS w0 g b m s Z x w) (hb : Below w.heap.size w w') : MyS w0 g b m s Z x w' := ⟨h.at_.below hb,h.ft,h.bel.trans (hb.mono h.bel.size)⟩
theorem MyS.turn (h : MyS w0 g b m s Z x w) (hs : SceneAt w' g b m s' Z x') (ht : TurnP (SFoot b m s x.t) (SFoot b m s' x'.t) w w') : MyS w0 g b m s' Z x' w' :=
 ⟨hs,fun k hk => by
  by_cases hlt : k < w0.heap.size
  ·exact absurd hk (ht.far k (Nat.lt_of_lt_of_le hlt h.bel.size) fun e => by have := h.ft k e; omega).1
  ·omega,h.bel.trans (ht.to_below h.bel.size h.ft)⟩
end
abbrev tOps : TypeId := 38
theorem build_aw1 (w : World) : (Instr.build 77 #[(0,.int .i64 1),(1,.int .i64 1)]).run Tryz.prog w = .ok (.agg (aw1.cs none 0).toArray) w := by kernel_rfl
theorem build_aw2 (w : World) : (Instr.build 77 #[(0,.int .i64 4),(1,.int .i64 1),(4,.agg #[.int .i64 65536,.int .i64 0,.int .i64 0,.int .i64 65536,.int .i64 196608,.int .i64 0])]).run Tryz.prog w = .ok (.agg (aw2.cs none 0).toArray) w := by kernel_rfl
theorem build_aw3 (w : World) : (Instr.build 77 #[(0,.int .i64 4),(4,.agg #[.int .i64 65536,.int .i64 0,.int .i64 0,.int .i64 65536,.int .i64 0,.int .i64 65536])]).run Tryz.prog w = .ok (.agg (aw3.cs none 0).toArray) w := by kernel_rfl
theorem build_aw4 (w : World) : (Instr.build 77 #[(0,.int .i64 8),(6,.bool true)]).run Tryz.prog w = .ok (.agg (aw4.cs none 0).toArray) w := by kernel_rfl
theorem build_aw5 (w : World) : (Instr.build 77 #[(0,.int .i64 1),(1,.int .i64 2)]).run Tryz.prog w = .ok (.agg (aw5.cs none 0).toArray) w := by kernel_rfl
def oN (o : Op9) : OpR := ⟨o,none,0⟩
theorem bs_op3 (a b c : Op9) (w : World) : (Instr.buildSlice tOps 3 #[(0,.agg (a.cs none 0).toArray),(1,.agg (b.cs none 0).toArray),(2,.agg (c.cs none 0).toArray)]).run Tryz.prog w = .ok (.slice (some ⟨w.heap.size,0,none⟩) 3 3) (w.alloc (.cells ([oN a,oN b,oN c].flatMap OpR.cs).toArray 77)) := by kernel_rfl
theorem bs_op2 (a b : Op9) (w : World) : (Instr.buildSlice tOps 2 #[(0,.agg (a.cs none 0).toArray),(1,.agg (b.cs none 0).toArray)]).run Tryz.prog w = .ok (.slice (some ⟨w.heap.size,0,none⟩) 2 2) (w.alloc (.cells ([oN a,oN b].flatMap OpR.cs).toArray 77)) := by kernel_rfl
theorem opsAt_new {w : World} {S : Bset} (hS : ∀ k,S k → k < w.heap.size) (l : List OpR) (hl : ∀ q ∈ l,q.o.lk.l = []) : OpsAt S (w.alloc (.cells (l.flatMap OpR.cs).toArray 77)) (some ⟨w.heap.size,0,none⟩) l :=
 ⟨srow_new (enc := OpR.cs) OpR.cs_len w l _ rfl,fun a e _ hk => by
  obtain rfl := Option.some.inj e
  have := hS _ hk
  simp at this,fun q hq => ⟨by rw [hl q hq]; intro hn; exact absurd hn (by simp),fun _ _ hne => absurd (hl q hq) hne⟩⟩
theorem mp_sameD (w : World) : (binOp .eql 68 (.agg (⟨65536,0,0,65536,196608,65536⟩ : Mp).cs.toArray) (.agg (⟨65536,0,0,65536,196608,65536⟩ : Mp).cs.toArray)).run Tryz.prog w = .ok (.bool true) w := by
 have h := mp_eq ⟨65536,0,0,65536,196608,65536⟩ ⟨65536,0,0,65536,196608,65536⟩ w
 rw [decide_eq_true rfl] at h
 exact h
def awZ : ZZ := ⟨4,⟨3,2⟩,fun _ => False⟩
theorem roomZ {x : PSc} {n : Nat} (h : x.t.length ≤ 10) (hn : n ≤ 1024) : n ≤ 1024 → Room awZ.2.2 x n := fun _ => ⟨hn,.inr ⟨by omega,by decide⟩⟩
set_option maxHeartbeats 4000000 in
set_option maxRecDepth 100000 in
theorem awake_any (w : World) : Calls Tryz.prog 13 #[] w fun e w' => e = .returned (.bool true) ∧ Below w.heap.size w w' := by
 go_enter Tryz.func13,Tryz.ntmps13
 go_wp2_with (fail)
 refine (new_ok (w := w) awZ (fun _ e => e.elim) ⟨by decide,by decide⟩ ⟨by decide,by decide⟩ ⟨by decide,by decide⟩).mono ?_
 rintro e w1 ⟨g,b,m,s,rfl,hs1,hb1,hf1,hg1⟩
 have HM1 : Hid (MyS w g b m s awZ PSc.new w1) := ⟨hs1,hf1,hb1⟩
 clear hs1 hb1 hf1 hg1
 go_wp2_with (fail)
 refine (new_bad (w := w1)).mono ?_
 rintro e w2 ⟨rfl,hb2⟩
 have HM2 := Lib.hid (HM1.out.below hb2)
 clear hb2 HM1
 go_wp2_with (first | (with_reducible show wpList _ _ _ (Oper.mk _ (Op.build _ _) _ _ _ _ :: _) _ _; first | refine wpl_build _ _ rfl rfl (by simp [go_sem]) (build_aw1 _) ?_) | (with_reducible show wpList _ _ _ (Oper.mk _ (Op.buildSlice _ _ _) _ _ _ _ :: _) _ _; refine wpl_bs _ _ _ rfl rfl (by simp [go_sem]) (bs_op3 aw1 aw2 aw3 _) ?_))
 refine (mp_shift 196608 0 w2).mono ?_
 rintro e w3 ⟨rfl,hb3⟩
 unfold Mp.v
 have HM3 := Lib.hid (HM2.out.below hb3)
 clear hb3 HM2
 go_wp2_with (first | (with_reducible show wpList _ _ _ (Oper.mk _ (Op.build _ _) _ _ _ _ :: _) _ _; first | refine wpl_build _ _ rfl rfl (by simp [go_sem]) (build_aw2 _) ?_) | (with_reducible show wpList _ _ _ (Oper.mk _ (Op.buildSlice _ _ _) _ _ _ _ :: _) _ _; refine wpl_bs _ _ _ rfl rfl (by simp [go_sem]) (bs_op3 aw1 aw2 aw3 _) ?_))
 refine (mp_shift 0 65536 w3).mono ?_
 rintro e w4 ⟨rfl,hb4⟩
 unfold Mp.v
 have HM4 := Lib.hid (HM3.out.below hb4)
 clear hb4 HM3
 go_wp2_with (first | (with_reducible show wpList _ _ _ (Oper.mk _ (Op.build _ _) _ _ _ _ :: _) _ _; first | refine wpl_build _ _ rfl rfl (by simp [go_sem]) (build_aw3 _) ?_) | (with_reducible show wpList _ _ _ (Oper.mk _ (Op.buildSlice _ _ _) _ _ _ _ :: _) _ _; refine wpl_bs _ _ _ rfl rfl (by simp [go_sem]) (bs_op3 aw1 aw2 aw3 _) ?_))
 have HO5 := Lib.hid (opsAt_new (w := w4) (S := SFoot b m s PSc.new.t) HM4.out.at_.inside [oN aw1,oN aw2,oN aw3] (by intro q hq; simp only [List.mem_cons,List.not_mem_nil,or_false] at hq; rcases hq with rfl | rfl | rfl <;> rfl))
 rw [show [oN aw1,oN aw2,oN aw3].flatMap OpR.cs = (oN aw1).cs ++ ((oN aw2).cs ++ (oN aw3).cs) from by simp] at HO5
 have HB5 : Hid (Below w4.heap.size w4 (w4.alloc (.cells ((oN aw1).cs ++ ((oN aw2).cs ++ (oN aw3).cs)).toArray 77))) := (Below.refl _ _).alloc (Nat.le_refl _) _
 generalize (w4.alloc (.cells ((oN aw1).cs ++ ((oN aw2).cs ++ (oN aw3).cs)).toArray 77)) = w5 at *
 have HM5 := Lib.hid (HM4.out.below HB5.out)
 generalize w4.heap.size = k5 at *
 have HAP := Lib.hid (applied HM5.out.at_ PSc.new_sane [oN aw1,oN aw2,oN aw3] (some ⟨k5,0,none⟩) 3 HO5.out (by intro q hq; simp only [List.mem_cons,List.not_mem_nil,or_false] at hq; rcases hq with rfl | rfl | rfl <;> exact aw_ok (by simp [oN])) (roomZ (by decide) (by simp)) (by simp))
 rw [show applyS awZ.2.2 setSt PSc.new ([oN aw1,oN aw2,oN aw3].map (·.o)) = (awY,3,0) from aw_apply] at HAP
 unfold ApplyQ at HAP
 refine HAP.out.mono ?_
 rintro e w6 ⟨s6,rfl,hs6,ht6⟩
 have HM6 := Lib.hid (HM5.out.turn hs6 ht6)
 clear hs6 ht6 HAP HM5 HO5 HB5 HM4
 go_wp2_with (fail)
 refine (world_any HM6.out.at_ 1 ⟨by decide,by decide⟩).mono ?_
 rw [show has awY.t 1 = true from by rw [awY_t]; decide,show wsAt awY 1 = ⟨65536,0,0,65536,196608,65536⟩ from by unfold wsAt; rw [awY_t,if_pos (by decide),awY_ws]]
 rintro e w7 ⟨rfl,hb7⟩
 have HM7 := Lib.hid (HM6.out.below hb7)
 clear hb7 HM6
 have HZ7 : Hid (Blk (w7.alloc (.cells #[.int .i64 0,.int .i64 0,.int .i64 0,.int .i64 0,.int .i64 0,.int .i64 0] 68)) w7.heap.size [.int .i64 0,.int .i64 0,.int .i64 0,.int .i64 0,.int .i64 0,.int .i64 0]) := blk_new w7 [.int .i64 0,.int .i64 0,.int .i64 0,.int .i64 0,.int .i64 0,.int .i64 0] _
 have HB7 : Hid (Below w7.heap.size w7 (w7.alloc (.cells #[.int .i64 0,.int .i64 0,.int .i64 0,.int .i64 0,.int .i64 0,.int .i64 0] 68))) := (Below.refl _ _).alloc (Nat.le_refl _) _
 go_upto_region 7 with (first | (with_reducible show wpList _ _ _ (Oper.mk _ (Op.store _ _ _) _ _ _ _ :: _) _ _; first | (refine wpl_stow 68 _ _ rfl rfl rfl _ 0 rfl ((⟨65536,0,0,65536,196608,65536⟩ : Mp).cs) rfl ([.int .i64 0,.int .i64 0,.int .i64 0,.int .i64 0,.int .i64 0,.int .i64 0]) HZ7.out ((⟨65536,0,0,65536,196608,65536⟩ : Mp).cs) rfl (Nat.le_of_ble_eq_true rfl) (by kernel_rfl) (Mp.one1 _) ?_; intro w8 HW8 HK8)))
 have HM8 := Lib.hid ((HM7.out.below (HW8.out.below HB7.out (Nat.le_refl _))))
 obtain ⟨k7,hk7⟩ : ∃ k7,w7.heap.size = k7 := ⟨_,rfl⟩
 have HNK : Hid (¬ SFoot b m s6 awY.t k7) := fun e => by have := HM7.out.at_.inside _ e; omega
 rw [hk7] at HK8 ⊢
 clear hk7 HZ7 HB7 HW8 HM7
 go_wp2_with (fail)
 refine (scopy_any HM8.out.at_ (by rw [awY_t]; decide)).mono ?_
 rintro e w9 ⟨g2,b2,m2,s2,rfl,hs9,hb9,hf9,hg9⟩
 have HM9 := Lib.hid (HM8.out.below hb9)
 have HC9 := Lib.hid hs9
 have HK9 := Lib.hid (HK8.out.below' hb9)
 clear hs9 hb9 hf9 hg9 HM8 HK8
 go_wp2_with (first | ((with_reducible show wpList _ _ _ (Oper.mk (some 52) (Op.build _ _) _ _ _ _ :: _) _ _); refine wpl_build _ _ rfl rfl (by simp [go_sem]) (build_aw4 _) ?_) | ((with_reducible show wpList _ _ _ (Oper.mk (some 53) (Op.build _ _) _ _ _ _ :: _) _ _); refine wpl_build _ _ rfl rfl (by simp [go_sem]) (build_aw5 _) ?_) | (with_reducible show wpList _ _ _ (Oper.mk _ (Op.buildSlice _ _ _) _ _ _ _ :: _) _ _; refine wpl_bs _ _ _ rfl rfl (by simp [go_sem]) (bs_op2 aw4 aw5 _) ?_))
 have HO10 := Lib.hid (opsAt_new (w := w9) (S := SFoot b m s6 awY.t) HM9.out.at_.inside [oN aw4,oN aw5] (by intro q hq; simp only [List.mem_cons,List.not_mem_nil,or_false] at hq; rcases hq with rfl | rfl <;> rfl))
 rw [show [oN aw4,oN aw5].flatMap OpR.cs = (oN aw4).cs ++ (oN aw5).cs from by simp] at HO10
 have HB10 : Hid (Below w9.heap.size w9 (w9.alloc (.cells ((oN aw4).cs ++ (oN aw5).cs).toArray 77))) := (Below.refl _ _).alloc (Nat.le_refl _) _
 generalize (w9.alloc (.cells ((oN aw4).cs ++ (oN aw5).cs).toArray 77)) = w10 at *
 have HM10 := Lib.hid (HM9.out.below HB10.out)
 have HC10 := Lib.hid (HC9.out.below HB10.out)
 have HK10 := Lib.hid (HK9.out.below' HB10.out)
 generalize w9.heap.size = k9 at *
 have HAP := Lib.hid (applied HM10.out.at_ awY_sane [oN aw4,oN aw5] (some ⟨k9,0,none⟩) 2 HO10.out (by intro q hq; simp only [List.mem_cons,List.not_mem_nil,or_false] at hq; rcases hq with rfl | rfl <;> exact aw_ok (by simp [oN])) (roomZ (by rw [awY_t]; decide) (by simp)) (by simp))
 rw [show applyS awZ.2.2 setSt awY ([oN aw4,oN aw5].map (·.o)) = (awY,1,36) from aw_apply2 awY_t] at HAP
 unfold ApplyQ at HAP
 refine HAP.out.mono ?_
 rintro e w11 ⟨s11,rfl,hs11,ht11⟩
 have HM11 := Lib.hid (HM10.out.turn hs11 ht11)
 have HK11 : Hid (Blk w11 k7 (⟨65536,0,0,65536,196608,65536⟩ : Mp).cs) := HK10.out.stays (ht11.far k7 HK10.out.inside HNK.out).2
 have HC11 : Hid (SceneAt w11 g2 b2 m2 s2 ⟨awZ.1,awZ.2,fun _ => False⟩ awY) := HC10.out.part (fun k hk hn => (ht11.far k hk fun e => hn (.inr e)).2) fun k hk => hk.elim
 clear hs11 ht11 HAP HM10 HO10 HB10 HM9 HC9 HC10 HK9 HK10 HNK
 go_wp2_with (fail)
 refine (node_any HM11.out.at_ awY_sane.fit 0 ⟨by decide,by decide⟩).mono ?_
 rw [show has awY.t 0 = true from by rw [awY_t]; decide]
 obtain ⟨n0,hn0⟩ : ∃ n0,ndAt awY 0 = n0 := ⟨_,rfl⟩
 have HN0 : Hid (n0.hi = false) := by rw [← hn0]; unfold ndAt; rw [awY_t,if_pos (by decide),awY_nd]; rfl
 rw [hn0]
 rintro e w12 ⟨A12,c12,rfl,hb12,-,-⟩
 have HM12 := Lib.hid (HM11.out.below hb12)
 have HC12 := Lib.hid (HC11.out.below hb12)
 have HK12 := Lib.hid (HK11.out.below' hb12)
 clear hb12 hn0 HM11 HC11 HK11
 have HZ12 : Hid (Blk (w12.alloc (.cells #[.int .i64 0,.int .i64 0,.int .i64 0,.int .i64 0,.int .i64 0,.int .i64 0,.int .i64 0,.bool false,.bool false,.int .i64 0,.int .i64 0,.int .i64 0,.int .i64 0,.int .i64 0,.int .i64 0,.int .i64 0,.int .u32 0,.int .i64 0,.int .i64 0,.slice none 0 0] 72)) w12.heap.size [.int .i64 0,.int .i64 0,.int .i64 0,.int .i64 0,.int .i64 0,.int .i64 0,.int .i64 0,.bool false,.bool false,.int .i64 0,.int .i64 0,.int .i64 0,.int .i64 0,.int .i64 0,.int .i64 0,.int .i64 0,.int .u32 0,.int .i64 0,.int .i64 0,.slice none 0 0]) := blk_new w12 [.int .i64 0,.int .i64 0,.int .i64 0,.int .i64 0,.int .i64 0,.int .i64 0,.int .i64 0,.bool false,.bool false,.int .i64 0,.int .i64 0,.int .i64 0,.int .i64 0,.int .i64 0,.int .i64 0,.int .i64 0,.int .u32 0,.int .i64 0,.int .i64 0,.slice none 0 0] _
 have HB12 : Hid (Below w12.heap.size w12 (w12.alloc (.cells #[.int .i64 0,.int .i64 0,.int .i64 0,.int .i64 0,.int .i64 0,.int .i64 0,.int .i64 0,.bool false,.bool false,.int .i64 0,.int .i64 0,.int .i64 0,.int .i64 0,.int .i64 0,.int .i64 0,.int .i64 0,.int .u32 0,.int .i64 0,.int .i64 0,.slice none 0 0] 72))) := (Below.refl _ _).alloc (Nat.le_refl _) _
 go_upto_region 10 with (first | (with_reducible show wpList _ _ _ (Oper.mk _ (Op.store _ _ _) _ _ _ _ :: _) _ _; first | (refine wpl_stow 72 _ _ rfl rfl rfl _ 0 rfl (n0.cs A12 c12) rfl ([.int .i64 0,.int .i64 0,.int .i64 0,.int .i64 0,.int .i64 0,.int .i64 0,.int .i64 0,.bool false,.bool false,.int .i64 0,.int .i64 0,.int .i64 0,.int .i64 0,.int .i64 0,.int .i64 0,.int .i64 0,.int .u32 0,.int .i64 0,.int .i64 0,.slice none 0 0]) HZ12.out (n0.cs A12 c12) rfl (Nat.le_of_ble_eq_true rfl) (by kernel_rfl) (Nd.one _ _ _) ?_; intro w13 HW13 HK13)))
 have HB13 : Hid (Below w12.heap.size w12 w13) := HW13.out.below HB12.out (Nat.le_refl _)
 have HM13 := Lib.hid (HM12.out.below HB13.out)
 have HC13 := Lib.hid (HC12.out.below HB13.out)
 have HKM := Lib.hid (HK12.out.below' HB13.out)
 obtain ⟨k12,hk12⟩ : ∃ k12,w12.heap.size = k12 := ⟨_,rfl⟩
 rw [hk12] at HK13 ⊢
 clear HZ12 HB12 HW13 HM12 HC12 HK12 HB13 hk12
 have HT : Hid (awY.t = [(1,0)]) := awY_t
 have HF : Hid (∀ i,Fit (awY.nd i)) := awY_sane.fit
 have hms := fun w => mp_sameD w
 have HLEN : Hid (∀ W,regs.bl w13 W → Calls Tryz.prog 217 #[.pointer (some ⟨b,0,none⟩)] W fun e w' => e = .returned (.int .i64 2) ∧ Below W.heap.size W w') := fun W hb => by
  have := tlen (HM13.out.at_.below hb).tree
  rw [HT.out] at this
  exact this
 have HPAR : Hid (∀ W,regs.bl w13 W → Calls Tryz.prog 218 #[.pointer (some ⟨b,0,none⟩),.int .i64 1] W fun e w' => e = .returned (.int .i64 0) ∧ Below W.heap.size W w') := fun W hb => by
  have := tparent (HM13.out.at_.below hb).tree 1 ⟨by decide,by decide⟩
  rw [HT.out,show par [(1,0)] 1 = 0 from by decide] at this
  exact this
 refine regs.wp_region_put (regs.bl) (regs.noJ) [63,64,65,66,67,68,69,70,71,72,73,74,75,76,77,78,79,80,81,82,83,84,85,86,87,88,89,90,91,92,93,94,95,96,97,98,99,100,101,102,103,104,105,106,107,108,109,110,111,112,113,114,115,116,117,118,119,120,121,122,123,124,125,0] (by kernel_rfl) (by kernel_rfl) (fun _ => regs.bl_refl _) (regs.bl_trans) (fun i => (match i with
  | 0 => regs.Say.val _ (.int .i64 3)
  | 1 => regs.Say.val _ (.bool true)
  | 2 => regs.Say.val _ (.bool true)
  | 3 => regs.Say.val _ (.int .i64 0)
  | 4 => regs.Say.val _ (.bool true)
  | 5 => regs.Say.val _ (.bool true)
  | 6 => regs.Say.val _ (.bool true)
  | 7 => regs.Say.val _ (.bool true)
  | 8 => regs.Say.val _ (.bool true)
  | 9 => regs.Say.val _ (.bool true)
  | 10 => regs.Say.val _ (.agg ((⟨65536,0,0,65536,196608,65536⟩ : Mp).cs).toArray)
  | 11 => regs.Say.val _ (.agg ((⟨65536,0,0,65536,196608,65536⟩ : Mp).cs).toArray)
  | 12 => regs.Say.val _ (.bool true)
  | 13 => regs.Say.val _ (.bool true)
  | 14 => regs.Say.val _ (.bool true)
  | 15 => regs.Say.val _ (.int .i64 1)
  | 16 => regs.Say.val _ (.bool true)
  | 17 => regs.Say.val _ (.bool true)
  | 18 => regs.Say.val _ (.bool true)
  | 19 => regs.Say.val _ (.int .i64 36)
  | 20 => regs.Say.val _ (.bool true)
  | 21 => regs.Say.val _ (.bool true)
  | 22 => regs.Say.val _ (.bool true)
  | 23 => regs.Say.val _ (.bool true)
  | 24 => regs.Say.val _ (.bool true)
  | 25 => regs.Say.val _ (.bool true)
  | 26 => regs.Say.val _ (.pointer (some ⟨k12,7,none⟩))
  | 27 => regs.Say.val _ (.bool false)
  | 28 => regs.Say.val _ (.bool true)
  | 29 => regs.Say.val _ (.bool true)
  | 30 => regs.Say.val _ (.bool true)
  | 31 => regs.Say.val _ (.pointer (some ⟨g,0,none⟩))
  | 32 => regs.Say.val _ (.pointer (some ⟨g,0,none⟩))
  | 33 => regs.Say.val _ (.pointer (some ⟨g,0,none⟩))
  | 34 => regs.Say.val _ (.iface 109 (.pointer (some ⟨b,0,none⟩)))
  | 35 => regs.Say.val _ (.int .i64 2)
  | 36 => regs.Say.val _ (.bool true)
  | 37 => regs.Say.val _ (.bool true)
  | 38 => regs.Say.val _ (.bool true)
  | 39 => regs.Say.val _ (.pointer (some ⟨g,0,none⟩))
  | 40 => regs.Say.val _ (.pointer (some ⟨g,0,none⟩))
  | 41 => regs.Say.val _ (.pointer (some ⟨g,0,none⟩))
  | 42 => regs.Say.val _ (.iface 109 (.pointer (some ⟨b,0,none⟩)))
  | 43 => (⟨fun v wv => ∃ g9,v = .slice (some ⟨g9,0,none⟩) 1 1 ∧ Blk wv g9 [.int .i64 1],fun v w1 w2 h hb => h.elim fun g9 h => ⟨g9,h.1,Blk.below' h.2 hb⟩⟩ : regs.Say regs.bl)
  | 44 => regs.Say.val _ (.bool true)
  | 45 => regs.Say.val _ (.bool true)
  | 46 => regs.Say.val _ (.bool true)
  | 47 => regs.Say.val _ (.pointer (some ⟨g,0,none⟩))
  | 48 => regs.Say.val _ (.pointer (some ⟨g,0,none⟩))
  | 49 => regs.Say.val _ (.pointer (some ⟨g,0,none⟩))
  | 50 => regs.Say.val _ (.iface 109 (.pointer (some ⟨b,0,none⟩)))
  | 51 => regs.Say.val _ (.int .i64 0)
  | 52 => regs.Say.val _ (.bool true)
  | 53 => regs.Say.val _ (.bool true)
  | 54 => regs.Say.val _ (.bool true)
  | 55 => regs.Say.val _ (.pointer (some ⟨g2,0,none⟩))
  | 56 => regs.Say.val _ (.bool true)
  | 57 => regs.Say.val _ (.bool true)
  | 58 => regs.Say.val _ (.bool true)
  | 59 => regs.Say.val _ (.pointer (some ⟨g,0,none⟩))
  | 60 => regs.Say.val _ (.pointer (some ⟨g2,0,none⟩))
  | 61 => regs.Say.val _ (.bool true)
  | 62 => regs.Say.val _ (.bool true)
  | 63 => regs.Say.val _ (.bool true)
  | _ => regs.Say.any _ : regs.Say (regs.bl)).p) (fun _ => regs.Say.mono _) (by kernel_rfl) ((Below.refl _ _).drew) (regs.noJ_ok _ _) ⟨?_,?_,?_,?_,?_,?_,?_,?_,?_,?_,?_,?_,?_,?_,?_,?_,?_,?_,?_,?_,?_,?_,?_,?_,?_,?_,?_,?_,?_,?_,?_,?_,?_,?_,?_,?_,?_,?_,?_,?_,?_,?_,?_,?_,?_,?_,?_,?_,?_,?_,?_,?_,?_,?_,?_,?_,?_,?_,?_,?_,?_,?_,?_,?_,trivial⟩ ?_
 ·refine regs.StepOK.plain rfl fun L a w1 hh => ?_
  have h5 : a.tmps[5]?.getD undef = .int .i64 3 := by rw [← Array.getD_eq_getD_getElem?]; exact hh.old 5 rfl
  have hJ := Lib.hid hh.st
  clear hh
  go_simp
  exact ⟨_,rfl,regs.bl_refl _,rfl,hJ.out⟩
 ·refine regs.StepOK.plain rfl fun L a w1 hh => ?_
  have h63 : a.tmps[63]?.getD undef = .int .i64 3 := by rw [← Array.getD_eq_getD_getElem?]; exact hh.dep 0 63 (by kernel_rfl) (by kernel_rfl)
  have hJ := Lib.hid hh.st
  clear hh
  go_simp
  exact ⟨_,rfl,regs.bl_refl _,rfl,hJ.out⟩
 ·refine regs.StepOK.plain rfl fun L a w1 hh => ?_
  have h64 : a.tmps[64]?.getD undef = .bool true := by rw [← Array.getD_eq_getD_getElem?]; exact hh.dep 1 64 (by kernel_rfl) (by kernel_rfl)
  have hJ := Lib.hid hh.st
  clear hh
  go_simp
  exact ⟨_,rfl,regs.bl_refl _,rfl,hJ.out⟩
 ·refine regs.StepOK.yes 2 true 65 rfl rfl (fun L a w1 hh => hh.dep 2 65 (by kernel_rfl) (by kernel_rfl)) fun L a w1 hh => ?_
  have h6 : a.tmps[6]?.getD undef = .int .i64 0 := by rw [← Array.getD_eq_getD_getElem?]; exact hh.old 6 rfl
  have hJ := Lib.hid hh.st
  clear hh
  go_simp
  exact ⟨_,rfl,regs.bl_refl _,rfl,hJ.out⟩
 ·refine regs.StepOK.yes 2 true 65 rfl rfl (fun L a w1 hh => hh.dep 2 65 (by kernel_rfl) (by kernel_rfl)) fun L a w1 hh => ?_
  have h66 : a.tmps[66]?.getD undef = .int .i64 0 := by rw [← Array.getD_eq_getD_getElem?]; exact hh.dep 3 66 (by kernel_rfl) (by kernel_rfl)
  have hJ := Lib.hid hh.st
  clear hh
  go_simp
  exact ⟨_,rfl,regs.bl_refl _,rfl,hJ.out⟩
 ·refine regs.StepOK.plain rfl fun L a w1 hh => ?_
  have h65 : a.tmps[65]?.getD undef = .bool true := by rw [← Array.getD_eq_getD_getElem?]; exact hh.dep 2 65 (by kernel_rfl) (by kernel_rfl)
  have h67 : a.tmps[67]?.getD undef = .bool true := by rw [← Array.getD_eq_getD_getElem?]; exact hh.dep 4 67 (by kernel_rfl) (by kernel_rfl)
  have hJ := Lib.hid hh.st
  clear hh
  go_simp
  exact ⟨_,rfl,regs.bl_refl _,rfl,hJ.out⟩
 ·refine regs.StepOK.plain rfl fun L a w1 hh => ?_
  have h68 : a.tmps[68]?.getD undef = .bool true := by rw [← Array.getD_eq_getD_getElem?]; exact hh.dep 5 68 (by kernel_rfl) (by kernel_rfl)
  have hJ := Lib.hid hh.st
  clear hh
  go_simp
  exact ⟨_,rfl,regs.bl_refl _,rfl,hJ.out⟩
 ·refine regs.StepOK.yes 6 true 69 rfl rfl (fun L a w1 hh => hh.dep 6 69 (by kernel_rfl) (by kernel_rfl)) fun L a w1 hh => ?_
  have h8 : a.tmps[8]?.getD undef = .bool true := by rw [← Array.getD_eq_getD_getElem?]; exact hh.old 8 rfl
  have hJ := Lib.hid hh.st
  clear hh
  go_simp
  exact ⟨_,rfl,regs.bl_refl _,rfl,hJ.out⟩
 ·refine regs.StepOK.plain rfl fun L a w1 hh => ?_
  have h69 : a.tmps[69]?.getD undef = .bool true := by rw [← Array.getD_eq_getD_getElem?]; exact hh.dep 6 69 (by kernel_rfl) (by kernel_rfl)
  have h70 : a.tmps[70]?.getD undef = .bool true := by rw [← Array.getD_eq_getD_getElem?]; exact hh.dep 7 70 (by kernel_rfl) (by kernel_rfl)
  have hJ := Lib.hid hh.st
  clear hh
  go_simp
  exact ⟨_,rfl,regs.bl_refl _,rfl,hJ.out⟩
 ·refine regs.StepOK.plain rfl fun L a w1 hh => ?_
  have h71 : a.tmps[71]?.getD undef = .bool true := by rw [← Array.getD_eq_getD_getElem?]; exact hh.dep 8 71 (by kernel_rfl) (by kernel_rfl)
  have hJ := Lib.hid hh.st
  clear hh
  go_simp
  exact ⟨_,rfl,regs.bl_refl _,rfl,hJ.out⟩
 ·refine regs.StepOK.yes 9 true 72 rfl rfl (fun L a w1 hh => hh.dep 9 72 (by kernel_rfl) (by kernel_rfl)) fun L a w1 hh => ?_
  have h7 : a.tmps[7]?.getD undef = .pointer (some ⟨k7,0,none⟩) := by rw [← Array.getD_eq_getD_getElem?]; exact hh.old 7 rfl
  have hB := Lib.hid (Blk.below' HKM.out hh.rel)
  have hJ := Lib.hid hh.st
  exact wp_take 68 _ rfl k7 0 (by simpa [go_sem] using h7) _ hB.out ((⟨65536,0,0,65536,196608,65536⟩ : Mp).cs) rfl _ Tryz.underlying68 rfl (by kernel_rfl) ⟨_,rfl,regs.bl_refl _,rfl,hJ.out⟩
 ·refine regs.StepOK.yes 9 true 72 rfl rfl (fun L a w1 hh => hh.dep 9 72 (by kernel_rfl) (by kernel_rfl)) fun L a w1 hh => ?_
  have hC := Lib.hid (mp_shift 196608 65536 w1)
  have hJ := Lib.hid hh.st
  clear hh
  go_simp
  refine hC.out.mono ?_
  rintro e w9 ⟨rfl,hb9⟩
  exact ⟨_,rfl,hb9,rfl,hJ.out⟩
 ·refine regs.StepOK.yes 9 true 72 rfl rfl (fun L a w1 hh => hh.dep 9 72 (by kernel_rfl) (by kernel_rfl)) fun L a w1 hh => ?_
  have h73 : a.tmps[73]?.getD undef = .agg ((⟨65536,0,0,65536,196608,65536⟩ : Mp).cs).toArray := by rw [← Array.getD_eq_getD_getElem?]; exact hh.dep 10 73 (by kernel_rfl) (by kernel_rfl)
  have h74 : a.tmps[74]?.getD undef = .agg ((⟨65536,0,0,65536,196608,65536⟩ : Mp).cs).toArray := by rw [← Array.getD_eq_getD_getElem?]; exact hh.dep 11 74 (by kernel_rfl) (by kernel_rfl)
  have hJ := Lib.hid hh.st
  clear hh
  go_simp
  exact ⟨_,rfl,regs.bl_refl _,rfl,hJ.out⟩
 ·refine regs.StepOK.plain rfl fun L a w1 hh => ?_
  have h72 : a.tmps[72]?.getD undef = .bool true := by rw [← Array.getD_eq_getD_getElem?]; exact hh.dep 9 72 (by kernel_rfl) (by kernel_rfl)
  have h75 : a.tmps[75]?.getD undef = .bool true := by rw [← Array.getD_eq_getD_getElem?]; exact hh.dep 12 75 (by kernel_rfl) (by kernel_rfl)
  have hJ := Lib.hid hh.st
  clear hh
  go_simp
  exact ⟨_,rfl,regs.bl_refl _,rfl,hJ.out⟩
 ·refine regs.StepOK.plain rfl fun L a w1 hh => ?_
  have h76 : a.tmps[76]?.getD undef = .bool true := by rw [← Array.getD_eq_getD_getElem?]; exact hh.dep 13 76 (by kernel_rfl) (by kernel_rfl)
  have hJ := Lib.hid hh.st
  clear hh
  go_simp
  exact ⟨_,rfl,regs.bl_refl _,rfl,hJ.out⟩
 ·refine regs.StepOK.yes 14 true 77 rfl rfl (fun L a w1 hh => hh.dep 14 77 (by kernel_rfl) (by kernel_rfl)) fun L a w1 hh => ?_
  have h10 : a.tmps[10]?.getD undef = .int .i64 1 := by rw [← Array.getD_eq_getD_getElem?]; exact hh.old 10 rfl
  have hJ := Lib.hid hh.st
  clear hh
  go_simp
  exact ⟨_,rfl,regs.bl_refl _,rfl,hJ.out⟩
 ·refine regs.StepOK.yes 14 true 77 rfl rfl (fun L a w1 hh => hh.dep 14 77 (by kernel_rfl) (by kernel_rfl)) fun L a w1 hh => ?_
  have h78 : a.tmps[78]?.getD undef = .int .i64 1 := by rw [← Array.getD_eq_getD_getElem?]; exact hh.dep 15 78 (by kernel_rfl) (by kernel_rfl)
  have hJ := Lib.hid hh.st
  clear hh
  go_simp
  exact ⟨_,rfl,regs.bl_refl _,rfl,hJ.out⟩
 ·refine regs.StepOK.plain rfl fun L a w1 hh => ?_
  have h77 : a.tmps[77]?.getD undef = .bool true := by rw [← Array.getD_eq_getD_getElem?]; exact hh.dep 14 77 (by kernel_rfl) (by kernel_rfl)
  have h79 : a.tmps[79]?.getD undef = .bool true := by rw [← Array.getD_eq_getD_getElem?]; exact hh.dep 16 79 (by kernel_rfl) (by kernel_rfl)
  have hJ := Lib.hid hh.st
  clear hh
  go_simp
  exact ⟨_,rfl,regs.bl_refl _,rfl,hJ.out⟩
 ·refine regs.StepOK.plain rfl fun L a w1 hh => ?_
  have h80 : a.tmps[80]?.getD undef = .bool true := by rw [← Array.getD_eq_getD_getElem?]; exact hh.dep 17 80 (by kernel_rfl) (by kernel_rfl)
  have hJ := Lib.hid hh.st
  clear hh
  go_simp
  exact ⟨_,rfl,regs.bl_refl _,rfl,hJ.out⟩
 ·refine regs.StepOK.yes 18 true 81 rfl rfl (fun L a w1 hh => hh.dep 18 81 (by kernel_rfl) (by kernel_rfl)) fun L a w1 hh => ?_
  have h11 : a.tmps[11]?.getD undef = .int .i64 36 := by rw [← Array.getD_eq_getD_getElem?]; exact hh.old 11 rfl
  have hJ := Lib.hid hh.st
  clear hh
  go_simp
  exact ⟨_,rfl,regs.bl_refl _,rfl,hJ.out⟩
 ·refine regs.StepOK.yes 18 true 81 rfl rfl (fun L a w1 hh => hh.dep 18 81 (by kernel_rfl) (by kernel_rfl)) fun L a w1 hh => ?_
  have h82 : a.tmps[82]?.getD undef = .int .i64 36 := by rw [← Array.getD_eq_getD_getElem?]; exact hh.dep 19 82 (by kernel_rfl) (by kernel_rfl)
  have hJ := Lib.hid hh.st
  clear hh
  go_simp
  exact ⟨_,rfl,regs.bl_refl _,rfl,hJ.out⟩
 ·refine regs.StepOK.plain rfl fun L a w1 hh => ?_
  have h81 : a.tmps[81]?.getD undef = .bool true := by rw [← Array.getD_eq_getD_getElem?]; exact hh.dep 18 81 (by kernel_rfl) (by kernel_rfl)
  have h83 : a.tmps[83]?.getD undef = .bool true := by rw [← Array.getD_eq_getD_getElem?]; exact hh.dep 20 83 (by kernel_rfl) (by kernel_rfl)
  have hJ := Lib.hid hh.st
  clear hh
  go_simp
  exact ⟨_,rfl,regs.bl_refl _,rfl,hJ.out⟩
 ·refine regs.StepOK.plain rfl fun L a w1 hh => ?_
  have h84 : a.tmps[84]?.getD undef = .bool true := by rw [← Array.getD_eq_getD_getElem?]; exact hh.dep 21 84 (by kernel_rfl) (by kernel_rfl)
  have hJ := Lib.hid hh.st
  clear hh
  go_simp
  exact ⟨_,rfl,regs.bl_refl _,rfl,hJ.out⟩
 ·refine regs.StepOK.yes 22 true 85 rfl rfl (fun L a w1 hh => hh.dep 22 85 (by kernel_rfl) (by kernel_rfl)) fun L a w1 hh => ?_
  have h13 : a.tmps[13]?.getD undef = .bool true := by rw [← Array.getD_eq_getD_getElem?]; exact hh.old 13 rfl
  have hJ := Lib.hid hh.st
  clear hh
  go_simp
  exact ⟨_,rfl,regs.bl_refl _,rfl,hJ.out⟩
 ·refine regs.StepOK.plain rfl fun L a w1 hh => ?_
  have h85 : a.tmps[85]?.getD undef = .bool true := by rw [← Array.getD_eq_getD_getElem?]; exact hh.dep 22 85 (by kernel_rfl) (by kernel_rfl)
  have h86 : a.tmps[86]?.getD undef = .bool true := by rw [← Array.getD_eq_getD_getElem?]; exact hh.dep 23 86 (by kernel_rfl) (by kernel_rfl)
  have hJ := Lib.hid hh.st
  clear hh
  go_simp
  exact ⟨_,rfl,regs.bl_refl _,rfl,hJ.out⟩
 ·refine regs.StepOK.plain rfl fun L a w1 hh => ?_
  have h87 : a.tmps[87]?.getD undef = .bool true := by rw [← Array.getD_eq_getD_getElem?]; exact hh.dep 24 87 (by kernel_rfl) (by kernel_rfl)
  have hJ := Lib.hid hh.st
  clear hh
  go_simp
  exact ⟨_,rfl,regs.bl_refl _,rfl,hJ.out⟩
 ·refine regs.StepOK.yes 25 true 88 rfl rfl (fun L a w1 hh => hh.dep 25 88 (by kernel_rfl) (by kernel_rfl)) fun L a w1 hh => ?_
  have h12 : a.tmps[12]?.getD undef = .pointer (some ⟨k12,0,none⟩) := by rw [← Array.getD_eq_getD_getElem?]; exact hh.old 12 rfl
  have i0 := (Blk.below' HK13.out hh.rel).inside
  have hJ := Lib.hid hh.st
  clear hh
  go_simp
  exact ⟨_,rfl,regs.bl_refl _,rfl,hJ.out⟩
 ·refine regs.StepOK.yes 25 true 88 rfl rfl (fun L a w1 hh => hh.dep 25 88 (by kernel_rfl) (by kernel_rfl)) fun L a w1 hh => ?_
  have h89 : a.tmps[89]?.getD undef = .pointer (some ⟨k12,7,none⟩) := by rw [← Array.getD_eq_getD_getElem?]; exact hh.dep 26 89 (by kernel_rfl) (by kernel_rfl)
  have hB := Lib.hid (Blk.below' HK13.out hh.rel)
  have c0 : w1.cell? ⟨k12,7,none⟩ = some (.bool n0.hi) := hB.out.cell 7
  rw [HN0.out] at c0
  have i0 := hB.out.inside
  have hJ := Lib.hid hh.st
  clear hh
  go_simp
  exact ⟨_,rfl,regs.bl_refl _,rfl,hJ.out⟩
 ·refine regs.StepOK.yes 25 true 88 rfl rfl (fun L a w1 hh => hh.dep 25 88 (by kernel_rfl) (by kernel_rfl)) fun L a w1 hh => ?_
  have h90 : a.tmps[90]?.getD undef = .bool false := by rw [← Array.getD_eq_getD_getElem?]; exact hh.dep 27 90 (by kernel_rfl) (by kernel_rfl)
  have hJ := Lib.hid hh.st
  clear hh
  go_simp
  exact ⟨_,rfl,regs.bl_refl _,rfl,hJ.out⟩
 ·refine regs.StepOK.plain rfl fun L a w1 hh => ?_
  have h88 : a.tmps[88]?.getD undef = .bool true := by rw [← Array.getD_eq_getD_getElem?]; exact hh.dep 25 88 (by kernel_rfl) (by kernel_rfl)
  have h91 : a.tmps[91]?.getD undef = .bool true := by rw [← Array.getD_eq_getD_getElem?]; exact hh.dep 28 91 (by kernel_rfl) (by kernel_rfl)
  have hJ := Lib.hid hh.st
  clear hh
  go_simp
  exact ⟨_,rfl,regs.bl_refl _,rfl,hJ.out⟩
 ·refine regs.StepOK.plain rfl fun L a w1 hh => ?_
  have h92 : a.tmps[92]?.getD undef = .bool true := by rw [← Array.getD_eq_getD_getElem?]; exact hh.dep 29 92 (by kernel_rfl) (by kernel_rfl)
  have hJ := Lib.hid hh.st
  clear hh
  go_simp
  exact ⟨_,rfl,regs.bl_refl _,rfl,hJ.out⟩
 ·refine regs.StepOK.yes 30 true 93 rfl rfl (fun L a w1 hh => hh.dep 30 93 (by kernel_rfl) (by kernel_rfl)) fun L a w1 hh => ?_
  have h1 : a.tmps[1]?.getD undef = .pointer (some ⟨g,0,none⟩) := by rw [← Array.getD_eq_getD_getElem?]; exact hh.old 1 rfl
  have hJ := Lib.hid hh.st
  clear hh
  go_simp
  exact ⟨_,rfl,regs.bl_refl _,rfl,hJ.out⟩
 ·refine regs.StepOK.yes 30 true 93 rfl rfl (fun L a w1 hh => hh.dep 30 93 (by kernel_rfl) (by kernel_rfl)) fun L a w1 hh => ?_
  have h94 : a.tmps[94]?.getD undef = .pointer (some ⟨g,0,none⟩) := by rw [← Array.getD_eq_getD_getElem?]; exact hh.dep 31 94 (by kernel_rfl) (by kernel_rfl)
  have hJ := Lib.hid hh.st
  clear hh
  go_simp
  exact ⟨_,rfl,regs.bl_refl _,rfl,hJ.out⟩
 ·refine regs.StepOK.yes 30 true 93 rfl rfl (fun L a w1 hh => hh.dep 30 93 (by kernel_rfl) (by kernel_rfl)) fun L a w1 hh => ?_
  have h95 : a.tmps[95]?.getD undef = .pointer (some ⟨g,0,none⟩) := by rw [← Array.getD_eq_getD_getElem?]; exact hh.dep 32 95 (by kernel_rfl) (by kernel_rfl)
  have i0 := ((HM13.out.at_.below hh.rel).blk.blk).inside
  have hJ := Lib.hid hh.st
  clear hh
  go_simp
  exact ⟨_,rfl,regs.bl_refl _,rfl,hJ.out⟩
 ·refine regs.StepOK.yes 30 true 93 rfl rfl (fun L a w1 hh => hh.dep 30 93 (by kernel_rfl) (by kernel_rfl)) fun L a w1 hh => ?_
  have h96 : a.tmps[96]?.getD undef = .pointer (some ⟨g,0,none⟩) := by rw [← Array.getD_eq_getD_getElem?]; exact hh.dep 33 96 (by kernel_rfl) (by kernel_rfl)
  have hB := Lib.hid ((HM13.out.at_.below hh.rel).blk.blk)
  have c0 : w1.cell? ⟨g,0,none⟩ = some (.iface 109 (.pointer (some ⟨b,0,none⟩))) := hB.out.cell 0
  have i0 := hB.out.inside
  have hJ := Lib.hid hh.st
  clear hh
  go_simp
  exact ⟨_,rfl,regs.bl_refl _,rfl,hJ.out⟩
 ·refine regs.StepOK.yes 30 true 93 rfl rfl (fun L a w1 hh => hh.dep 30 93 (by kernel_rfl) (by kernel_rfl)) fun L a w1 hh => ?_
  have h97 : a.tmps[97]?.getD undef = .iface 109 (.pointer (some ⟨b,0,none⟩)) := by rw [← Array.getD_eq_getD_getElem?]; exact hh.dep 34 97 (by kernel_rfl) (by kernel_rfl)
  have hinv := inv_len (.pointer (some ⟨b,0,none⟩))
  have hC := Lib.hid (HLEN.out _ hh.rel)
  have hJ := Lib.hid hh.st
  clear hh
  go_simp
  refine hC.out.mono ?_
  rintro e w9 ⟨rfl,hb9⟩
  exact ⟨_,rfl,hb9,rfl,hJ.out⟩
 ·refine regs.StepOK.yes 30 true 93 rfl rfl (fun L a w1 hh => hh.dep 30 93 (by kernel_rfl) (by kernel_rfl)) fun L a w1 hh => ?_
  have h98 : a.tmps[98]?.getD undef = .int .i64 2 := by rw [← Array.getD_eq_getD_getElem?]; exact hh.dep 35 98 (by kernel_rfl) (by kernel_rfl)
  have hJ := Lib.hid hh.st
  clear hh
  go_simp
  exact ⟨_,rfl,regs.bl_refl _,rfl,hJ.out⟩
 ·refine regs.StepOK.plain rfl fun L a w1 hh => ?_
  have h93 : a.tmps[93]?.getD undef = .bool true := by rw [← Array.getD_eq_getD_getElem?]; exact hh.dep 30 93 (by kernel_rfl) (by kernel_rfl)
  have h99 : a.tmps[99]?.getD undef = .bool true := by rw [← Array.getD_eq_getD_getElem?]; exact hh.dep 36 99 (by kernel_rfl) (by kernel_rfl)
  have hJ := Lib.hid hh.st
  clear hh
  go_simp
  exact ⟨_,rfl,regs.bl_refl _,rfl,hJ.out⟩
 ·refine regs.StepOK.plain rfl fun L a w1 hh => ?_
  have h100 : a.tmps[100]?.getD undef = .bool true := by rw [← Array.getD_eq_getD_getElem?]; exact hh.dep 37 100 (by kernel_rfl) (by kernel_rfl)
  have hJ := Lib.hid hh.st
  clear hh
  go_simp
  exact ⟨_,rfl,regs.bl_refl _,rfl,hJ.out⟩
 ·refine regs.StepOK.yes 38 true 101 rfl rfl (fun L a w1 hh => hh.dep 38 101 (by kernel_rfl) (by kernel_rfl)) fun L a w1 hh => ?_
  have h1 : a.tmps[1]?.getD undef = .pointer (some ⟨g,0,none⟩) := by rw [← Array.getD_eq_getD_getElem?]; exact hh.old 1 rfl
  have hJ := Lib.hid hh.st
  clear hh
  go_simp
  exact ⟨_,rfl,regs.bl_refl _,rfl,hJ.out⟩
 ·refine regs.StepOK.yes 38 true 101 rfl rfl (fun L a w1 hh => hh.dep 38 101 (by kernel_rfl) (by kernel_rfl)) fun L a w1 hh => ?_
  have h102 : a.tmps[102]?.getD undef = .pointer (some ⟨g,0,none⟩) := by rw [← Array.getD_eq_getD_getElem?]; exact hh.dep 39 102 (by kernel_rfl) (by kernel_rfl)
  have hJ := Lib.hid hh.st
  clear hh
  go_simp
  exact ⟨_,rfl,regs.bl_refl _,rfl,hJ.out⟩
 ·refine regs.StepOK.yes 38 true 101 rfl rfl (fun L a w1 hh => hh.dep 38 101 (by kernel_rfl) (by kernel_rfl)) fun L a w1 hh => ?_
  have h103 : a.tmps[103]?.getD undef = .pointer (some ⟨g,0,none⟩) := by rw [← Array.getD_eq_getD_getElem?]; exact hh.dep 40 103 (by kernel_rfl) (by kernel_rfl)
  have i0 := ((HM13.out.at_.below hh.rel).blk.blk).inside
  have hJ := Lib.hid hh.st
  clear hh
  go_simp
  exact ⟨_,rfl,regs.bl_refl _,rfl,hJ.out⟩
 ·refine regs.StepOK.yes 38 true 101 rfl rfl (fun L a w1 hh => hh.dep 38 101 (by kernel_rfl) (by kernel_rfl)) fun L a w1 hh => ?_
  have h104 : a.tmps[104]?.getD undef = .pointer (some ⟨g,0,none⟩) := by rw [← Array.getD_eq_getD_getElem?]; exact hh.dep 41 104 (by kernel_rfl) (by kernel_rfl)
  have hB := Lib.hid ((HM13.out.at_.below hh.rel).blk.blk)
  have c0 : w1.cell? ⟨g,0,none⟩ = some (.iface 109 (.pointer (some ⟨b,0,none⟩))) := hB.out.cell 0
  have i0 := hB.out.inside
  have hJ := Lib.hid hh.st
  clear hh
  go_simp
  exact ⟨_,rfl,regs.bl_refl _,rfl,hJ.out⟩
 ·refine regs.StepOK.yes 38 true 101 rfl rfl (fun L a w1 hh => hh.dep 38 101 (by kernel_rfl) (by kernel_rfl)) fun L a w1 hh => ?_
  have hJ := Lib.hid hh.st
  clear hh
  exact wp_bs _ _ _ rfl (by simp [go_sem]) (bs_int1 1 w1) ⟨_,rfl,(Below.refl _ _).alloc (Nat.le_refl _) _,⟨_,rfl,blk_new w1 [.int .i64 1] _⟩,hJ.out⟩
 ·refine regs.StepOK.yes 38 true 101 rfl rfl (fun L a w1 hh => hh.dep 38 101 (by kernel_rfl) (by kernel_rfl)) fun L a w1 hh => ?_
  have h105 : a.tmps[105]?.getD undef = .iface 109 (.pointer (some ⟨b,0,none⟩)) := by rw [← Array.getD_eq_getD_getElem?]; exact hh.dep 42 105 (by kernel_rfl) (by kernel_rfl)
  obtain ⟨g9,e9,hB9⟩ := (show ∃ g9,(a.tmps.getD 106 undef) = .slice (some ⟨g9,0,none⟩) 1 1 ∧ Blk w1 g9 [.int .i64 1] from hh.dep 43 106 (by kernel_rfl) (by kernel_rfl))
  have h106 : a.tmps[106]?.getD undef = .slice (some ⟨g9,0,none⟩) 1 1 := by rw [← Array.getD_eq_getD_getElem?]; exact e9
  have hinv := inv_has (.pointer (some ⟨b,0,none⟩))
  have hC := Lib.hid (thas (HM13.out.at_.below hh.rel).tree (some ⟨g9,0,none⟩) [1] 1 (fun _ => ⟨g9,0,rfl,fun j hj => by have : j = 0 := (by simp at hj; omega); subst this; exact hB9.cell 0⟩) (fun z hz => by rw [List.mem_singleton.1 hz]; exact ⟨by decide,by decide⟩) (by simp))
  rw [show ([1].all (has awY.t)) = true from by rw [HT.out]; decide] at hC
  clear e9 hB9
  have hJ := Lib.hid hh.st
  clear hh
  go_simp
  refine hC.out.mono ?_
  rintro e w9 ⟨rfl,hb9⟩
  exact ⟨_,rfl,hb9,rfl,hJ.out⟩
 ·refine regs.StepOK.plain rfl fun L a w1 hh => ?_
  have h101 : a.tmps[101]?.getD undef = .bool true := by rw [← Array.getD_eq_getD_getElem?]; exact hh.dep 38 101 (by kernel_rfl) (by kernel_rfl)
  have h107 : a.tmps[107]?.getD undef = .bool true := by rw [← Array.getD_eq_getD_getElem?]; exact hh.dep 44 107 (by kernel_rfl) (by kernel_rfl)
  have hJ := Lib.hid hh.st
  clear hh
  go_simp
  exact ⟨_,rfl,regs.bl_refl _,rfl,hJ.out⟩
 ·refine regs.StepOK.plain rfl fun L a w1 hh => ?_
  have h108 : a.tmps[108]?.getD undef = .bool true := by rw [← Array.getD_eq_getD_getElem?]; exact hh.dep 45 108 (by kernel_rfl) (by kernel_rfl)
  have hJ := Lib.hid hh.st
  clear hh
  go_simp
  exact ⟨_,rfl,regs.bl_refl _,rfl,hJ.out⟩
 ·refine regs.StepOK.yes 46 true 109 rfl rfl (fun L a w1 hh => hh.dep 46 109 (by kernel_rfl) (by kernel_rfl)) fun L a w1 hh => ?_
  have h1 : a.tmps[1]?.getD undef = .pointer (some ⟨g,0,none⟩) := by rw [← Array.getD_eq_getD_getElem?]; exact hh.old 1 rfl
  have hJ := Lib.hid hh.st
  clear hh
  go_simp
  exact ⟨_,rfl,regs.bl_refl _,rfl,hJ.out⟩
 ·refine regs.StepOK.yes 46 true 109 rfl rfl (fun L a w1 hh => hh.dep 46 109 (by kernel_rfl) (by kernel_rfl)) fun L a w1 hh => ?_
  have h110 : a.tmps[110]?.getD undef = .pointer (some ⟨g,0,none⟩) := by rw [← Array.getD_eq_getD_getElem?]; exact hh.dep 47 110 (by kernel_rfl) (by kernel_rfl)
  have hJ := Lib.hid hh.st
  clear hh
  go_simp
  exact ⟨_,rfl,regs.bl_refl _,rfl,hJ.out⟩
 ·refine regs.StepOK.yes 46 true 109 rfl rfl (fun L a w1 hh => hh.dep 46 109 (by kernel_rfl) (by kernel_rfl)) fun L a w1 hh => ?_
  have h111 : a.tmps[111]?.getD undef = .pointer (some ⟨g,0,none⟩) := by rw [← Array.getD_eq_getD_getElem?]; exact hh.dep 48 111 (by kernel_rfl) (by kernel_rfl)
  have i0 := ((HM13.out.at_.below hh.rel).blk.blk).inside
  have hJ := Lib.hid hh.st
  clear hh
  go_simp
  exact ⟨_,rfl,regs.bl_refl _,rfl,hJ.out⟩
 ·refine regs.StepOK.yes 46 true 109 rfl rfl (fun L a w1 hh => hh.dep 46 109 (by kernel_rfl) (by kernel_rfl)) fun L a w1 hh => ?_
  have h112 : a.tmps[112]?.getD undef = .pointer (some ⟨g,0,none⟩) := by rw [← Array.getD_eq_getD_getElem?]; exact hh.dep 49 112 (by kernel_rfl) (by kernel_rfl)
  have hB := Lib.hid ((HM13.out.at_.below hh.rel).blk.blk)
  have c0 : w1.cell? ⟨g,0,none⟩ = some (.iface 109 (.pointer (some ⟨b,0,none⟩))) := hB.out.cell 0
  have i0 := hB.out.inside
  have hJ := Lib.hid hh.st
  clear hh
  go_simp
  exact ⟨_,rfl,regs.bl_refl _,rfl,hJ.out⟩
 ·refine regs.StepOK.yes 46 true 109 rfl rfl (fun L a w1 hh => hh.dep 46 109 (by kernel_rfl) (by kernel_rfl)) fun L a w1 hh => ?_
  have h113 : a.tmps[113]?.getD undef = .iface 109 (.pointer (some ⟨b,0,none⟩)) := by rw [← Array.getD_eq_getD_getElem?]; exact hh.dep 50 113 (by kernel_rfl) (by kernel_rfl)
  have hinv := inv_parent (.pointer (some ⟨b,0,none⟩))
  have hC := Lib.hid (HPAR.out _ hh.rel)
  have hJ := Lib.hid hh.st
  clear hh
  go_simp
  refine hC.out.mono ?_
  rintro e w9 ⟨rfl,hb9⟩
  exact ⟨_,rfl,hb9,rfl,hJ.out⟩
 ·refine regs.StepOK.yes 46 true 109 rfl rfl (fun L a w1 hh => hh.dep 46 109 (by kernel_rfl) (by kernel_rfl)) fun L a w1 hh => ?_
  have h114 : a.tmps[114]?.getD undef = .int .i64 0 := by rw [← Array.getD_eq_getD_getElem?]; exact hh.dep 51 114 (by kernel_rfl) (by kernel_rfl)
  have hJ := Lib.hid hh.st
  clear hh
  go_simp
  exact ⟨_,rfl,regs.bl_refl _,rfl,hJ.out⟩
 ·refine regs.StepOK.plain rfl fun L a w1 hh => ?_
  have h109 : a.tmps[109]?.getD undef = .bool true := by rw [← Array.getD_eq_getD_getElem?]; exact hh.dep 46 109 (by kernel_rfl) (by kernel_rfl)
  have h115 : a.tmps[115]?.getD undef = .bool true := by rw [← Array.getD_eq_getD_getElem?]; exact hh.dep 52 115 (by kernel_rfl) (by kernel_rfl)
  have hJ := Lib.hid hh.st
  clear hh
  go_simp
  exact ⟨_,rfl,regs.bl_refl _,rfl,hJ.out⟩
 ·refine regs.StepOK.plain rfl fun L a w1 hh => ?_
  have h116 : a.tmps[116]?.getD undef = .bool true := by rw [← Array.getD_eq_getD_getElem?]; exact hh.dep 53 116 (by kernel_rfl) (by kernel_rfl)
  have hJ := Lib.hid hh.st
  clear hh
  go_simp
  exact ⟨_,rfl,regs.bl_refl _,rfl,hJ.out⟩
 ·refine regs.StepOK.yes 54 true 117 rfl rfl (fun L a w1 hh => hh.dep 54 117 (by kernel_rfl) (by kernel_rfl)) fun L a w1 hh => ?_
  have h9 : a.tmps[9]?.getD undef = .pointer (some ⟨g2,0,none⟩) := by rw [← Array.getD_eq_getD_getElem?]; exact hh.old 9 rfl
  have hJ := Lib.hid hh.st
  clear hh
  go_simp
  exact ⟨_,rfl,regs.bl_refl _,rfl,hJ.out⟩
 ·refine regs.StepOK.yes 54 true 117 rfl rfl (fun L a w1 hh => hh.dep 54 117 (by kernel_rfl) (by kernel_rfl)) fun L a w1 hh => ?_
  have h118 : a.tmps[118]?.getD undef = .pointer (some ⟨g2,0,none⟩) := by rw [← Array.getD_eq_getD_getElem?]; exact hh.dep 55 118 (by kernel_rfl) (by kernel_rfl)
  have hJ := Lib.hid hh.st
  clear hh
  go_simp
  exact ⟨_,rfl,regs.bl_refl _,rfl,hJ.out⟩
 ·refine regs.StepOK.plain rfl fun L a w1 hh => ?_
  have h117 : a.tmps[117]?.getD undef = .bool true := by rw [← Array.getD_eq_getD_getElem?]; exact hh.dep 54 117 (by kernel_rfl) (by kernel_rfl)
  have h119 : a.tmps[119]?.getD undef = .bool true := by rw [← Array.getD_eq_getD_getElem?]; exact hh.dep 56 119 (by kernel_rfl) (by kernel_rfl)
  have hJ := Lib.hid hh.st
  clear hh
  go_simp
  exact ⟨_,rfl,regs.bl_refl _,rfl,hJ.out⟩
 ·refine regs.StepOK.plain rfl fun L a w1 hh => ?_
  have h120 : a.tmps[120]?.getD undef = .bool true := by rw [← Array.getD_eq_getD_getElem?]; exact hh.dep 57 120 (by kernel_rfl) (by kernel_rfl)
  have hJ := Lib.hid hh.st
  clear hh
  go_simp
  exact ⟨_,rfl,regs.bl_refl _,rfl,hJ.out⟩
 ·refine regs.StepOK.yes 58 true 121 rfl rfl (fun L a w1 hh => hh.dep 58 121 (by kernel_rfl) (by kernel_rfl)) fun L a w1 hh => ?_
  have h1 : a.tmps[1]?.getD undef = .pointer (some ⟨g,0,none⟩) := by rw [← Array.getD_eq_getD_getElem?]; exact hh.old 1 rfl
  have hJ := Lib.hid hh.st
  clear hh
  go_simp
  exact ⟨_,rfl,regs.bl_refl _,rfl,hJ.out⟩
 ·refine regs.StepOK.yes 58 true 121 rfl rfl (fun L a w1 hh => hh.dep 58 121 (by kernel_rfl) (by kernel_rfl)) fun L a w1 hh => ?_
  have h9 : a.tmps[9]?.getD undef = .pointer (some ⟨g2,0,none⟩) := by rw [← Array.getD_eq_getD_getElem?]; exact hh.old 9 rfl
  have hJ := Lib.hid hh.st
  clear hh
  go_simp
  exact ⟨_,rfl,regs.bl_refl _,rfl,hJ.out⟩
 ·refine regs.StepOK.yes 58 true 121 rfl rfl (fun L a w1 hh => hh.dep 58 121 (by kernel_rfl) (by kernel_rfl)) fun L a w1 hh => ?_
  have h122 : a.tmps[122]?.getD undef = .pointer (some ⟨g,0,none⟩) := by rw [← Array.getD_eq_getD_getElem?]; exact hh.dep 59 122 (by kernel_rfl) (by kernel_rfl)
  have h123 : a.tmps[123]?.getD undef = .pointer (some ⟨g2,0,none⟩) := by rw [← Array.getD_eq_getD_getElem?]; exact hh.dep 60 123 (by kernel_rfl) (by kernel_rfl)
  have hC := Lib.hid (sequal (HM13.out.at_.below hh.rel) (HC13.out.below hh.rel) HF.out HF.out (by rw [HT.out]; decide) (by rw [HT.out]; decide) ⟨rfl,rfl⟩)
  unfold EqQ at hC
  have hJ := Lib.hid hh.st
  clear hh
  go_simp
  refine hC.out.mono ?_
  rintro e w9 ⟨r9,rfl,hr9,hb9⟩
  obtain rfl : r9 = true := hr9.2 (same_self _)
  exact ⟨_,rfl,hb9,rfl,hJ.out⟩
 ·refine regs.StepOK.plain rfl fun L a w1 hh => ?_
  have h121 : a.tmps[121]?.getD undef = .bool true := by rw [← Array.getD_eq_getD_getElem?]; exact hh.dep 58 121 (by kernel_rfl) (by kernel_rfl)
  have h124 : a.tmps[124]?.getD undef = .bool true := by rw [← Array.getD_eq_getD_getElem?]; exact hh.dep 61 124 (by kernel_rfl) (by kernel_rfl)
  have hJ := Lib.hid hh.st
  clear hh
  go_simp
  exact ⟨_,rfl,regs.bl_refl _,rfl,hJ.out⟩
 ·refine regs.StepOK.plain rfl fun L a w1 hh => ?_
  have h125 : a.tmps[125]?.getD undef = .bool true := by rw [← Array.getD_eq_getD_getElem?]; exact hh.dep 62 125 (by kernel_rfl) (by kernel_rfl)
  have hJ := Lib.hid hh.st
  clear hh
  go_simp
  exact ⟨_,rfl,regs.bl_refl _,rfl,hJ.out⟩
 intro L w14 val hL hJ hR hv
 have h0 : val 0 = .bool true := hv 63 0 (by kernel_rfl)
 have HR14 := Lib.hid hR
 clear hv hL hJ hR
 simp only [regs.putAll,List.map_cons,List.map_nil,h0]
 simp only [Act.put,List.setIfInBounds_toArray,List.set_cons_zero,List.set_cons_succ]
 clear h0
 generalize val 63 = v63 at *
 generalize val 64 = v64 at *
 generalize val 65 = v65 at *
 generalize val 66 = v66 at *
 generalize val 67 = v67 at *
 generalize val 68 = v68 at *
 generalize val 69 = v69 at *
 generalize val 70 = v70 at *
 generalize val 71 = v71 at *
 generalize val 72 = v72 at *
 generalize val 73 = v73 at *
 generalize val 74 = v74 at *
 generalize val 75 = v75 at *
 generalize val 76 = v76 at *
 generalize val 77 = v77 at *
 generalize val 78 = v78 at *
 generalize val 79 = v79 at *
 generalize val 80 = v80 at *
 generalize val 81 = v81 at *
 generalize val 82 = v82 at *
 generalize val 83 = v83 at *
 generalize val 84 = v84 at *
 generalize val 85 = v85 at *
 generalize val 86 = v86 at *
 generalize val 87 = v87 at *
 generalize val 88 = v88 at *
 generalize val 89 = v89 at *
 generalize val 90 = v90 at *
 generalize val 91 = v91 at *
 generalize val 92 = v92 at *
 generalize val 93 = v93 at *
 generalize val 94 = v94 at *
 generalize val 95 = v95 at *
 generalize val 96 = v96 at *
 generalize val 97 = v97 at *
 generalize val 98 = v98 at *
 generalize val 99 = v99 at *
 generalize val 100 = v100 at *
 generalize val 101 = v101 at *
 generalize val 102 = v102 at *
 generalize val 103 = v103 at *
 generalize val 104 = v104 at *
 generalize val 105 = v105 at *
 generalize val 106 = v106 at *
 generalize val 107 = v107 at *
 generalize val 108 = v108 at *
 generalize val 109 = v109 at *
 generalize val 110 = v110 at *
 generalize val 111 = v111 at *
 generalize val 112 = v112 at *
 generalize val 113 = v113 at *
 generalize val 114 = v114 at *
 generalize val 115 = v115 at *
 generalize val 116 = v116 at *
 generalize val 117 = v117 at *
 generalize val 118 = v118 at *
 generalize val 119 = v119 at *
 generalize val 120 = v120 at *
 generalize val 121 = v121 at *
 generalize val 122 = v122 at *
 generalize val 123 = v123 at *
 generalize val 124 = v124 at *
 generalize val 125 = v125 at *
 go_wp2_with (fail)
 go_ret
 exact ⟨rfl,HM13.out.bel.trans (HR14.out.mono HM13.out.bel.size)⟩
end Go.Proofs.YtehmblcbccceaaaGreat
