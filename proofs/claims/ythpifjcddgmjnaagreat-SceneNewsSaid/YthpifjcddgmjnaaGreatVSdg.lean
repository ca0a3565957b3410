import Derived.Test.YthpifjcddgmjnaaGreatVSdc
import Derived.Deep.Cut
set_option maxHeartbeats 16000000
set_option maxRecDepth 100000
namespace Go.Proofs.YthpifjcddgmjnaaGreat
open Go.RowKit pxm imm trm Go.Maps
structure MyS (w0:World) (g b m:Nat) (s:Sh) (Z:ZZ) (x:PSc) (w:World):Prop where
 at_:SceneAt w g b m s Z x
 ft:∀ k,SFoot b m s x.t k→w0.heap.size≤k
 bel:Below w0.heap.size w0 w
section
variable {w0 w w':World} {g b m:Nat} {s s':Sh} {Z:ZZ} {x x':PSc}
theorem MyS.below (h:MyS w0 g b m s Z x w) (hb:Below w.heap.size w w'):MyS w0 g b m s Z x w':=⟨h.at_.below hb,h.ft,h.bel.trans (hb.mono h.bel.size)⟩
theorem MyS.turn (h:MyS w0 g b m s Z x w) (hs:SceneAt w' g b m s' Z x') (ht:TurnP (SFoot b m s x.t) (SFoot b m s' x'.t) w w'):MyS w0 g b m s' Z x' w':=
 ⟨hs,fun k hk=>by
  by_cases hlt:k < w0.heap.size
  ·exact absurd hk (ht.far k (Nat.lt_of_lt_of_le hlt h.bel.size) fun e=>by have:=h.ft k e; omega).1
  ·omega,h.bel.trans (ht.to_below h.bel.size h.ft)⟩
end
abbrev tOps:TypeId:=38
theorem build_aw1 (w:World):(Instr.build 77 #[(0,.int .i64 1),(1,.int .i64 1)]).run Tryz.prog w=.ok (.agg (aw1.cs none 0).toArray) w:=by kernel_rfl
theorem build_aw2 (w:World):(Instr.build 77 #[(0,.int .i64 4),(1,.int .i64 1),(4,.agg #[.int .i64 65536,.int .i64 0,.int .i64 0,.int .i64 65536,.int .i64 196608,.int .i64 0])]).run Tryz.prog w=.ok (.agg (aw2.cs none 0).toArray) w:=by kernel_rfl
theorem build_aw3 (w:World):(Instr.build 77 #[(0,.int .i64 4),(4,.agg #[.int .i64 65536,.int .i64 0,.int .i64 0,.int .i64 65536,.int .i64 0,.int .i64 65536])]).run Tryz.prog w=.ok (.agg (aw3.cs none 0).toArray) w:=by kernel_rfl
theorem build_aw4 (w:World):(Instr.build 77 #[(0,.int .i64 8),(6,.bool true)]).run Tryz.prog w=.ok (.agg (aw4.cs none 0).toArray) w:=by kernel_rfl
theorem build_aw5 (w:World):(Instr.build 77 #[(0,.int .i64 1),(1,.int .i64 2)]).run Tryz.prog w=.ok (.agg (aw5.cs none 0).toArray) w:=by kernel_rfl
def oN (o:Op9):OpR:=⟨o,none,0⟩
theorem bs_op3 (a b c:Op9) (w:World):(Instr.buildSlice tOps 3 #[(0,.agg (a.cs none 0).toArray),(1,.agg (b.cs none 0).toArray),(2,.agg (c.cs none 0).toArray)]).run Tryz.prog w=.ok (.slice (some ⟨w.heap.size,0,none⟩) 3 3) (w.alloc (.cells ([oN a,oN b,oN c].flatMap OpR.cs).toArray 77)):=by kernel_rfl
theorem bs_op2 (a b:Op9) (w:World):(Instr.buildSlice tOps 2 #[(0,.agg (a.cs none 0).toArray),(1,.agg (b.cs none 0).toArray)]).run Tryz.prog w=.ok (.slice (some ⟨w.heap.size,0,none⟩) 2 2) (w.alloc (.cells ([oN a,oN b].flatMap OpR.cs).toArray 77)):=by kernel_rfl
theorem opsAt_new {w:World} {S:Bset} (hS:∀ k,S k→k < w.heap.size) (l:List OpR) (hl:∀ q∈l,q.o.lk.l=[]):OpsAt S (w.alloc (.cells (l.flatMap OpR.cs).toArray 77)) (some ⟨w.heap.size,0,none⟩) l:=
 ⟨srow_new (enc:=OpR.cs) OpR.cs_len w l _ rfl,fun a e _ hk=>by
  obtain rfl:=Option.some.inj e
  have:=hS _ hk
  simp at this,fun q hq=>⟨by rw [hl q hq]; intro hn; exact absurd hn (by simp),fun _ _ hne=>absurd (hl q hq) hne⟩⟩
theorem mp_sameD (w:World):(binOp .eql 68 (.agg (⟨65536,0,0,65536,196608,65536⟩:Mp).cs.toArray) (.agg (⟨65536,0,0,65536,196608,65536⟩:Mp).cs.toArray)).run Tryz.prog w=.ok (.bool true) w:=by
 have h:=mp_eq ⟨65536,0,0,65536,196608,65536⟩ ⟨65536,0,0,65536,196608,65536⟩ w
 rw [decide_eq_true rfl] at h
 exact h
def awZ:ZZ:=⟨4,⟨3,2⟩,fun _=>False⟩
theorem roomZ {x:PSc} {n:Nat} (h:x.t.length≤10) (hn:n≤1024):n≤1024→Room awZ.2.2 x n:=fun _=>⟨hn,.inr ⟨by omega,by decide⟩⟩
theorem awake_any (w:World):Calls Tryz.prog 15 #[] w fun e w'=>e=.returned (.bool true)∧Below w.heap.size w w':=by
 go_enter Tryz.func15,Tryz.ntmps15
 go_wp2_with (fail)
 refine (new_ok (w:=w) awZ (fun _ e=>e.elim) ⟨by decide,by decide⟩ ⟨by decide,by decide⟩ ⟨by decide,by decide⟩).mono ?_
 rintro e w1 ⟨g,b,m,s,rfl,hs1,hb1,hf1,hg1⟩
 have HM1:Hid (MyS w g b m s awZ PSc.new w1):=⟨hs1,hf1,hb1⟩
 clear hs1 hb1 hf1 hg1
 go_wp2_with (fail)
 refine (new_bad (w:=w1)).mono ?_
 rintro e w2 ⟨rfl,hb2⟩
 have HM2:=Hd (HM1.out.below hb2)
 clear hb2 HM1
 go_wp2_with (first | (with_reducible show wpList _ _ _ (Oper.mk _ (Op.build _ _) _ _ _ _ :: _) _ _; first | refine wpl_build _ _ rfl rfl (by simp [go_sem]) (build_aw1 _) ?_) | (with_reducible show wpList _ _ _ (Oper.mk _ (Op.buildSlice _ _ _) _ _ _ _ :: _) _ _; refine wpl_bs _ _ _ rfl rfl (by simp [go_sem]) (bs_op3 aw1 aw2 aw3 _) ?_))
 refine (mp_shift 196608 0 w2).mono ?_
 rintro e w3 ⟨rfl,hb3⟩
 unfold Mp.v
 have HM3:=Hd (HM2.out.below hb3)
 clear hb3 HM2
 go_wp2_with (first | (with_reducible show wpList _ _ _ (Oper.mk _ (Op.build _ _) _ _ _ _ :: _) _ _; first | refine wpl_build _ _ rfl rfl (by simp [go_sem]) (build_aw2 _) ?_) | (with_reducible show wpList _ _ _ (Oper.mk _ (Op.buildSlice _ _ _) _ _ _ _ :: _) _ _; refine wpl_bs _ _ _ rfl rfl (by simp [go_sem]) (bs_op3 aw1 aw2 aw3 _) ?_))
 refine (mp_shift 0 65536 w3).mono ?_
 rintro e w4 ⟨rfl,hb4⟩
 unfold Mp.v
 have HM4:=Hd (HM3.out.below hb4)
 clear hb4 HM3
 go_wp2_with (first | (with_reducible show wpList _ _ _ (Oper.mk _ (Op.build _ _) _ _ _ _ :: _) _ _; first | refine wpl_build _ _ rfl rfl (by simp [go_sem]) (build_aw3 _) ?_) | (with_reducible show wpList _ _ _ (Oper.mk _ (Op.buildSlice _ _ _) _ _ _ _ :: _) _ _; refine wpl_bs _ _ _ rfl rfl (by simp [go_sem]) (bs_op3 aw1 aw2 aw3 _) ?_))
 have HO5:=Hd (opsAt_new (w:=w4) (S:=SFoot b m s PSc.new.t) HM4.out.at_.inside [oN aw1,oN aw2,oN aw3] (by intro q hq; simp only [List.mem_cons,List.not_mem_nil,or_false] at hq; rcases hq with rfl | rfl | rfl <;> rfl))
 rw [show [oN aw1,oN aw2,oN aw3].flatMap OpR.cs=(oN aw1).cs++((oN aw2).cs++(oN aw3).cs) from by simp] at HO5
 have HB5:Hid (Below w4.heap.size w4 (w4.alloc (.cells ((oN aw1).cs++((oN aw2).cs++(oN aw3).cs)).toArray 77))):=(Below.refl _ _).alloc (Nat.le_refl _) _
 generalize (w4.alloc (.cells ((oN aw1).cs++((oN aw2).cs++(oN aw3).cs)).toArray 77))=w5 at *
 have HM5:=Hd (HM4.out.below HB5.out)
 generalize w4.heap.size=k5 at *
 have HAP:=Hd (applied HM5.out.at_ PSc.new_sane [oN aw1,oN aw2,oN aw3] (some ⟨k5,0,none⟩) 3 HO5.out (by intro q hq; simp only [List.mem_cons,List.not_mem_nil,or_false] at hq; rcases hq with rfl | rfl | rfl <;> exact aw_ok (by simp [oN])) (roomZ (by decide) (by simp)) (by simp))
 rw [show applyS awZ.2.2 setSt PSc.new ([oN aw1,oN aw2,oN aw3].map (·.o))=(awY,3,0) from aw_apply] at HAP
 unfold ApplyQ at HAP
 refine HAP.out.mono ?_
 rintro e w6 ⟨s6,rfl,hs6,ht6⟩
 have HM6:=Hd (HM5.out.turn hs6 ht6)
 clear hs6 ht6 HAP HM5 HO5 HB5 HM4
 go_wp2_with (fail)
 refine (world_any HM6.out.at_ 1 ⟨by decide,by decide⟩).mono ?_
 rw [show has awY.t 1=true from by rw [awY_t]; decide,show wsAt awY 1=⟨65536,0,0,65536,196608,65536⟩ from by unfold wsAt; rw [awY_t,if_pos (by decide),awY_ws]]
 rintro e w7 ⟨rfl,hb7⟩
 have HM7:=Hd (HM6.out.below hb7)
 clear hb7 HM6
 have HZ7:Hid (Blk (w7.alloc (.cells #[.int .i64 0,.int .i64 0,.int .i64 0,.int .i64 0,.int .i64 0,.int .i64 0] 68)) w7.heap.size [.int .i64 0,.int .i64 0,.int .i64 0,.int .i64 0,.int .i64 0,.int .i64 0]):=blk_new w7 [.int .i64 0,.int .i64 0,.int .i64 0,.int .i64 0,.int .i64 0,.int .i64 0] _
 have HB7:Hid (Below w7.heap.size w7 (w7.alloc (.cells #[.int .i64 0,.int .i64 0,.int .i64 0,.int .i64 0,.int .i64 0,.int .i64 0] 68))):=(Below.refl _ _).alloc (Nat.le_refl _) _
 go_upto_region 7 with (first | (with_reducible show wpList _ _ _ (Oper.mk _ (Op.store _ _ _) _ _ _ _ :: _) _ _; first | (refine wpl_stow 68 _ _ rfl rfl rfl _ 0 rfl ((⟨65536,0,0,65536,196608,65536⟩:Mp).cs) rfl ([.int .i64 0,.int .i64 0,.int .i64 0,.int .i64 0,.int .i64 0,.int .i64 0]) HZ7.out ((⟨65536,0,0,65536,196608,65536⟩:Mp).cs) rfl (Nat.le_of_ble_eq_true rfl) (by kernel_rfl) (Mp.one1 _) ?_; intro w8 HW8 HK8)))
 have HM8:=Hd ((HM7.out.below (HW8.out.below HB7.out (Nat.le_refl _))))
 obtain ⟨k7,hk7⟩:∃ k7,w7.heap.size=k7:=⟨_,rfl⟩
 have HNK:Hid (¬ SFoot b m s6 awY.t k7):=fun e=>by have:=HM7.out.at_.inside _ e; omega
 rw [hk7] at HK8 ⊢
 clear hk7 HZ7 HB7 HW8 HM7
 go_wp2_with (fail)
 refine (scopy_any HM8.out.at_ (by rw [awY_t]; decide)).mono ?_
 rintro e w9 ⟨g2,b2,m2,s2,rfl,hs9,hb9,hf9,hg9⟩
 have HM9:=Hd (HM8.out.below hb9)
 have HC9:=Hd hs9
 have HK9:=Hd (HK8.out.below' hb9)
 clear hs9 hb9 hf9 hg9 HM8 HK8
 go_wp2_with (first | ((with_reducible show wpList _ _ _ (Oper.mk (some 52) (Op.build _ _) _ _ _ _ :: _) _ _); refine wpl_build _ _ rfl rfl (by simp [go_sem]) (build_aw4 _) ?_) | ((with_reducible show wpList _ _ _ (Oper.mk (some 53) (Op.build _ _) _ _ _ _ :: _) _ _); refine wpl_build _ _ rfl rfl (by simp [go_sem]) (build_aw5 _) ?_) | (with_reducible show wpList _ _ _ (Oper.mk _ (Op.buildSlice _ _ _) _ _ _ _ :: _) _ _; refine wpl_bs _ _ _ rfl rfl (by simp [go_sem]) (bs_op2 aw4 aw5 _) ?_))
 have HO10:=Hd (opsAt_new (w:=w9) (S:=SFoot b m s6 awY.t) HM9.out.at_.inside [oN aw4,oN aw5] (by intro q hq; simp only [List.mem_cons,List.not_mem_nil,or_false] at hq; rcases hq with rfl | rfl <;> rfl))
 rw [show [oN aw4,oN aw5].flatMap OpR.cs=(oN aw4).cs++(oN aw5).cs from by simp] at HO10
 have HB10:Hid (Below w9.heap.size w9 (w9.alloc (.cells ((oN aw4).cs++(oN aw5).cs).toArray 77))):=(Below.refl _ _).alloc (Nat.le_refl _) _
 generalize (w9.alloc (.cells ((oN aw4).cs++(oN aw5).cs).toArray 77))=w10 at *
 have HM10:=Hd (HM9.out.below HB10.out)
 have HC10:=Hd (HC9.out.below HB10.out)
 have HK10:=Hd (HK9.out.below' HB10.out)
 generalize w9.heap.size=k9 at *
 have HAP:=Hd (applied HM10.out.at_ awY_sane [oN aw4,oN aw5] (some ⟨k9,0,none⟩) 2 HO10.out (by intro q hq; simp only [List.mem_cons,List.not_mem_nil,or_false] at hq; rcases hq with rfl | rfl <;> exact aw_ok (by simp [oN])) (roomZ (by rw [awY_t]; decide) (by simp)) (by simp))
 rw [show applyS awZ.2.2 setSt awY ([oN aw4,oN aw5].map (·.o))=(awY,1,36) from aw_apply2 awY_t] at HAP
 unfold ApplyQ at HAP
 refine HAP.out.mono ?_
 rintro e w11 ⟨s11,rfl,hs11,ht11⟩
 have HM11:=Hd (HM10.out.turn hs11 ht11)
 have HK11:Hid (Blk w11 k7 (⟨65536,0,0,65536,196608,65536⟩:Mp).cs):=HK10.out.stays (ht11.far k7 HK10.out.inside HNK.out).2
 have HC11:Hid (SceneAt w11 g2 b2 m2 s2 ⟨awZ.1,awZ.2,fun _=>False⟩ awY):=HC10.out.part (fun k hk hn=>(ht11.far k hk fun e=>hn (.inr e)).2) fun k hk=>hk.elim
 clear hs11 ht11 HAP HM10 HO10 HB10 HM9 HC9 HC10 HK9 HK10 HNK
 go_wp2_with (fail)
 refine (node_any HM11.out.at_ awY_sane.fit 0 ⟨by decide,by decide⟩).mono ?_
 rw [show has awY.t 0=true from by rw [awY_t]; decide]
 obtain ⟨n0,hn0⟩:∃ n0,ndAt awY 0=n0:=⟨_,rfl⟩
 have HN0:Hid (n0.hi=false):=by rw [← hn0]; unfold ndAt; rw [awY_t,if_pos (by decide),awY_nd]; rfl
 rw [hn0]
 rintro e w12 ⟨A12,c12,rfl,hb12,-,-⟩
 have HM12:=Hd (HM11.out.below hb12)
 have HC12:=Hd (HC11.out.below hb12)
 have HK12:=Hd (HK11.out.below' hb12)
 clear hb12 hn0 HM11 HC11 HK11
 have HZ12:Hid (Blk (w12.alloc (.cells #[.int .i64 0,.int .i64 0,.int .i64 0,.int .i64 0,.int .i64 0,.int .i64 0,.int .i64 0,.bool false,.bool false,.int .i64 0,.int .i64 0,.int .i64 0,.int .i64 0,.int .i64 0,.int .i64 0,.int .i64 0,.int .u32 0,.int .i64 0,.int .i64 0,.slice none 0 0] 72)) w12.heap.size [.int .i64 0,.int .i64 0,.int .i64 0,.int .i64 0,.int .i64 0,.int .i64 0,.int .i64 0,.bool false,.bool false,.int .i64 0,.int .i64 0,.int .i64 0,.int .i64 0,.int .i64 0,.int .i64 0,.int .i64 0,.int .u32 0,.int .i64 0,.int .i64 0,.slice none 0 0]):=blk_new w12 [.int .i64 0,.int .i64 0,.int .i64 0,.int .i64 0,.int .i64 0,.int .i64 0,.int .i64 0,.bool false,.bool false,.int .i64 0,.int .i64 0,.int .i64 0,.int .i64 0,.int .i64 0,.int .i64 0,.int .i64 0,.int .u32 0,.int .i64 0,.int .i64 0,.slice none 0 0] _
 have HB12:Hid (Below w12.heap.size w12 (w12.alloc (.cells #[.int .i64 0,.int .i64 0,.int .i64 0,.int .i64 0,.int .i64 0,.int .i64 0,.int .i64 0,.bool false,.bool false,.int .i64 0,.int .i64 0,.int .i64 0,.int .i64 0,.int .i64 0,.int .i64 0,.int .i64 0,.int .u32 0,.int .i64 0,.int .i64 0,.slice none 0 0] 72))):=(Below.refl _ _).alloc (Nat.le_refl _) _
 go_upto_region 10 with (first | (with_reducible show wpList _ _ _ (Oper.mk _ (Op.store _ _ _) _ _ _ _ :: _) _ _; first | (refine wpl_stow 72 _ _ rfl rfl rfl _ 0 rfl (n0.cs A12 c12) rfl ([.int .i64 0,.int .i64 0,.int .i64 0,.int .i64 0,.int .i64 0,.int .i64 0,.int .i64 0,.bool false,.bool false,.int .i64 0,.int .i64 0,.int .i64 0,.int .i64 0,.int .i64 0,.int .i64 0,.int .i64 0,.int .u32 0,.int .i64 0,.int .i64 0,.slice none 0 0]) HZ12.out (n0.cs A12 c12) rfl (Nat.le_of_ble_eq_true rfl) (by kernel_rfl) (Nd.one _ _ _) ?_; intro w13 HW13 HK13)))
 have HB13:Hid (Below w12.heap.size w12 w13):=HW13.out.below HB12.out (Nat.le_refl _)
 have HM13:=Hd (HM12.out.below HB13.out)
 have HC13:=Hd (HC12.out.below HB13.out)
 have HKM:=Hd (HK12.out.below' HB13.out)
 obtain ⟨k12,hk12⟩:∃ k12,w12.heap.size=k12:=⟨_,rfl⟩
 rw [hk12] at HK13 ⊢
 clear HZ12 HB12 HW13 HM12 HC12 HK12 HB13 hk12
 have HT:Hid (awY.t=[(1,0)]):=awY_t
 have HF:Hid (∀ i,Fit (awY.nd i)):=awY_sane.fit
 have hms:=fun w=>mp_sameD w
 have HLEN:Hid (∀ W,regs.bl w13 W→Calls Tryz.prog 320 #[.pointer (some ⟨b,0,none⟩)] W fun e w'=>e=.returned (.int .i64 2)∧Below W.heap.size W w'):=fun W hb=>by
  have:=tlen (HM13.out.at_.below hb).tree
  rw [HT.out] at this
  exact this
 have HPAR:Hid (∀ W,regs.bl w13 W→Calls Tryz.prog 321 #[.pointer (some ⟨b,0,none⟩),.int .i64 1] W fun e w'=>e=.returned (.int .i64 0)∧Below W.heap.size W w'):=fun W hb=>by
  have:=tparent (HM13.out.at_.below hb).tree 1 ⟨by decide,by decide⟩
  rw [HT.out,show par [(1,0)] 1=0 from by decide] at this
  exact this
 refine regs.wp_region_put (regs.bl) (regs.noJ) [63,64,65,66,67,68,69,70,71,72,73,74,75,76,77,78,79,80,81,82,83,84,85,86,87,88,89,90,91,92,93,94,95,96,97,98,99,100,101,102,103,104,105,106,107,108,109,110,111,112,113,114,115,116,117,118,119,120,121,122,123,124,125,0] (by kernel_rfl) (by kernel_rfl) (fun _=>regs.bl_refl _) (regs.bl_trans) (fun i=>(match i with
  | 0=>regs.Say.val _ (.int .i64 3)
  | 1=>regs.Say.val _ (.bool true)
  | 2=>regs.Say.val _ (.bool true)
  | 3=>regs.Say.val _ (.int .i64 0)
  | 4=>regs.Say.val _ (.bool true)
  | 5=>regs.Say.val _ (.bool true)
  | 6=>regs.Say.val _ (.bool true)
  | 7=>regs.Say.val _ (.bool true)
  | 8=>regs.Say.val _ (.bool true)
  | 9=>regs.Say.val _ (.bool true)
  | 10=>regs.Say.val _ (.agg ((⟨65536,0,0,65536,196608,65536⟩:Mp).cs).toArray)
  | 11=>regs.Say.val _ (.agg ((⟨65536,0,0,65536,196608,65536⟩:Mp).cs).toArray)
  | 12=>regs.Say.val _ (.bool true)
  | 13=>regs.Say.val _ (.bool true)
  | 14=>regs.Say.val _ (.bool true)
  | 15=>regs.Say.val _ (.int .i64 1)
  | 16=>regs.Say.val _ (.bool true)
  | 17=>regs.Say.val _ (.bool true)
  | 18=>regs.Say.val _ (.bool true)
  | 19=>regs.Say.val _ (.int .i64 36)
  | 20=>regs.Say.val _ (.bool true)
  | 21=>regs.Say.val _ (.bool true)
  | 22=>regs.Say.val _ (.bool true)
  | 23=>regs.Say.val _ (.bool true)
  | 24=>regs.Say.val _ (.bool true)
  | 25=>regs.Say.val _ (.bool true)
  | 26=>regs.Say.val _ (.pointer (some ⟨k12,7,none⟩))
  | 27=>regs.Say.val _ (.bool false)
  | 28=>regs.Say.val _ (.bool true)
  | 29=>regs.Say.val _ (.bool true)
  | 30=>regs.Say.val _ (.bool true)
  | 31=>regs.Say.val _ (.pointer (some ⟨g,0,none⟩))
  | 32=>regs.Say.val _ (.pointer (some ⟨g,0,none⟩))
  | 33=>regs.Say.val _ (.pointer (some ⟨g,0,none⟩))
  | 34=>regs.Say.val _ (.iface 109 (.pointer (some ⟨b,0,none⟩)))
  | 35=>regs.Say.val _ (.int .i64 2)
  | 36=>regs.Say.val _ (.bool true)
  | 37=>regs.Say.val _ (.bool true)
  | 38=>regs.Say.val _ (.bool true)
  | 39=>regs.Say.val _ (.pointer (some ⟨g,0,none⟩))
  | 40=>regs.Say.val _ (.pointer (some ⟨g,0,none⟩))
  | 41=>regs.Say.val _ (.pointer (some ⟨g,0,none⟩))
  | 42=>regs.Say.val _ (.iface 109 (.pointer (some ⟨b,0,none⟩)))
  | 43=>(⟨fun v wv=>∃ g9,v=.slice (some ⟨g9,0,none⟩) 1 1∧Blk wv g9 [.int .i64 1],fun v w1 w2 h hb=>h.elim fun g9 h=>⟨g9,h.1,Blk.below' h.2 hb⟩⟩:regs.Say regs.bl)
  | 44=>regs.Say.val _ (.bool true)
  | 45=>regs.Say.val _ (.bool true)
  | 46=>regs.Say.val _ (.bool true)
  | 47=>regs.Say.val _ (.pointer (some ⟨g,0,none⟩))
  | 48=>regs.Say.val _ (.pointer (some ⟨g,0,none⟩))
  | 49=>regs.Say.val _ (.pointer (some ⟨g,0,none⟩))
  | 50=>regs.Say.val _ (.iface 109 (.pointer (some ⟨b,0,none⟩)))
  | 51=>regs.Say.val _ (.int .i64 0)
  | 52=>regs.Say.val _ (.bool true)
  | 53=>regs.Say.val _ (.bool true)
  | 54=>regs.Say.val _ (.bool true)
  | 55=>regs.Say.val _ (.pointer (some ⟨g2,0,none⟩))
  | 56=>regs.Say.val _ (.bool true)
  | 57=>regs.Say.val _ (.bool true)
  | 58=>regs.Say.val _ (.bool true)
  | 59=>regs.Say.val _ (.pointer (some ⟨g,0,none⟩))
  | 60=>regs.Say.val _ (.pointer (some ⟨g2,0,none⟩))
  | 61=>regs.Say.val _ (.bool true)
  | 62=>regs.Say.val _ (.bool true)
  | 63=>regs.Say.val _ (.bool true)
  | _=>regs.Say.any _:regs.Say (regs.bl)).p) (fun _=>regs.Say.mono _) (by kernel_rfl) ((Below.refl _ _).drew) (regs.noJ_ok _ _) ⟨?_,?_,?_,?_,?_,?_,?_,?_,?_,?_,?_,?_,?_,?_,?_,?_,?_,?_,?_,?_,?_,?_,?_,?_,?_,?_,?_,?_,?_,?_,?_,?_,?_,?_,?_,?_,?_,?_,?_,?_,?_,?_,?_,?_,?_,?_,?_,?_,?_,?_,?_,?_,?_,?_,?_,?_,?_,?_,?_,?_,?_,?_,?_,?_,trivial⟩ ?_
 ·refine regs.StepOK.plain rfl fun L a w1 hh=>?_
  have h5:a.tmps[5]?.getD undef=.int .i64 3:=rq (hh.old 5 rfl)
  have hJ:=Hd hh.st; clear hh; go_simp; exact ⟨_,rfl,regs.bl_refl _,rfl,hJ.out⟩
 ·refine regs.StepOK.plain rfl fun L a w1 hh=>?_
  have h63:=rq (hh.dep 0 63 (by kernel_rfl) (by kernel_rfl))
  have hJ:=Hd hh.st; clear hh; go_simp; exact ⟨_,rfl,regs.bl_refl _,rfl,hJ.out⟩
 ·refine regs.StepOK.plain rfl fun L a w1 hh=>?_
  have h64:=rq (hh.dep 1 64 (by kernel_rfl) (by kernel_rfl))
  have hJ:=Hd hh.st; clear hh; go_simp; exact ⟨_,rfl,regs.bl_refl _,rfl,hJ.out⟩
 ·refine regs.StepOK.yes 2 true 65 rfl rfl (fun L a w1 hh=>hh.dep 2 65 (by kernel_rfl) (by kernel_rfl)) fun L a w1 hh=>?_
  have h6:a.tmps[6]?.getD undef=.int .i64 0:=rq (hh.old 6 rfl)
  have hJ:=Hd hh.st; clear hh; go_simp; exact ⟨_,rfl,regs.bl_refl _,rfl,hJ.out⟩
 ·refine regs.StepOK.yes 2 true 65 rfl rfl (fun L a w1 hh=>hh.dep 2 65 (by kernel_rfl) (by kernel_rfl)) fun L a w1 hh=>?_
  have h66:=rq (hh.dep 3 66 (by kernel_rfl) (by kernel_rfl))
  have hJ:=Hd hh.st; clear hh; go_simp; exact ⟨_,rfl,regs.bl_refl _,rfl,hJ.out⟩
 ·refine regs.StepOK.plain rfl fun L a w1 hh=>?_
  have h65:=rq (hh.dep 2 65 (by kernel_rfl) (by kernel_rfl))
  have h67:=rq (hh.dep 4 67 (by kernel_rfl) (by kernel_rfl))
  have hJ:=Hd hh.st; clear hh; go_simp; exact ⟨_,rfl,regs.bl_refl _,rfl,hJ.out⟩
 ·refine regs.StepOK.plain rfl fun L a w1 hh=>?_
  have h68:=rq (hh.dep 5 68 (by kernel_rfl) (by kernel_rfl))
  have hJ:=Hd hh.st; clear hh; go_simp; exact ⟨_,rfl,regs.bl_refl _,rfl,hJ.out⟩
 ·refine regs.StepOK.yes 6 true 69 rfl rfl (fun L a w1 hh=>hh.dep 6 69 (by kernel_rfl) (by kernel_rfl)) fun L a w1 hh=>?_
  have h8:a.tmps[8]?.getD undef=.bool true:=rq (hh.old 8 rfl)
  have hJ:=Hd hh.st; clear hh; go_simp; exact ⟨_,rfl,regs.bl_refl _,rfl,hJ.out⟩
 ·refine regs.StepOK.plain rfl fun L a w1 hh=>?_
  have h69:=rq (hh.dep 6 69 (by kernel_rfl) (by kernel_rfl))
  have h70:=rq (hh.dep 7 70 (by kernel_rfl) (by kernel_rfl))
  have hJ:=Hd hh.st; clear hh; go_simp; exact ⟨_,rfl,regs.bl_refl _,rfl,hJ.out⟩
 ·refine regs.StepOK.plain rfl fun L a w1 hh=>?_
  have h71:=rq (hh.dep 8 71 (by kernel_rfl) (by kernel_rfl))
  have hJ:=Hd hh.st; clear hh; go_simp; exact ⟨_,rfl,regs.bl_refl _,rfl,hJ.out⟩
 ·refine regs.StepOK.yes 9 true 72 rfl rfl (fun L a w1 hh=>hh.dep 9 72 (by kernel_rfl) (by kernel_rfl)) fun L a w1 hh=>?_
  have h7:a.tmps[7]?.getD undef=.pointer (some ⟨k7,0,none⟩):=rq (hh.old 7 rfl)
  have hB:=Hd (Blk.below' HKM.out hh.rel)
  have hJ:=Hd hh.st
  exact wp_take 68 _ rfl k7 0 (by simpa [go_sem] using h7) _ hB.out ((⟨65536,0,0,65536,196608,65536⟩:Mp).cs) rfl _ Tryz.underlying68 rfl (by kernel_rfl) ⟨_,rfl,regs.bl_refl _,rfl,hJ.out⟩
 ·refine regs.StepOK.yes 9 true 72 rfl rfl (fun L a w1 hh=>hh.dep 9 72 (by kernel_rfl) (by kernel_rfl)) fun L a w1 hh=>?_
  have hC:=Hd (mp_shift 196608 65536 w1)
  have hJ:=Hd hh.st; clear hh; go_simp; refine hC.out.mono ?_
  rintro e w9 ⟨rfl,hb9⟩
  exact ⟨_,rfl,hb9,rfl,hJ.out⟩
 ·refine regs.StepOK.yes 9 true 72 rfl rfl (fun L a w1 hh=>hh.dep 9 72 (by kernel_rfl) (by kernel_rfl)) fun L a w1 hh=>?_
  have h73:=rq (hh.dep 10 73 (by kernel_rfl) (by kernel_rfl))
  have h74:=rq (hh.dep 11 74 (by kernel_rfl) (by kernel_rfl))
  have hJ:=Hd hh.st; clear hh; go_simp; exact ⟨_,rfl,regs.bl_refl _,rfl,hJ.out⟩
 ·refine regs.StepOK.plain rfl fun L a w1 hh=>?_
  have h72:=rq (hh.dep 9 72 (by kernel_rfl) (by kernel_rfl))
  have h75:=rq (hh.dep 12 75 (by kernel_rfl) (by kernel_rfl))
  have hJ:=Hd hh.st; clear hh; go_simp; exact ⟨_,rfl,regs.bl_refl _,rfl,hJ.out⟩
 ·refine regs.StepOK.plain rfl fun L a w1 hh=>?_
  have h76:=rq (hh.dep 13 76 (by kernel_rfl) (by kernel_rfl))
  have hJ:=Hd hh.st; clear hh; go_simp; exact ⟨_,rfl,regs.bl_refl _,rfl,hJ.out⟩
 ·refine regs.StepOK.yes 14 true 77 rfl rfl (fun L a w1 hh=>hh.dep 14 77 (by kernel_rfl) (by kernel_rfl)) fun L a w1 hh=>?_
  have h10:a.tmps[10]?.getD undef=.int .i64 1:=rq (hh.old 10 rfl)
  have hJ:=Hd hh.st; clear hh; go_simp; exact ⟨_,rfl,regs.bl_refl _,rfl,hJ.out⟩
 ·refine regs.StepOK.yes 14 true 77 rfl rfl (fun L a w1 hh=>hh.dep 14 77 (by kernel_rfl) (by kernel_rfl)) fun L a w1 hh=>?_
  have h78:=rq (hh.dep 15 78 (by kernel_rfl) (by kernel_rfl))
  have hJ:=Hd hh.st; clear hh; go_simp; exact ⟨_,rfl,regs.bl_refl _,rfl,hJ.out⟩
 ·refine regs.StepOK.plain rfl fun L a w1 hh=>?_
  have h77:=rq (hh.dep 14 77 (by kernel_rfl) (by kernel_rfl))
  have h79:=rq (hh.dep 16 79 (by kernel_rfl) (by kernel_rfl))
  have hJ:=Hd hh.st; clear hh; go_simp; exact ⟨_,rfl,regs.bl_refl _,rfl,hJ.out⟩
 ·refine regs.StepOK.plain rfl fun L a w1 hh=>?_
  have h80:=rq (hh.dep 17 80 (by kernel_rfl) (by kernel_rfl))
  have hJ:=Hd hh.st; clear hh; go_simp; exact ⟨_,rfl,regs.bl_refl _,rfl,hJ.out⟩
 ·refine regs.StepOK.yes 18 true 81 rfl rfl (fun L a w1 hh=>hh.dep 18 81 (by kernel_rfl) (by kernel_rfl)) fun L a w1 hh=>?_
  have h11:a.tmps[11]?.getD undef=.int .i64 36:=rq (hh.old 11 rfl)
  have hJ:=Hd hh.st; clear hh; go_simp; exact ⟨_,rfl,regs.bl_refl _,rfl,hJ.out⟩
 ·refine regs.StepOK.yes 18 true 81 rfl rfl (fun L a w1 hh=>hh.dep 18 81 (by kernel_rfl) (by kernel_rfl)) fun L a w1 hh=>?_
  have h82:=rq (hh.dep 19 82 (by kernel_rfl) (by kernel_rfl))
  have hJ:=Hd hh.st; clear hh; go_simp; exact ⟨_,rfl,regs.bl_refl _,rfl,hJ.out⟩
 ·refine regs.StepOK.plain rfl fun L a w1 hh=>?_
  have h81:=rq (hh.dep 18 81 (by kernel_rfl) (by kernel_rfl))
  have h83:=rq (hh.dep 20 83 (by kernel_rfl) (by kernel_rfl))
  have hJ:=Hd hh.st; clear hh; go_simp; exact ⟨_,rfl,regs.bl_refl _,rfl,hJ.out⟩
 ·refine regs.StepOK.plain rfl fun L a w1 hh=>?_
  have h84:=rq (hh.dep 21 84 (by kernel_rfl) (by kernel_rfl))
  have hJ:=Hd hh.st; clear hh; go_simp; exact ⟨_,rfl,regs.bl_refl _,rfl,hJ.out⟩
 ·refine regs.StepOK.yes 22 true 85 rfl rfl (fun L a w1 hh=>hh.dep 22 85 (by kernel_rfl) (by kernel_rfl)) fun L a w1 hh=>?_
  have h13:a.tmps[13]?.getD undef=.bool true:=rq (hh.old 13 rfl)
  have hJ:=Hd hh.st; clear hh; go_simp; exact ⟨_,rfl,regs.bl_refl _,rfl,hJ.out⟩
 ·refine regs.StepOK.plain rfl fun L a w1 hh=>?_
  have h85:=rq (hh.dep 22 85 (by kernel_rfl) (by kernel_rfl))
  have h86:=rq (hh.dep 23 86 (by kernel_rfl) (by kernel_rfl))
  have hJ:=Hd hh.st; clear hh; go_simp; exact ⟨_,rfl,regs.bl_refl _,rfl,hJ.out⟩
 ·refine regs.StepOK.plain rfl fun L a w1 hh=>?_
  have h87:=rq (hh.dep 24 87 (by kernel_rfl) (by kernel_rfl))
  have hJ:=Hd hh.st; clear hh; go_simp; exact ⟨_,rfl,regs.bl_refl _,rfl,hJ.out⟩
 ·refine regs.StepOK.yes 25 true 88 rfl rfl (fun L a w1 hh=>hh.dep 25 88 (by kernel_rfl) (by kernel_rfl)) fun L a w1 hh=>?_
  have h12:a.tmps[12]?.getD undef=.pointer (some ⟨k12,0,none⟩):=rq (hh.old 12 rfl)
  have i0:=(Blk.below' HK13.out hh.rel).inside
  have hJ:=Hd hh.st; clear hh; go_simp; exact ⟨_,rfl,regs.bl_refl _,rfl,hJ.out⟩
 ·refine regs.StepOK.yes 25 true 88 rfl rfl (fun L a w1 hh=>hh.dep 25 88 (by kernel_rfl) (by kernel_rfl)) fun L a w1 hh=>?_
  have h89:=rq (hh.dep 26 89 (by kernel_rfl) (by kernel_rfl))
  have hB:=Hd (Blk.below' HK13.out hh.rel)
  have c0:w1.cell? ⟨k12,7,none⟩=some (.bool n0.hi):=hB.out.cell 7
  rw [HN0.out] at c0
  have i0:=hB.out.inside
  have hJ:=Hd hh.st; clear hh; go_simp; exact ⟨_,rfl,regs.bl_refl _,rfl,hJ.out⟩
 ·refine regs.StepOK.yes 25 true 88 rfl rfl (fun L a w1 hh=>hh.dep 25 88 (by kernel_rfl) (by kernel_rfl)) fun L a w1 hh=>?_
  have h90:=rq (hh.dep 27 90 (by kernel_rfl) (by kernel_rfl))
  have hJ:=Hd hh.st; clear hh; go_simp; exact ⟨_,rfl,regs.bl_refl _,rfl,hJ.out⟩
 ·refine regs.StepOK.plain rfl fun L a w1 hh=>?_
  have h88:=rq (hh.dep 25 88 (by kernel_rfl) (by kernel_rfl))
  have h91:=rq (hh.dep 28 91 (by kernel_rfl) (by kernel_rfl))
  have hJ:=Hd hh.st; clear hh; go_simp; exact ⟨_,rfl,regs.bl_refl _,rfl,hJ.out⟩
 ·refine regs.StepOK.plain rfl fun L a w1 hh=>?_
  have h92:=rq (hh.dep 29 92 (by kernel_rfl) (by kernel_rfl))
  have hJ:=Hd hh.st; clear hh; go_simp; exact ⟨_,rfl,regs.bl_refl _,rfl,hJ.out⟩
 ·refine regs.StepOK.yes 30 true 93 rfl rfl (fun L a w1 hh=>hh.dep 30 93 (by kernel_rfl) (by kernel_rfl)) fun L a w1 hh=>?_
  have h1:a.tmps[1]?.getD undef=.pointer (some ⟨g,0,none⟩):=rq (hh.old 1 rfl)
  have hJ:=Hd hh.st; clear hh; go_simp; exact ⟨_,rfl,regs.bl_refl _,rfl,hJ.out⟩
 ·refine regs.StepOK.yes 30 true 93 rfl rfl (fun L a w1 hh=>hh.dep 30 93 (by kernel_rfl) (by kernel_rfl)) fun L a w1 hh=>?_
  have h94:=rq (hh.dep 31 94 (by kernel_rfl) (by kernel_rfl))
  have hJ:=Hd hh.st; clear hh; go_simp; exact ⟨_,rfl,regs.bl_refl _,rfl,hJ.out⟩
 ·refine regs.StepOK.yes 30 true 93 rfl rfl (fun L a w1 hh=>hh.dep 30 93 (by kernel_rfl) (by kernel_rfl)) fun L a w1 hh=>?_
  have h95:=rq (hh.dep 32 95 (by kernel_rfl) (by kernel_rfl))
  have i0:=((HM13.out.at_.below hh.rel).blk.blk).inside
  have hJ:=Hd hh.st; clear hh; go_simp; exact ⟨_,rfl,regs.bl_refl _,rfl,hJ.out⟩
 ·refine regs.StepOK.yes 30 true 93 rfl rfl (fun L a w1 hh=>hh.dep 30 93 (by kernel_rfl) (by kernel_rfl)) fun L a w1 hh=>?_
  have h96:=rq (hh.dep 33 96 (by kernel_rfl) (by kernel_rfl))
  have hB:=Hd ((HM13.out.at_.below hh.rel).blk.blk)
  have c0:w1.cell? ⟨g,0,none⟩=some (.iface 109 (.pointer (some ⟨b,0,none⟩))):=hB.out.cell 0
  have i0:=hB.out.inside
  have hJ:=Hd hh.st; clear hh; go_simp; exact ⟨_,rfl,regs.bl_refl _,rfl,hJ.out⟩
 ·refine regs.StepOK.yes 30 true 93 rfl rfl (fun L a w1 hh=>hh.dep 30 93 (by kernel_rfl) (by kernel_rfl)) fun L a w1 hh=>?_
  have h97:=rq (hh.dep 34 97 (by kernel_rfl) (by kernel_rfl))
  have hinv:=inv_len (.pointer (some ⟨b,0,none⟩))
  have hC:=Hd (HLEN.out _ hh.rel)
  have hJ:=Hd hh.st; clear hh; go_simp; refine hC.out.mono ?_
  rintro e w9 ⟨rfl,hb9⟩
  exact ⟨_,rfl,hb9,rfl,hJ.out⟩
 ·refine regs.StepOK.yes 30 true 93 rfl rfl (fun L a w1 hh=>hh.dep 30 93 (by kernel_rfl) (by kernel_rfl)) fun L a w1 hh=>?_
  have h98:=rq (hh.dep 35 98 (by kernel_rfl) (by kernel_rfl))
  have hJ:=Hd hh.st; clear hh; go_simp; exact ⟨_,rfl,regs.bl_refl _,rfl,hJ.out⟩
 ·refine regs.StepOK.plain rfl fun L a w1 hh=>?_
  have h93:=rq (hh.dep 30 93 (by kernel_rfl) (by kernel_rfl))
  have h99:=rq (hh.dep 36 99 (by kernel_rfl) (by kernel_rfl))
  have hJ:=Hd hh.st; clear hh; go_simp; exact ⟨_,rfl,regs.bl_refl _,rfl,hJ.out⟩
 ·refine regs.StepOK.plain rfl fun L a w1 hh=>?_
  have h100:=rq (hh.dep 37 100 (by kernel_rfl) (by kernel_rfl))
  have hJ:=Hd hh.st; clear hh; go_simp; exact ⟨_,rfl,regs.bl_refl _,rfl,hJ.out⟩
 ·refine regs.StepOK.yes 38 true 101 rfl rfl (fun L a w1 hh=>hh.dep 38 101 (by kernel_rfl) (by kernel_rfl)) fun L a w1 hh=>?_
  have h1:a.tmps[1]?.getD undef=.pointer (some ⟨g,0,none⟩):=rq (hh.old 1 rfl)
  have hJ:=Hd hh.st; clear hh; go_simp; exact ⟨_,rfl,regs.bl_refl _,rfl,hJ.out⟩
 ·refine regs.StepOK.yes 38 true 101 rfl rfl (fun L a w1 hh=>hh.dep 38 101 (by kernel_rfl) (by kernel_rfl)) fun L a w1 hh=>?_
  have h102:=rq (hh.dep 39 102 (by kernel_rfl) (by kernel_rfl))
  have hJ:=Hd hh.st; clear hh; go_simp; exact ⟨_,rfl,regs.bl_refl _,rfl,hJ.out⟩
 ·refine regs.StepOK.yes 38 true 101 rfl rfl (fun L a w1 hh=>hh.dep 38 101 (by kernel_rfl) (by kernel_rfl)) fun L a w1 hh=>?_
  have h103:=rq (hh.dep 40 103 (by kernel_rfl) (by kernel_rfl))
  have i0:=((HM13.out.at_.below hh.rel).blk.blk).inside
  have hJ:=Hd hh.st; clear hh; go_simp; exact ⟨_,rfl,regs.bl_refl _,rfl,hJ.out⟩
 ·refine regs.StepOK.yes 38 true 101 rfl rfl (fun L a w1 hh=>hh.dep 38 101 (by kernel_rfl) (by kernel_rfl)) fun L a w1 hh=>?_
  have h104:=rq (hh.dep 41 104 (by kernel_rfl) (by kernel_rfl))
  have hB:=Hd ((HM13.out.at_.below hh.rel).blk.blk)
  have c0:w1.cell? ⟨g,0,none⟩=some (.iface 109 (.pointer (some ⟨b,0,none⟩))):=hB.out.cell 0
  have i0:=hB.out.inside
  have hJ:=Hd hh.st; clear hh; go_simp; exact ⟨_,rfl,regs.bl_refl _,rfl,hJ.out⟩
 ·refine regs.StepOK.yes 38 true 101 rfl rfl (fun L a w1 hh=>hh.dep 38 101 (by kernel_rfl) (by kernel_rfl)) fun L a w1 hh=>?_
  have hJ:=Hd hh.st
  clear hh
  exact wp_bs _ _ _ rfl (by simp [go_sem]) (bs_int1 1 w1) ⟨_,rfl,(Below.refl _ _).alloc (Nat.le_refl _) _,⟨_,rfl,blk_new w1 [.int .i64 1] _⟩,hJ.out⟩
 ·refine regs.StepOK.yes 38 true 101 rfl rfl (fun L a w1 hh=>hh.dep 38 101 (by kernel_rfl) (by kernel_rfl)) fun L a w1 hh=>?_
  have h105:=rq (hh.dep 42 105 (by kernel_rfl) (by kernel_rfl))
  obtain ⟨g9,e9,hB9⟩:=(show ∃ g9,(a.tmps.getD 106 undef)=.slice (some ⟨g9,0,none⟩) 1 1∧Blk w1 g9 [.int .i64 1] from hh.dep 43 106 (by kernel_rfl) (by kernel_rfl))
  have h106:a.tmps[106]?.getD undef=.slice (some ⟨g9,0,none⟩) 1 1:=rq (e9)
  have hinv:=inv_has (.pointer (some ⟨b,0,none⟩))
  have hC:=Hd (thas (HM13.out.at_.below hh.rel).tree (some ⟨g9,0,none⟩) [1] 1 (fun _=>⟨g9,0,rfl,fun j hj=>by have:j=0:=(by simp at hj; omega); subst this; exact hB9.cell 0⟩) (fun z hz=>by rw [List.mem_singleton.1 hz]; exact ⟨by decide,by decide⟩) (by simp))
  rw [show ([1].all (has awY.t))=true from by rw [HT.out]; decide] at hC
  clear e9 hB9
  have hJ:=Hd hh.st; clear hh; go_simp; refine hC.out.mono ?_
  rintro e w9 ⟨rfl,hb9⟩
  exact ⟨_,rfl,hb9,rfl,hJ.out⟩
 ·refine regs.StepOK.plain rfl fun L a w1 hh=>?_
  have h101:=rq (hh.dep 38 101 (by kernel_rfl) (by kernel_rfl))
  have h107:=rq (hh.dep 44 107 (by kernel_rfl) (by kernel_rfl))
  have hJ:=Hd hh.st; clear hh; go_simp; exact ⟨_,rfl,regs.bl_refl _,rfl,hJ.out⟩
 ·refine regs.StepOK.plain rfl fun L a w1 hh=>?_
  have h108:=rq (hh.dep 45 108 (by kernel_rfl) (by kernel_rfl))
  have hJ:=Hd hh.st; clear hh; go_simp; exact ⟨_,rfl,regs.bl_refl _,rfl,hJ.out⟩
 ·refine regs.StepOK.yes 46 true 109 rfl rfl (fun L a w1 hh=>hh.dep 46 109 (by kernel_rfl) (by kernel_rfl)) fun L a w1 hh=>?_
  have h1:a.tmps[1]?.getD undef=.pointer (some ⟨g,0,none⟩):=rq (hh.old 1 rfl)
  have hJ:=Hd hh.st; clear hh; go_simp; exact ⟨_,rfl,regs.bl_refl _,rfl,hJ.out⟩
 ·refine regs.StepOK.yes 46 true 109 rfl rfl (fun L a w1 hh=>hh.dep 46 109 (by kernel_rfl) (by kernel_rfl)) fun L a w1 hh=>?_
  have h110:=rq (hh.dep 47 110 (by kernel_rfl) (by kernel_rfl))
  have hJ:=Hd hh.st; clear hh; go_simp; exact ⟨_,rfl,regs.bl_refl _,rfl,hJ.out⟩
 ·refine regs.StepOK.yes 46 true 109 rfl rfl (fun L a w1 hh=>hh.dep 46 109 (by kernel_rfl) (by kernel_rfl)) fun L a w1 hh=>?_
  have h111:=rq (hh.dep 48 111 (by kernel_rfl) (by kernel_rfl))
  have i0:=((HM13.out.at_.below hh.rel).blk.blk).inside
  have hJ:=Hd hh.st; clear hh; go_simp; exact ⟨_,rfl,regs.bl_refl _,rfl,hJ.out⟩
 ·refine regs.StepOK.yes 46 true 109 rfl rfl (fun L a w1 hh=>hh.dep 46 109 (by kernel_rfl) (by kernel_rfl)) fun L a w1 hh=>?_
  have h112:=rq (hh.dep 49 112 (by kernel_rfl) (by kernel_rfl))
  have hB:=Hd ((HM13.out.at_.below hh.rel).blk.blk)
  have c0:w1.cell? ⟨g,0,none⟩=some (.iface 109 (.pointer (some ⟨b,0,none⟩))):=hB.out.cell 0
  have i0:=hB.out.inside
  have hJ:=Hd hh.st; clear hh; go_simp; exact ⟨_,rfl,regs.bl_refl _,rfl,hJ.out⟩
 ·refine regs.StepOK.yes 46 true 109 rfl rfl (fun L a w1 hh=>hh.dep 46 109 (by kernel_rfl) (by kernel_rfl)) fun L a w1 hh=>?_
  have h113:=rq (hh.dep 50 113 (by kernel_rfl) (by kernel_rfl))
  have hinv:=inv_parent (.pointer (some ⟨b,0,none⟩))
  have hC:=Hd (HPAR.out _ hh.rel)
  have hJ:=Hd hh.st; clear hh; go_simp; refine hC.out.mono ?_
  rintro e w9 ⟨rfl,hb9⟩
  exact ⟨_,rfl,hb9,rfl,hJ.out⟩
 ·refine regs.StepOK.yes 46 true 109 rfl rfl (fun L a w1 hh=>hh.dep 46 109 (by kernel_rfl) (by kernel_rfl)) fun L a w1 hh=>?_
  have h114:=rq (hh.dep 51 114 (by kernel_rfl) (by kernel_rfl))
  have hJ:=Hd hh.st; clear hh; go_simp; exact ⟨_,rfl,regs.bl_refl _,rfl,hJ.out⟩
 ·refine regs.StepOK.plain rfl fun L a w1 hh=>?_
  have h109:=rq (hh.dep 46 109 (by kernel_rfl) (by kernel_rfl))
  have h115:=rq (hh.dep 52 115 (by kernel_rfl) (by kernel_rfl))
  have hJ:=Hd hh.st; clear hh; go_simp; exact ⟨_,rfl,regs.bl_refl _,rfl,hJ.out⟩
 ·refine regs.StepOK.plain rfl fun L a w1 hh=>?_
  have h116:=rq (hh.dep 53 116 (by kernel_rfl) (by kernel_rfl))
  have hJ:=Hd hh.st; clear hh; go_simp; exact ⟨_,rfl,regs.bl_refl _,rfl,hJ.out⟩
 ·refine regs.StepOK.yes 54 true 117 rfl rfl (fun L a w1 hh=>hh.dep 54 117 (by kernel_rfl) (by kernel_rfl)) fun L a w1 hh=>?_
  have h9:a.tmps[9]?.getD undef=.pointer (some ⟨g2,0,none⟩):=rq (hh.old 9 rfl)
  have hJ:=Hd hh.st; clear hh; go_simp; exact ⟨_,rfl,regs.bl_refl _,rfl,hJ.out⟩
 ·refine regs.StepOK.yes 54 true 117 rfl rfl (fun L a w1 hh=>hh.dep 54 117 (by kernel_rfl) (by kernel_rfl)) fun L a w1 hh=>?_
  have h118:=rq (hh.dep 55 118 (by kernel_rfl) (by kernel_rfl))
  have hJ:=Hd hh.st; clear hh; go_simp; exact ⟨_,rfl,regs.bl_refl _,rfl,hJ.out⟩
 ·refine regs.StepOK.plain rfl fun L a w1 hh=>?_
  have h117:=rq (hh.dep 54 117 (by kernel_rfl) (by kernel_rfl))
  have h119:=rq (hh.dep 56 119 (by kernel_rfl) (by kernel_rfl))
  have hJ:=Hd hh.st; clear hh; go_simp; exact ⟨_,rfl,regs.bl_refl _,rfl,hJ.out⟩
 ·refine regs.StepOK.plain rfl fun L a w1 hh=>?_
  have h120:=rq (hh.dep 57 120 (by kernel_rfl) (by kernel_rfl))
  have hJ:=Hd hh.st; clear hh; go_simp; exact ⟨_,rfl,regs.bl_refl _,rfl,hJ.out⟩
 ·refine regs.StepOK.yes 58 true 121 rfl rfl (fun L a w1 hh=>hh.dep 58 121 (by kernel_rfl) (by kernel_rfl)) fun L a w1 hh=>?_
  have h1:a.tmps[1]?.getD undef=.pointer (some ⟨g,0,none⟩):=rq (hh.old 1 rfl)
  have hJ:=Hd hh.st; clear hh; go_simp; exact ⟨_,rfl,regs.bl_refl _,rfl,hJ.out⟩
 ·refine regs.StepOK.yes 58 true 121 rfl rfl (fun L a w1 hh=>hh.dep 58 121 (by kernel_rfl) (by kernel_rfl)) fun L a w1 hh=>?_
  have h9:a.tmps[9]?.getD undef=.pointer (some ⟨g2,0,none⟩):=rq (hh.old 9 rfl)
  have hJ:=Hd hh.st; clear hh; go_simp; exact ⟨_,rfl,regs.bl_refl _,rfl,hJ.out⟩
 ·refine regs.StepOK.yes 58 true 121 rfl rfl (fun L a w1 hh=>hh.dep 58 121 (by kernel_rfl) (by kernel_rfl)) fun L a w1 hh=>?_
  have h122:=rq (hh.dep 59 122 (by kernel_rfl) (by kernel_rfl))
  have h123:=rq (hh.dep 60 123 (by kernel_rfl) (by kernel_rfl))
  have hC:=Hd (sequal (HM13.out.at_.below hh.rel) (HC13.out.below hh.rel) HF.out HF.out (by rw [HT.out]; decide) (by rw [HT.out]; decide) ⟨rfl,rfl⟩)
  unfold EqQ at hC
  have hJ:=Hd hh.st; clear hh; go_simp; refine hC.out.mono ?_
  rintro e w9 ⟨r9,rfl,hr9,hb9⟩
  obtain rfl:r9=true:=hr9.2 (same_self _)
  exact ⟨_,rfl,hb9,rfl,hJ.out⟩
 ·refine regs.StepOK.plain rfl fun L a w1 hh=>?_
  have h121:=rq (hh.dep 58 121 (by kernel_rfl) (by kernel_rfl))
  have h124:=rq (hh.dep 61 124 (by kernel_rfl) (by kernel_rfl))
  have hJ:=Hd hh.st; clear hh; go_simp; exact ⟨_,rfl,regs.bl_refl _,rfl,hJ.out⟩
 ·refine regs.StepOK.plain rfl fun L a w1 hh=>?_
  have h125:=rq (hh.dep 62 125 (by kernel_rfl) (by kernel_rfl))
  have hJ:=Hd hh.st; clear hh; go_simp; exact ⟨_,rfl,regs.bl_refl _,rfl,hJ.out⟩
 intro L w14 val hL hJ hR hv
 have h0:val 0=.bool true:=hv 63 0 (by kernel_rfl)
 have HR14:=Hd hR
 clear hv hL hJ hR
 simp only [regs.putAll,List.map_cons,List.map_nil,h0]
 simp only [Act.put,List.setIfInBounds_toArray,List.set_cons_zero,List.set_cons_succ]
 clear h0
 generalize val 63=v63,val 64=v64,val 65=v65,val 66=v66,val 67=v67,val 68=v68,val 69=v69,val 70=v70,val 71=v71,val 72=v72,val 73=v73,val 74=v74,val 75=v75,val 76=v76,val 77=v77,val 78=v78,val 79=v79,val 80=v80,val 81=v81,val 82=v82,val 83=v83,val 84=v84,val 85=v85,val 86=v86,val 87=v87,val 88=v88,val 89=v89,val 90=v90,val 91=v91,val 92=v92,val 93=v93,val 94=v94,val 95=v95,val 96=v96,val 97=v97,val 98=v98,val 99=v99,val 100=v100,val 101=v101,val 102=v102,val 103=v103,val 104=v104,val 105=v105,val 106=v106,val 107=v107,val 108=v108,val 109=v109,val 110=v110,val 111=v111,val 112=v112,val 113=v113,val 114=v114,val 115=v115,val 116=v116,val 117=v117,val 118=v118,val 119=v119,val 120=v120,val 121=v121,val 122=v122,val 123=v123,val 124=v124,val 125=v125 at *
 go_wp2_with (fail)
 go_ret
 exact ⟨rfl,HM13.out.bel.trans (HR14.out.mono HM13.out.bel.size)⟩
end Go.Proofs.YthpifjcddgmjnaaGreat
namespace Go.Proofs.YthpifjcddgmjnaaGreat
open Go.RowKit pxm imm trm Go.Maps
abbrev tDoc:TypeId:=34
abbrev tDNs:TypeId:=32
structure PxR (w:World) (A:Option Addr) (l:List Nat):Prop where
 row:Row eW w A l
 typ:∀ a,A=some a→l≠[]→∃ cs fz,w.heap[a.block]?=some (.cells cs 52 fz)
theorem PxR.stays {w w':World} {A:Option Addr} {l:List Nat} (h:PxR w A l) (hb:∀ a,A=some a→l≠[]→w'.heap[a.block]?=w.heap[a.block]?):PxR w' A l:=⟨Row.stays h.row hb,fun a ea hne=>by rw [hb a ea hne]; exact h.typ a ea hne⟩
theorem PxR.below {w w':World} {A:Option Addr} {l:List Nat} (h:PxR w A l) (hb:Below w.heap.size w w'):PxR w' A l:=h.stays fun _ ea hne=>hb.block _ (Row.lt h.row ea hne)
theorem PxR.none_ {w:World} {A:Option Addr} {l:List Nat} (h:l.length=0):PxR w A l:=⟨Row.none_ h,fun _ _ hne=>absurd (List.eq_nil_of_length_eq_zero h) hne⟩
def DPl (w:World) (v:Value) (n:Nd):Prop:=∃ A c,v=n.v A c∧PxR w A n.lk.l
theorem DPl.below {w w':World} {v:Value} {n:Nd} (h:DPl w v n) (hb:Below w.heap.size w w'):DPl w' v n:=by
 obtain ⟨A,c,e,hr⟩:=h
 exact ⟨A,c,e,hr.below hb⟩
structure DMap (w:World) (m:Nat) (H:Int→Bool) (nd:Int→Nd):Prop where
 ex:∃ es,VM w m es∧(∀ i,omap.look es i≠none→H i=true)∧∀ i,H i=true→∃ v,omap.look es i=some v∧DPl w v (nd i)
theorem DMap.below {w w':World} {m:Nat} {H:Int→Bool} {nd:Int→Nd} (h:DMap w m H nd) (hb:Below w.heap.size w w'):DMap w' m H nd:=by
 obtain ⟨es,h1,h2,h3⟩:=h.ex
 exact ⟨es,h1.below hb,h2,fun i hi=>by
  obtain ⟨v,e,hv⟩:=h3 i hi
  exact ⟨v,e,hv.below hb⟩⟩
theorem DMap.inside {w:World} {m:Nat} {H:Int→Bool} {nd:Int→Nd} (h:DMap w m H nd):m < w.heap.size:=h.ex.elim fun _ h=>h.1.inside
theorem look_put0 (i:Int) (v:Value) (j:Int):omap.look (omap.put lt i v []) j=if j=i then some v else none:=by
 show omap.look [(i,v)] j=_
 rw [omap.look_cons]
 by_cases e:j=i
 ·rw [if_pos e,if_pos e.symm]
 ·rw [if_neg e,if_neg fun h=>e h.symm]; rfl
def DocAt (w:World) (v:Value) (a b M:Int) (x:PSc):Prop:=∃ tv m,v=.agg #[.int .i64 a,.int .i64 b,.int .i64 M,tv,.map (some m)]∧DTree w tv x.t∧DMap w m (has x.t) x.nd
theorem DocAt.below {w w':World} {v:Value} {a b M:Int} {x:PSc} (h:DocAt w v a b M x) (hb:Below w.heap.size w w'):DocAt w' v a b M x:=by
 obtain ⟨tv,m,e,h1,h2⟩:=h
 exact ⟨tv,m,e,h1.below hb,h2.below hb⟩
theorem build_dp1 (w:World):(Instr.build 50 #[(0,.int .i64 65536),(1,.int .i64 0),(2,.int .i64 0),(3,.int .i64 65536),(4,.int .i64 0),(5,.int .i64 0)]).run Tryz.prog w=.ok (.agg Mp.one.cs.toArray) w:=by kernel_rfl
theorem build_dp2 (w:World):(Instr.build 57 #[(0,.agg Mp.one.cs.toArray),(1,.int .i64 255)]).run Tryz.prog w=.ok (.agg (Nd.plain.cs none 0).toArray) w:=by kernel_rfl
theorem build_doc (a b M:Int) (A:Option Addr) (n c m:Nat) (w:World):(Instr.build tDoc #[(0,.int .i64 a),(1,.int .i64 b),(2,.int .i64 M),(3,.slice A n c),(4,.map (some m))]).run Tryz.prog w=.ok (.agg #[.int .i64 a,.int .i64 b,.int .i64 M,.slice A n c,.map (some m)]) w:=by kernel_rfl
theorem make_dns (w:World):(Instr.makeMap tDNs none).run Tryz.prog w=.ok (.map (some w.heap.size)) (w.alloc (.map #[] 0)):=rfl
theorem dplain_any (w:World):Calls Tryz.prog 58 #[] w fun e w'=>e=.returned (.agg (Nd.plain.cs none 0).toArray)∧Below w.heap.size w w':=by
 go_enter Tryz.func58,Tryz.ntmps58
 have HZ:Hid (Blk (w.alloc (.cells #[.int .i64 0,.int .i64 0,.int .i64 0,.int .i64 0,.int .i64 0,.int .i64 0,.int .i64 0,.bool false,.bool false,.int .i64 0,.int .i64 0,.int .i64 0,.int .i64 0,.int .i64 0,.int .i64 0,.int .i64 0,.int .u32 0,.int .i64 0,.int .i64 0,.slice none 0 0] 57)) w.heap.size [.int .i64 0,.int .i64 0,.int .i64 0,.int .i64 0,.int .i64 0,.int .i64 0,.int .i64 0,.bool false,.bool false,.int .i64 0,.int .i64 0,.int .i64 0,.int .i64 0,.int .i64 0,.int .i64 0,.int .i64 0,.int .u32 0,.int .i64 0,.int .i64 0,.slice none 0 0]):=blk_new w [.int .i64 0,.int .i64 0,.int .i64 0,.int .i64 0,.int .i64 0,.int .i64 0,.int .i64 0,.bool false,.bool false,.int .i64 0,.int .i64 0,.int .i64 0,.int .i64 0,.int .i64 0,.int .i64 0,.int .i64 0,.int .u32 0,.int .i64 0,.int .i64 0,.slice none 0 0] _
 have HB:Hid (Below w.heap.size w (w.alloc (.cells #[.int .i64 0,.int .i64 0,.int .i64 0,.int .i64 0,.int .i64 0,.int .i64 0,.int .i64 0,.bool false,.bool false,.int .i64 0,.int .i64 0,.int .i64 0,.int .i64 0,.int .i64 0,.int .i64 0,.int .i64 0,.int .u32 0,.int .i64 0,.int .i64 0,.slice none 0 0] 57))):=(Below.refl _ _).alloc (Nat.le_refl _) _
 go_wp2_with (first | (with_reducible show wpList _ _ _ (Oper.mk _ (Op.build _ _) _ _ _ _ :: _) _ _; refine wpl_build _ _ rfl rfl (by simp [go_sem]) (build_dp1 _) ?_) | (with_reducible show wpList _ _ _ (Oper.mk _ (Op.build _ _) _ _ _ _ :: _) _ _; refine wpl_build _ _ rfl rfl (by simp [go_sem]) (build_dp2 _) ?_) | (first | (with_reducible show wpList _ _ _ (Oper.mk _ (Op.store _ _ _) _ _ _ _ :: _) _ _; first | (refine wpl_stow 57 _ _ rfl rfl rfl _ 0 rfl (Nd.plain.cs none 0) rfl ([.int .i64 0,.int .i64 0,.int .i64 0,.int .i64 0,.int .i64 0,.int .i64 0,.int .i64 0,.bool false,.bool false,.int .i64 0,.int .i64 0,.int .i64 0,.int .i64 0,.int .i64 0,.int .i64 0,.int .i64 0,.int .u32 0,.int .i64 0,.int .i64 0,.slice none 0 0]) HZ.out (Nd.plain.cs none 0) rfl (Nat.le_of_ble_eq_true rfl) (by kernel_rfl) (Nd.one _ _ _) ?_; intro w1 HW1 HK1))))
 exact blk_ret rfl rfl HK1.out Tryz.underlying57 rfl (by kernel_rfl) ⟨rfl,HW1.out.below HB.out (Nat.le_refl _)⟩
theorem dnew_any (a b M:Int) (w:World):Calls Tryz.prog 17 #[.int .i64 a,.int .i64 b,.int .i64 M] w fun e w'=>∃ v,e=.returned v∧DocAt w' v a b M PSc.new∧Below w.heap.size w w':=by
 go_enter Tryz.func17,Tryz.ntmps17
 go_upto_region 1 with (fail)
 have HZ:Hid (Blk (w.alloc (.cells #[.int .i64 0,.int .i64 0,.int .i64 0,.slice none 0 0,.map none] 34)) w.heap.size [.int .i64 0,.int .i64 0,.int .i64 0,.slice none 0 0,.map none]):=blk_new w [.int .i64 0,.int .i64 0,.int .i64 0,.slice none 0 0,.map none] _
 have HB:Hid (Below w.heap.size w (w.alloc (.cells #[.int .i64 0,.int .i64 0,.int .i64 0,.slice none 0 0,.map none] 34))):=(Below.refl _ _).alloc (Nat.le_refl _) _
 generalize (w.alloc (.cells #[.int .i64 0,.int .i64 0,.int .i64 0,.slice none 0 0,.map none] 34))=w0 at *
 have hmk:=make_dns w0
 have hm1:VM (w0.alloc (.map #[] 0)) w0.heap.size []:=VM.made w0
 have hb1:Below w0.heap.size w0 (w0.alloc (.map #[] 0)):=(Below.refl _ _).alloc (Nat.le_refl _) _
 have HB1:Hid (Below w.heap.size w (w0.alloc (.map #[] 0))):=HB.out.trans (hb1.mono HB.out.size)
 have HZ1:=Hd (HZ.out.below' hb1)
 have HM1:=Hd hm1
 have HKL:Hid (w.heap.size < w0.heap.size):=HZ.out.inside
 clear hm1 hb1
 go_wp2_with (fail)
 refine (dplain_any _).mono ?_
 rintro e w2 ⟨rfl,hb2⟩
 have HM2:=Hd (HM1.out.below hb2)
 have HZ2:=Hd (HZ1.out.below' hb2)
 have HB2:=Hd (HB1.out.trans (hb2.mono HB1.out.size))
 clear hb2 HM1 HZ1 HB1 hmk
 generalize (w0.alloc (.map #[] 0))=w1 at *
 obtain ⟨k1,hk1⟩:∃ k1,w0.heap.size=k1:=⟨_,rfl⟩
 rw [hk1] at HM2 HKL ⊢
 clear hk1
 obtain ⟨w3,hrun,hm3,hg3⟩:=HM2.out.store (t:=tDNs) (E:=57) Tryz.underlying32 (i:=0) ⟨by decide,by decide⟩ (.agg (Nd.plain.cs none 0).toArray) (by decide)
 have HM3:=Hd hm3
 have HB3:Hid (Below w.heap.size w w3):=HB2.out.grown hg3 HB2.out.size fun k hk=>by cases hk; exact Nat.le_of_lt HKL.out
 have HZ3:Hid (Blk w3 w.heap.size [.int .i64 0,.int .i64 0,.int .i64 0,.slice none 0 0,.map none]):=HZ2.out.stays (hg3.block _ HZ2.out.inside (fun e=>by cases e; exact Nat.lt_irrefl _ HKL.out))
 clear hm3 hg3 HM2 HZ2 HB2
 go_wp2_with (first | (with_reducible show wpList _ _ _ (Oper.mk _ (Op.build _ _) _ _ _ _ :: _) _ _; refine wpl_build _ _ rfl rfl (by simp [go_sem]) (build_doc a b M _ _ _ _ _) ?_) | (first | (with_reducible show wpList _ _ _ (Oper.mk _ (Op.store _ _ _) _ _ _ _ :: _) _ _; first | (refine wpl_stow 34 _ _ rfl rfl rfl _ 0 rfl ([.int .i64 a,.int .i64 b,.int .i64 M,.slice none 0 0,.map (some k1)]) rfl ([.int .i64 0,.int .i64 0,.int .i64 0,.slice none 0 0,.map none]) HZ3.out ([.int .i64 a,.int .i64 b,.int .i64 M,.slice none 0 0,.map (some k1)]) rfl (Nat.le_of_ble_eq_true rfl) (by kernel_rfl) rfl ?_; intro w4 HW4 HK4))))
 refine blk_ret rfl rfl HK4.out Tryz.underlying34 rfl (by kernel_rfl) ⟨_,rfl,⟨.slice none 0 0,k1,rfl,⟨none,0,rfl,SRow.none_ rfl,fun _ e=>nomatch e⟩,⟨_,HM3.out.stays (HW4.out.far (Nat.ne_of_gt HKL.out)),fun i hi=>?_,fun i hi=>?_⟩⟩,HW4.out.below HB3.out (Nat.le_refl _)⟩
 ·have h1:=look_put0 0 (.agg (Nd.plain.cs none 0).toArray) i
  rw [h1] at hi
  by_cases e:i=0
  ·rw [e]; rfl
  ·rw [if_neg e] at hi; exact absurd rfl hi
 ·have e:i=0:=by
   rcases has_iff.1 hi with e | e
   ·exact e
   ·cases e
  exact ⟨(PSc.new.nd i).v none 0,by rw [look_put0,if_pos e]; rfl,none,0,rfl,PxR.none_ rfl⟩
end Go.Proofs.YthpifjcddgmjnaaGreat
namespace Go.Proofs.YthpifjcddgmjnaaGreat
open Go.RowKit pxm imm trm Go.Maps
def refN (o:Op9):Nd:=⟨o.m,o.N,o.on,o.on,o.r,o.lk⟩
def Op9.dcs (o:Op9) (A:Option Addr) (c:Nat):List Value:=.int .i64 o.k :: .int .i64 o.i :: .int .i64 o.p :: .int .i64 o.n :: (refN o).cs A c
theorem Op9.done (o:Op9) (A:Option Addr) (c:Nat):(o.dcs A c).all (·.oneCell')=true:=rfl
end Go.Proofs.YthpifjcddgmjnaaGreat
namespace Go.Proofs.YthpifjcddgmjnaaGreat
open Go.RowKit pxm imm trm Go.Maps
theorem zero_dn (w:World):(zeroValue 57).run Tryz.prog w=.ok (.agg (Nd.zero.cs none 0).toArray) w:=by kernel_rfl
theorem DPl.zero (w:World):DPl w (.agg (Nd.zero.cs none 0).toArray) Nd.zero:=⟨none,0,rfl,PxR.none_ rfl⟩
def First (l:List Int) (k:Nat) (val:Int→Value) (es:LV):Prop:=es.length≤k∧∀ i,omap.look es i=if i∈l.take k then some (val i) else none
theorem First.start (l:List Int) (val:Int→Value):First l 0 val []:=⟨Nat.le_refl _,fun i=>by rw [List.take_zero,if_neg (by simp)]; rfl⟩
theorem First.step {l:List Int} {k:Nat} {val:Int→Value} {es:LV} (h:First l k val es) (hk:k < l.length):First l (k + 1) val (omap.put lt l[k] (val l[k]) es):=by
 refine ⟨Nat.le_trans (vput_len _ _ _) (Nat.succ_le_succ h.1),fun i=>?_⟩
 rw [omap.look_put,h.2 i,List.take_succ_eq_append_getElem hk]
 by_cases e:i=l[k]
 ·rw [if_pos e,if_pos (by rw [e]; exact List.mem_append_right _ (List.mem_singleton.2 rfl)),e]
 ·rw [if_neg e]
  by_cases h2:i∈l.take k
  ·rw [if_pos h2,if_pos (List.mem_append_left _ h2)]
  ·rw [if_neg h2,if_neg (by simp only [List.mem_append,List.mem_singleton]; exact fun h=>h.elim h2 e)]
end Go.Proofs.YthpifjcddgmjnaaGreat
namespace Go.Proofs.YthpifjcddgmjnaaGreat
open Go.RowKit pxm imm trm Go.Maps
/-! ### Ops of the call's own -/
theorem OpR.cs_plain (q:OpR):∀ u∈q.cs,u.oneCell'=true:=fun u hu=>List.all_eq_true.1 (Op9.one _ _ _) u hu
end Go.Proofs.YthpifjcddgmjnaaGreat
namespace Go.Proofs.YthpifjcddgmjnaaGreat
open Go.RowKit pxm imm trm Go.Maps
structure OpL where
 A:Option Addr
 c:Nat
 l:List OpR
def OpL.cs (q:OpL):List Value:=[.slice q.A q.l.length q.c]
theorem OpL.cs_len (q:OpL):q.cs.length=1:=rfl
theorem OpL.cs_plain (q:OpL):∀ u∈q.cs,u.oneCell'=true:=by
 intro u hu
 rw [List.mem_singleton.1 hu]
 rfl
structure OpRaw (o:Op9):Prop where
 i:I64 o.i
 p:I64 o.p
 c:o.lk.p < 4294967296
 l:∀ z∈o.lk.l,z < 4294967296
 len:o.lk.l.length≤maxLen
theorem OpRaw.ok {o:Op9} (h:OpRaw o) (hl:o.lk.l.length≤300):OpOk o:=⟨h.i,h.p,h.c,h.l,hl⟩
structure OpsR (w:World) (A:Option Addr) (l:List OpR):Prop where
 row:SRow 23 OpR.cs w A l
 px:∀ q∈l,Row eW w q.A q.o.lk.l∧OpRaw q.o
theorem OpsR.below {w w':World} {A:Option Addr} {l:List OpR} (h:OpsR w A l) (hb:Below w.heap.size w w'):OpsR w' A l:=⟨SRow.below h.row hb,fun q hq=>⟨Row.below (h.px q hq).1 hb,(h.px q hq).2⟩⟩
theorem OpsR.at_ {w w':World} {A:Option Addr} {l:List OpR} {S:Bset} (h:OpsR w A l) (hb:Below w.heap.size w w') (hS:∀ k,S k→w.heap.size≤k):OpsAt S w' A l:=
 ⟨SRow.below h.row hb,fun a e hne hk=>by
  have h1:=h.row.blt (fun _=>⟨_,_,rfl⟩) e hne
  have h2:=hS _ hk
  omega,fun q hq=>⟨Row.below (h.px q hq).1 hb,fun a e hne hk=>by
  have h1:=Row.lt (h.px q hq).1 e hne
  have h2:=hS _ hk
  omega⟩⟩
structure TrAt (w:World) (A:Option Addr) (L:List OpL):Prop where
 row:SRow 1 OpL.cs w A L
 ops:∀ q∈L,OpsR w q.A q.l
 few:∀ q∈L,q.l.length≤1099511627776
 most:L.length≤9223372036854775807
theorem TrAt.below {w w':World} {A:Option Addr} {L:List OpL} (h:TrAt w A L) (hb:Below w.heap.size w w'):TrAt w' A L:=⟨SRow.below h.row hb,fun q hq=>(h.ops q hq).below hb,h.few,h.most⟩
end Go.Proofs.YthpifjcddgmjnaaGreat
namespace Go.Proofs.YthpifjcddgmjnaaGreat
open Go.RowKit pxm imm trm Go.Maps
def likeW (x y:PSc):Prop:=x.t=y.t∧x.nd=y.nd
theorem likeW.refl (x:PSc):likeW x x:=⟨rfl,rfl⟩
end Go.Proofs.YthpifjcddgmjnaaGreat
