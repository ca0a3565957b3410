import Derived.Test.YthpifjcddgmjnaaGreatXDch
set_option maxHeartbeats 16000000
set_option maxRecDepth 100000
namespace Go.Proofs.YthpifjcddgmjnaaGreat
section
open Go.RowKit pxm imm trm Go.Maps
/-! ### What is the document's is not the program's -/
theorem DMap.far {w:World} {g b m:Nat} {s:Sh} {Z:ZZ} {x:PSc} (hs:SceneAt w g b m s Z x) {dm:Nat} {H:Int->Bool} {nd:Int->Nd} (h:DMap w dm H nd) (h0:H 0=true):¬ SFoot b m s x.t dm:=by
 obtain ⟨es,h1,h2,h3⟩:=h.ex
 have i0:I64 (0:Int):=⟨by decide,by decide⟩
 obtain ⟨v,ev,A,c,rfl,-⟩:=h3 0 h0;rintro (e | hk)
 ·obtain ⟨es2,g1,g2,g3⟩:=hs.map;obtain ⟨u,eu,A2,c2,rfl,-⟩:=g3 0 (has_iff.2 (.inl rfl));subst e;have r1:=h1.lookup (t:=tDNs) (E:=57) Tryz.underlying32 (zero_dn w) i0;have r2:=g1.lookup (t:=tDNs) (E:=57) Tryz.underlying32 (zero_dn w) i0;rw [ev] at r1;rw [eu] at r2;have r3:=r1.symm.trans r2
  injection r3 with r3 _
  simp only [Option.getD_some,Nd.v,plv] at r3
  injection r3 with r3
  have:=congrArg Array.size r3;simp [Nd.cs,plcs] at this
 ·rcases hk with hk | hk | ⟨i,hi,hk | hk⟩
  ·exact h1.not_blk hs.tree.raw.blk hk
  ·have r1:=h1.lookup (t:=220) (E:=216) Tryz.underlying220 (zeroPtr w) i0;have r2:=hs.tree.raw.look_some (i:=0) i0 (has_iff.2 (.inl rfl));subst hk;rw [ev] at r1;have r3:=r1.symm.trans r2
   injection r3 with r3 _
   simp only [Option.getD_some,Nd.v] at r3;cases r3
  ·exact h1.not_blk (hs.tree.raw.node i hi).blk hk
  ·obtain ⟨cur,fr,h4⟩:=(hs.tree.raw.node i hi).own.typed hk;obtain ⟨es',clock,h5,_⟩:=h1.own;have:=h4.symm.trans h5;cases this
theorem typ_far {w:World} {g b m:Nat} {s:Sh} {Z:ZZ} {x:PSc} (hs:SceneAt w g b m s Z x) {k:Nat} {cs:Array Value} {T:TypeId} {fz:Nat×Nat} (h:w.heap[k]?=some (.cells cs T fz)) (hT:T=161∨T=52):¬ SFoot b m s x.t k:=by
 have hne:∀ {cs':Array Value} {T':TypeId} {fz':Nat×Nat},w.heap[k]?=some (.cells cs' T' fz')->T'≠161->T'≠52->False:=fun h2 n1 n2=>by
  have:=h.symm.trans h2;simp only [Option.some.injEq,Obj.cells.injEq] at this;rcases hT with e | e
  ·exact n1 (this.2.1 ▸ e)
  ·exact n2 (this.2.1 ▸ e)
 rintro (e | hk)
 ·obtain ⟨es2,g1,_⟩:=hs.map;obtain ⟨es',clock,h5,_⟩:=g1.own;rw [e] at h;have:=h.symm.trans h5;cases this
 ·rcases hk with hk | hk | ⟨i,hi,hk | hk⟩
  ·have h1:w.heap[b]?=_:=hs.tree.raw.blk;rw [← hk] at h1;exact hne h1 (by decide) (by decide)
  ·obtain ⟨es,hm,_⟩:=hs.tree.raw.map;obtain ⟨es',clock,h1,_⟩:=hm.own;rw [hk] at h;have:=h.symm.trans h1;cases this
  ·have h1:w.heap[s.g i]?=_:=(hs.tree.raw.node i hi).blk;rw [← hk] at h1;exact hne h1 (by decide) (by decide)
  ·obtain ⟨cur,fr,h1⟩:=(hs.tree.raw.node i hi).own.typed hk;exact hne h1 (by decide) (by decide)
section
variable {w w':World} {g b m:Nat} {s:Sh} {Z:ZZ} {x y:PSc} {S':Bset}
theorem DTree.turn (hs:SceneAt w g b m s Z x) (ht:TurnP (SFoot b m s x.t) S' w w') {v:Value} {t:T} (h:DTree w v t):DTree w' v t:=h.stays fun _ _ a _ hy ea=>by
 obtain ⟨cs,fz,h1⟩:=hy a ea;exact (ht.far _ (lt_of_block h1) (typ_far hs h1 (.inl rfl))).2
theorem DPl.turn (hs:SceneAt w g b m s Z x) (ht:TurnP (SFoot b m s x.t) S' w w') {v:Value} {n:Nd} (h:DPl w v n):DPl w' v n:=by
 obtain ⟨A,c,e,hr⟩:=h;refine ⟨A,c,e,hr.stays fun a ea hne=>?_⟩;obtain ⟨cs,fz,h1⟩:=hr.typ a ea hne;exact (ht.far _ (lt_of_block h1) (typ_far hs h1 (.inr rfl))).2
theorem DMap.turn (hs:SceneAt w g b m s Z x) (ht:TurnP (SFoot b m s x.t) S' w w') {dm:Nat} {H:Int->Bool} {nd:Int->Nd} (h:DMap w dm H nd) (h0:H 0=true):DMap w' dm H nd:=by
 have hf:=h.far hs h0;obtain ⟨es,h1,h2,h3⟩:=h.ex;refine ⟨es,h1.stays (ht.far _ h1.inside hf).2,h2,fun i hi=>?_⟩;obtain ⟨v,e,hv⟩:=h3 i hi;exact ⟨v,e,DPl.turn hs ht hv⟩
end
def oneQ (p:Nat):Bset:=fun k=>k=p
abbrev tPl:TypeId:=37
structure PlS (w0:World) (p g b m:Nat) (s:Sh) (za zb zc:Int) (x:PSc) (w:World):Prop where
 blk:∃ A c dm,BlkT w p (Vp g za zb zc A x.t.length c dm) tPl∧DTree w (.slice A x.t.length c) x.t∧DMap w dm (has x.t) x.nd
 my:MyS w0 g b m s ⟨za,⟨zb,zc⟩,oneQ p⟩ x w
 pge:w0.heap.size<=p
theorem PlS.below {w0 w w':World} {p g b m:Nat} {s:Sh} {za zb zc:Int} {x:PSc} (h:PlS w0 p g b m s za zb zc x w) (hb:Below w.heap.size w w'):PlS w0 p g b m s za zb zc x w':=by
 obtain ⟨A,c,dm,h1,h2,h3⟩:=h.blk;exact ⟨⟨A,c,dm,h1.stays (hb.block _ h1.inside),h2.below hb,h3.below hb⟩,h.my.below hb,h.pge⟩
theorem PlS.new {w0 w w':World} {p g b m:Nat} {s:Sh} {Z:ZZ} {x:PSc} {A:Option Addr} {c dm:Nat} (h:MyS w0 g b m s Z x w) (hp:p=w.heap.size) (hb:Below w.heap.size w w') (h1:BlkT w' p (Vp g Z.1 Z.2.1 Z.2.2 A x.t.length c dm) tPl) (h2:DTree w' (.slice A x.t.length c) x.t) (h3:DMap w' dm (has x.t) x.nd):PlS w0 p g b m s Z.1 Z.2.1 Z.2.2 x w':=
 ⟨⟨A,c,dm,h1,h2,h3⟩,⟨h.at_.part (E':=oneQ p) (fun k hk _=>hb.block k hk) fun k hk=>by
  obtain rfl:k=p:=hk
  exact ⟨h1.inside,.inr (Nat.le_of_eq hp.symm)⟩,h.ft,h.bel.trans (hb.mono h.bel.size)⟩,by rw [hp];exact h.bel.size⟩
def sayRow (B:Nat) (os:List Op9):regs.Say (DR B):=⟨fun v wv=>∃ A c l9,v=.slice A (l9:List OpR).length c∧OpsD wv A l9∧l9.map (·.o)=os,fun _ _ _ h hb=>by
 obtain ⟨A,c,l9,h1,h2,h3⟩:=h
 exact ⟨A,c,l9,h1,h2.dr hb,h3⟩⟩
theorem pdo_any {w0 w:World} {p g b m:Nat} {s:Sh} {za zb zc:Int} {x:PSc} (h:PlS w0 p g b m s za zb zc x w) (hx:Sane x) (l:List OpR) (A:Option Addr) (c:Nat) (ho:OpsR w0 A l) (hth:∀ q∈l,q.o.lk.l.length<=300) (hn:l.length<=100000) (hroom:l.length<=1024->Room zc x l.length) :
  Calls Tryz.prog 18 #[.pointer (some ⟨p,0,none⟩),.slice A l.length c] w fun e w'=>e=.returned (.bool true)∧(∃ s',PlS w0 p g b m s' za zb zc (applyS zc setSt x (l.map (·.o))).1 w')∧Below w0.heap.size w w':=by
 obtain ⟨Ad,cd,dm,hb,hdt,hdm⟩:=h.blk;have HPB:=Hd hb;have HDT:=Hd hdt;have HDM:=Hd hdm;have HMY:=Hd h.my;have HPG:Hid (w0.heap.size<=p):=h.pge;have HX:=Hd hx;have HOP:=Hd ho;have HTH:=Hd hth;have HN:=Hd hn;have HRM:=Hd hroom;have HOK:Hid (∀ q∈l,OpOk q.o):=fun q hq=>(ho.px q hq).2.ok (hth q hq);have HA:=Hd (applied h.my.at_ hx l A c (ho.at_ h.my.bel h.my.ft) HOK.out hroom (by omega))
 have HSN:Hid (Sane (applyS zc setSt x (l.map (·.o))).1):=hx.apply fun o ho'=>by
  obtain ⟨q,h1,h2⟩:=List.mem_map.1 ho';rw [← h2];exact HOK.out q h1
 have HFP:Hid (¬ SFoot b m s x.t p):=(h.my.at_.old p rfl).2.1
 obtain ⟨os,hos⟩:∃ os,l.map (·.o)=os:=⟨_,rfl⟩
 have HOS:=Hd hos;rw [hos] at HA HSN ⊢
 obtain ⟨⟨y,ri,re⟩,hR⟩:∃ R,applyS zc setSt x os=R:=⟨_,rfl⟩
 have HRR:=Hd hR;have HA2:Hid (Calls Tryz.prog 28 #[.pointer (some ⟨g,0,none⟩),.slice A l.length c] w (ApplyQ g b m ⟨za,⟨zb,zc⟩,oneQ p⟩ s x (y,ri,re) w)):=by rw [← hR];exact HA.out
 rw [hR] at HSN ⊢;clear hb hdt hdm h hx ho hth hn hroom hR HA hos;go_enter Tryz.func18,Tryz.ntmps18;have p0:w.cell? ⟨p,0,none⟩=some (.pointer (some ⟨g,0,none⟩)):=HPB.out.blk.cell 0;have pin:=HPB.out.inside;go_wp2_with (fail);refine HA2.out.mono ?_;unfold ApplyQ;rintro e w1 ⟨s1,rfl,hs1,ht1⟩;simp only at hs1 ht1 ⊢;have HS1:=Hd hs1;have HM1:Hid (MyS w0 g b m s1 ⟨za,⟨zb,zc⟩,oneQ p⟩ y w1):=HMY.out.turn hs1 ht1;have HPB1:Hid (BlkT w1 p (Vp g za zb zc Ad x.t.length cd dm) tPl):=HPB.out.stays (ht1.far p HPB.out.inside HFP.out).2
 have HDT1:Hid (DTree w1 (.slice Ad x.t.length cd) x.t):=DTree.turn HMY.out.at_ ht1 HDT.out;have HDM1:Hid (DMap w1 dm (has x.t) x.nd):=DMap.turn HMY.out.at_ ht1 HDM.out (has_iff.2 (.inl rfl));have FP:Hid (∀ W,DR w1.heap.size w1 W->Blk W p (Vp g za zb zc Ad x.t.length cd dm)):=fun W hr=>HPB1.out.blk.below' hr.bel
 have FR:Hid (∀ W,DR w1.heap.size w1 W->Calls Tryz.prog 60 #[.slice A l.length c] W (RefOpsQ os W)):=fun W hr=>by
  have h1:=refops_any l A c W (HOP.out.below (HM1.out.bel.trans (hr.bel.mono HM1.out.bel.size))) HTH.out HN.out;rw [HOS.out] at h1;exact h1
 have FC:Hid (∀ W,DR w1.heap.size w1 W->∀ A8 c8 l8,OpsD W A8 l8->l8.map (·.o)=os->Calls Tryz.prog 59 #[.agg (Vc za zb zc Ad x.t.length cd dm).toArray,.slice A8 (l8:List OpR).length c8] W fun e w'=>∃ v',e=.returned (.tuple #[v',.int .i64 ri,.int .i64 re])∧DP za zb zc y 0 v' w'∧Below W.heap.size W w'):=fun W hr A8 c8 l8 hod hos8=>by
  have hlen:l8.length=l.length:=by
   have h1:=congrArg List.length (hos8.trans HOS.out.symm)
   rwa [List.length_map,List.length_map] at h1
  have h1:=dapply_any l8 A8 c8 za zb zc (.agg (Vc za zb zc Ad x.t.length cd dm).toArray) x HX.out W (DBlk.doc (HDT1.out.below hr.bel) (HDM1.out.below hr.bel)) hod (fun q hq=>by
   have h2:q.o∈l.map (·.o):=by rw [HOS.out,← hos8];exact List.mem_map_of_mem hq
   obtain ⟨q',h3,h4⟩:=List.mem_map.1 h2;rw [← h4]
   exact HOK.out q' h3) (by rw [hlen];exact HRM.out) (by rw [hlen];have:=HN.out;omega)
  rw [hos8,HRR.out] at h1;refine h1.mono ?_;unfold DApQ;rintro e w' ⟨v',h2,h3,h4⟩;refine ⟨v',h2,⟨?_,fun _=>h3⟩,h4⟩;obtain ⟨A7,c7,m7,h5,-,-⟩:=h3.ex;rw [h5];exact dsh _ _ _ _ _ _ _
 have HTB:Hid (Below w0.heap.size w w1):=ht1.to_below HMY.out.bel.size HMY.out.ft;have HM1S:Hid (w0.heap.size<=w1.heap.size):=HM1.out.bel.size;clear hs1 ht1 p0 pin HMY HPB HDT HDM HA2 HFP
 go_upto_region 2 with (fail)
 generalize w1=wS at *
 refine wRv (DR wS.heap.size) (fun L V wx=>VJ wS.heap.size (L 11) (L 12) (V 7) (V 27) wx∧(L 12=true->L 8=true)∧(L 12=true->L 11=true)) [20,21,22,23,24,25,26,19,27,28,29,7,8,9] (fun _=>DR.refl _ _) (fun _ _ _ h k=>h.trans k) (fun i=>match i with
  |0|1=>rp p 0
  |2=>rp p 1
  |3=>rV (.agg ((Vc za zb zc Ad x.t.length cd dm)).toArray)
  |4=>rV (.slice A l.length c)
  | 5=>sayRow wS.heap.size os
  | 6=>(⟨fun v wv=>∃ v',v=.tuple #[v',.int .i64 ri,.int .i64 re]∧DP za zb zc y 0 v' wv,fun v q1 q2 h hb=>h.elim fun v' h=>⟨v',h.1,h.2.dr hb⟩⟩:regs.Say (DR wS.heap.size))
  | 7=>(⟨fun v wv=>∃ v',v=.tuple #[v',.int .i64 ri,.int .i64 re]∧DP za zb zc y 0 v' wv,fun v q1 q2 h hb=>h.elim fun v' h=>⟨v',h.1,h.2.dr hb⟩⟩:regs.Say (DR wS.heap.size))
  | 8=>(⟨fun v wv=>DP za zb zc y 0 v wv,fun v q1 q2 h hb=>h.dr hb⟩:regs.Say (DR wS.heap.size))
  |9|13=>rV (.int .i64 ri)
  |10|14=>rV (.int .i64 re)
  | _=>ra) (DR.below (Below.refl _ _).drew (Nat.le_refl _)) (⟨VJ.start (Below.refl 0 _).drew.size,nofun,nofun⟩) ⟨?_,?_,?_,?_,?_,?_,?_,?_,?_,?_,?_,?_,?_,?_,?_,trivial⟩ ?_
 ·refine zpv fun L a w1q hh=>?_;have h0:=hh.p 0 p 0;have hJ:=hh.j;clear hh;go_simp;exact ⟨_,rfl,DR.refl _ _,rfl,⟨VJ.slots hJ.out.1 sn sn,hJ.out.2⟩⟩
 ·refine zpv fun L a w1q hh=>?_;have h20:=rq (hh.d 0 20);have hJ:=hh.j;clear hh;go_simp;exact ⟨_,rfl,DR.refl _ _,rfl,⟨VJ.slots hJ.out.1 sn sn,hJ.out.2⟩⟩
 ·refine zpv fun L a w1q hh=>?_;have h21:=rq (hh.d 1 21);have i0:=(FP.out _ hh.rel).inside;have hJ:=hh.j;clear hh;go_simp;exact ⟨_,rfl,DR.refl _ _,rfl,⟨VJ.slots hJ.out.1 sn sn,hJ.out.2⟩⟩
 ·refine zpv fun L a w1q hh=>?_;have h22:=rq (hh.d 2 22);have hB:=Hd (FP.out _ hh.rel);have hJ:=Hd hh.st;exact wp_take 34 _ rfl p 1 (by simpa [go_sem] using h22) _ hB.out ((Vc za zb zc Ad x.t.length cd dm)) rfl _ Tryz.underlying34 rfl (by kernel_rfl) ⟨_,rfl,DR.refl _ _,rfl,⟨VJ.slots hJ.out.1 sn sn,hJ.out.2⟩⟩
 ·refine zpv fun L a w1q hh=>?_;have h1:=hh.o 1 (v:=.slice A l.length c) rfl;have hJ:=hh.j;clear hh;go_simp;exact ⟨_,rfl,DR.refl _ _,rfl,⟨VJ.slots hJ.out.1 sn sn,hJ.out.2⟩⟩
 ·refine zpv fun L a w1q hh=>?_;have h24:=rq (hh.d 4 24);have hC:=Hd (FR.out w1q hh.rel);have hbz:=Hd (show wS.heap.size<=w1q.heap.size from hh.rel.bel.size);have hJ:=Hd hh.st;have hsz:=Hd hh.size;have hun:=Hd hh.un;clear hh;go_simp;refine hC.out.mono ?_;unfold RefOpsQ;rintro e w9 ⟨A9,c9,l9,rfl,hod9,hos9,hb9⟩;exact ⟨_,rfl,DR.below hb9 hbz.out,⟨A9,c9,l9,rfl,hod9,hos9⟩,⟨VJ.slots (VJ.below hJ.out.1 hb9) sn sn,hJ.out.2⟩⟩
 ·refine zpv fun L a w1q hh=>?_;have h23:=rq (hh.d 3 23)
  obtain ⟨A8,c8,l8,e8,hod8,hos8⟩:=(show ∃ A c l9,(a.tmps.getD 25 undef)=.slice A (l9:List OpR).length c∧OpsD w1q A l9∧l9.map (·.o)=os from hh.d 5 25)
  have h25:a.tmps[25]?.getD undef=.slice A8 l8.length c8:=rq (e8);have hC:=Hd (FC.out w1q hh.rel A8 c8 l8 hod8 hos8);have hbz:=Hd (show wS.heap.size<=w1q.heap.size from hh.rel.bel.size);have hJ:=Hd hh.st;have hsz:=Hd hh.size;have hun:=Hd hh.un;clear hh e8 hod8 hos8;go_simp;refine hC.out.mono ?_;rintro e w9 ⟨v9,rfl,hp9,hb9⟩;exact ⟨_,rfl,DR.below hb9 hbz.out,⟨v9,rfl,hp9⟩,⟨VJ.slots (VJ.below hJ.out.1 hb9) sn sn,hJ.out.2⟩⟩
 ·refine zpv fun L a w1q hh=>?_
  obtain ⟨v8,e8,hp8⟩:=(show ∃ v',(a.tmps.getD 26 undef)=.tuple #[v',.int .i64 ri,.int .i64 re]∧DP za zb zc y 0 v' w1q from hh.d 6 26)
  have h26:a.tmps[26]?.getD undef=.tuple #[v8,.int .i64 ri,.int .i64 re]:=rq (e8);have HP8:=Hd hp8;have hJ:=Hd hh.st;have hsz:=Hd hh.size;have hun:=Hd hh.un;clear hh e8 hp8;go_simp;exact ⟨_,rfl,DR.refl _ _,⟨v8,rfl,HP8.out⟩,⟨VJ.slots hJ.out.1 sn sn,hJ.out.2⟩⟩
 ·refine zpv fun L a w1q hh=>?_
  obtain ⟨v8,e8,hp8⟩:=(show ∃ v',(a.tmps.getD 19 undef)=.tuple #[v',.int .i64 ri,.int .i64 re]∧DP za zb zc y 0 v' w1q from hh.d 7 19)
  have h19:a.tmps[19]?.getD undef=.tuple #[v8,.int .i64 ri,.int .i64 re]:=rq (e8);have HP8:=Hd hp8;have HN8:=Hd (not_yet hh.st.2.1 hh.un);have hJ:=Hd hh.st;have hsz:=Hd hh.size;have hun:=Hd hh.un;clear hh e8 hp8;go_simp;exact ⟨_,rfl,DR.refl _ _,HP8.out,⟨VJ.told hJ.out.1 HN8.out sn,fun _=>rfl,hJ.out.2.2⟩⟩
 ·refine zpv fun L a w1q hh=>?_
  obtain ⟨v8,e8,hp8⟩:=(show ∃ v',(a.tmps.getD 19 undef)=.tuple #[v',.int .i64 ri,.int .i64 re]∧DP za zb zc y 0 v' w1q from hh.d 7 19)
  have h19:a.tmps[19]?.getD undef=.tuple #[v8,.int .i64 ri,.int .i64 re]:=rq (e8);have HP8:=Hd hp8;have hJ:=Hd hh.st;have hsz:=Hd hh.size;have hun:=Hd hh.un;clear hh e8 hp8;go_simp;exact ⟨_,rfl,DR.refl _ _,rfl,⟨VJ.slots hJ.out.1 sn sn,hJ.out.2⟩⟩
 ·refine zpv fun L a w1q hh=>?_
  obtain ⟨v8,e8,hp8⟩:=(show ∃ v',(a.tmps.getD 19 undef)=.tuple #[v',.int .i64 ri,.int .i64 re]∧DP za zb zc y 0 v' w1q from hh.d 7 19)
  have h19:a.tmps[19]?.getD undef=.tuple #[v8,.int .i64 ri,.int .i64 re]:=rq (e8);have HP8:=Hd hp8;have hJ:=Hd hh.st;have hsz:=Hd hh.size;have hun:=Hd hh.un;clear hh e8 hp8;go_simp;exact ⟨_,rfl,DR.refl _ _,rfl,⟨VJ.slots hJ.out.1 sn sn,hJ.out.2⟩⟩
 ·refine zpv fun L a w1q hh=>?_;have HN8:=Hd (not_yet hh.st.2.2 hh.un);have hbz:=Hd (show wS.heap.size<=w1q.heap.size from hh.rel.bel.size);have hJ:=Hd hh.st;have hsz:=Hd hh.size;have hun:=Hd hh.un;clear hh;go_simp;exact ⟨_,rfl,DR.below ((Below.refl _ _).alloc (Nat.le_refl _) _) hbz.out,trivial,⟨VJ.made hJ.out.1 HN8.out (regv.sl_same (by rw [hsz.out];simp)),hJ.out.2.1,fun _=>rfl⟩⟩
 ·refine zpv fun L a w1q hh=>?_;have hup:=hh.up 11 (by kernel_rfl);obtain ⟨g9,c9,h9,hg9,hB9,hn9,hl9,-⟩:=hh.st.1.ex hup
  obtain ⟨⟨cs8,e8,hl8,hn8,ho8⟩,hd8⟩:=(show DP za zb zc y 0 (a.tmps.getD 27 undef) w1q from hh.d 8 27)
  have hJ:=Hd hh.st;have hu34:=Hd (hh.up 8 (by kernel_rfl));refine wp_stow 34 _ _ rfl g9 0 (by have h:=h9;unfold regv.sl at h;simpa [go_sem] using h) cs8 (by simpa [go_sem] using e8) _ hB9.blk (by rw [hl8,hl9];decide) (by rw [hl8];kernel_rfl) ho8 ?_;intro w9 hW9 hC9
  have hC9':Blk w9 g9 cs8:=by
   have e:c9.take 0++cs8++c9.drop (0+cs8.length)=cs8:=by rw [hl8,List.drop_of_length_le (by rw [hl9];decide)];simp
   rw [← e];exact hC9
  have hP:=hJ.out.1.put h9 hg9 hB9 hn9 hW9 hC9' hn8 hl8 e8;exact ⟨undef,rfl,hP.2,trivial,⟨hP.1,fun _=>hu34.out,fun _=>hup⟩⟩
 ·refine zpv fun L a w1q hh=>?_;have h28:=rq (hh.d 9 28);have hJ:=hh.j;clear hh;go_simp;exact ⟨_,rfl,DR.refl _ _,rfl,⟨VJ.slots hJ.out.1 sn sn,hJ.out.2⟩⟩
 ·refine zpv fun L a w1q hh=>?_;have h29:=rq (hh.d 10 29);have hJ:=hh.j;clear hh;go_simp;exact ⟨_,rfl,DR.refl _ _,rfl,⟨VJ.slots hJ.out.1 sn sn,hJ.out.2⟩⟩
 intro L w4 val hL hJ hR hv;have h8:val 8=.int .i64 ri:=hv 13 8 (by kernel_rfl);have h9:val 9=.int .i64 re:=hv 14 9 (by kernel_rfl);have HR4:=Hd hR;obtain ⟨g9,c9,e9,hg9,hb9,hn9,hl9,hv9⟩:=hJ.1.ex (hL 11 (by decide));have hv34:=hv9 (hL 12 (by decide));have hd34:DP za zb zc y 0 (val 27) w4:=hv 8 27 (by kernel_rfl);have HD34:=Hd hd34;have HV34:=Hd hv34;have HB9:=Hd (And.intro hg9 hb9);clear hv hL hJ hR hd34 hv34 hg9 hb9 hn9 hl9 hv9;simp only [regs.putAll,List.map_cons,List.map_nil,h8,h9];simp only [Act.put,List.setIfInBounds_toArray,List.set_cons_zero,List.set_cons_succ];clear h8 h9
 generalize val 20=v20,val 21=v21,val 22=v22,val 23=v23,val 24=v24,val 25=v25,val 26=v26,val 19=v19,val 27=v27,val 28=v28,val 29=v29 at *;rw [e9];clear e9;have HPB4:Hid (BlkT w4 p (Vp g za zb zc Ad x.t.length cd dm) tPl):=HPB1.out.stays (HR4.out.bel.block _ HPB1.out.inside);have HM4:Hid (MyS w0 g b m s1 ⟨za,⟨zb,zc⟩,oneQ p⟩ y w4):=HM1.out.below HR4.out.bel;obtain ⟨An,cn,mn,hvn,htn,hmn⟩:=(HD34.out.2 rfl).ex
 have hcn:c9=(Vc za zb zc An y.t.length cn mn):=by
  have h1:=HV34.out.symm.trans hvn
  injection h1 with h1
  have h2:=congrArg Array.toList h1
  simpa using h2
 subst hcn;have HTN:=Hd htn;have HMN:=Hd hmn;have pin:=HPB4.out.inside;clear hvn htn hmn HD34 HV34 FP FR FC HPB1 HM1 HDT1 HDM1 HS1;have q1:(ri==ri)=true:=by simp
 have q2:(re==re)=true:=by simp
 go_upto_region 4 with (first | (with_reducible refine gL ?_;first | (refine wpl_take 34 _ rfl rfl _ 0 rfl ((Vc za zb zc An y.t.length cn mn)) HB9.out.2.blk ((Vc za zb zc An y.t.length cn mn)) rfl _ Tryz.underlying34 rfl (by kernel_rfl) ?_)) | (with_reducible refine gS ?_;first | (refine wpl_stow 34 _ _ rfl rfl rfl _ 1 rfl ((Vc za zb zc An y.t.length cn mn)) rfl ((Vp g za zb zc Ad x.t.length cd dm)) HPB4.out.blk ((Vp g za zb zc An y.t.length cn mn)) rfl (Nat.le_of_ble_eq_true rfl) (by kernel_rfl) rfl ?_;intro w5 HW5 HK5)))
 clear pin;go_wp2_with (fail);go_ret;refine ⟨rfl,⟨s1,⟨An,cn,mn,HPB4.out.wrote HW5.out HK5.out,HTN.out.wrote HPB4.out (by decide) HW5.out,HMN.out.wrote HPB4.out.blk (by unfold noPx;simp) HW5.out⟩,⟨HM4.out.at_.part (E':=oneQ p) (fun k _ hk=>HW5.out.far hk) (fun k hk=>?_),HM4.out.ft,HW5.out.below HM4.out.bel HPG.out⟩,HPG.out⟩,HW5.out.below (HTB.out.trans (HR4.out.bel.mono HM1S.out)) HPG.out⟩;have hk':=HM4.out.at_.old k hk;exact ⟨by rw [HW5.out.size];exact hk'.1,.inl hk⟩
end
section
open Go.RowKit pxm imm trm Go.Maps
theorem dmp_eqi (m:Mp) (w:World):(Op.equalIn 10000 50 (.agg m.cs.toArray) (.agg m.cs.toArray)).run Tryz.prog w=.ok true w:=by
 obtain ⟨a0,a1,a2,a3,a4,a5⟩:=m;unfold Mp.cs;obtain ⟨i,hi⟩:=Option.isSome_iff_exists.1 (show (Tryz.prog.info? 2).isSome=true by kernel_rfl);have hc:Tryz.prog.cellsOf 2=1:=by kernel_rfl
 have h:=run_equalIn_array (P:=Tryz.prog) w 9999 (Vi a0 a1 a2 a3 a4 a5).toArray (Vi a0 a1 a2 a3 a4 a5).toArray Tryz.underlying50 hi;rw [hc] at h;rw [h];simp [Op.eqItems,List.range,List.range.loop,part,go_sem]
theorem d4_eqi (r:Bx) (w:World):(Op.equalIn 10000 51 (.agg r.cs4.toArray) (.agg r.cs4.toArray)).run Tryz.prog w=.ok true w:=by
 obtain ⟨a0,a1,a2,a3⟩:=r;unfold Bx.cs4;obtain ⟨i,hi⟩:=Option.isSome_iff_exists.1 (show (Tryz.prog.info? 3).isSome=true by kernel_rfl);have hc:Tryz.prog.cellsOf 3=1:=by kernel_rfl
 have h:=run_equalIn_array (P:=Tryz.prog) w 9999 (Vl a0 a1 a2 a3).toArray (Vl a0 a1 a2 a3).toArray Tryz.underlying51 hi;rw [hc] at h;rw [h];simp [Op.eqItems,List.range,List.range.loop,part,go_sem]
theorem alike_yes (n:Nd) (A1 A2:Option Addr) (c1 c2:Nat) (w:World) (h1:Row eW w A1 n.lk.l) (h2:Row eW w A2 n.lk.l) (hn:n.lk.l.length<=1000000) :
  Calls Tryz.prog 24 #[.agg (n.cs A1 c1).toArray,.agg (n.cs A2 c2).toArray] w fun e w'=>e=.returned (.bool true)∧Below w.heap.size w w':=by
 have HRa:=Hd h1;have HRb:=Hd h2;have HN:=Hd hn;clear h1 h2 hn;have HB0:Hid (Below w.heap.size w ((w.alloc (.cells (n.cs A1 c1).toArray 57)).alloc (.cells (n.cs A2 c2).toArray 57))):=((Below.refl _ _).alloc (Nat.le_refl _) _).alloc (by simp) _;have HK1:Hid (Blk ((w.alloc (.cells (n.cs A1 c1).toArray 57)).alloc (.cells (n.cs A2 c2).toArray 57)) w.heap.size (n.cs A1 c1)):=(blk_new w (n.cs A1 c1) _).alloc _;have HK2:Hid (Blk ((w.alloc (.cells (n.cs A1 c1).toArray 57)).alloc (.cells (n.cs A2 c2).toArray 57)) (w.heap.size+1) (n.cs A2 c2)):=blk_at (w.alloc _) _ (by simp) (n.cs A2 c2) _
 go_enter Tryz.func24,Tryz.ntmps24
 go_upto_region 1 with (fail)
 generalize ((w.alloc (.cells (n.cs A1 c1).toArray 57)).alloc (.cells (n.cs A2 c2).toArray 57))=w0 at *;have F1:Hid (∀ W,regs.bl w0 W->Blk W w.heap.size (n.cs A1 c1)):=fun W hb=>HK1.out.below' hb;have F2:Hid (∀ W,regs.bl w0 W->Blk W (w.heap.size+1) (n.cs A2 c2)):=fun W hb=>HK2.out.below' hb
 refine wRn [8,9,10,11,12,13,5,6] (fun i=>match i with
  |0=>rp w.heap.size 17
  |1=>rp w.heap.size 19
  |2|6=>rV (.slice A1 n.lk.l.length c1)
  |3=>rp (w.heap.size+1) 17
  |4=>rp (w.heap.size+1) 19
  |5|7=>rV (.slice A2 n.lk.l.length c2)
  | _=>ra) ⟨?_,?_,?_,?_,?_,?_,?_,?_,trivial⟩ ?_
 ·refine zp fun L a w1 hh=>?_;have h2:=hh.p 2 w.heap.size 0;have i0:=(F1.out _ hh.rel).inside;clear hh;go_simp;exact ⟨_,rfl,rB,rfl,trivial⟩
 ·refine zp fun L a w1 hh=>?_;have h8:=rq (hh.d 0 8);have i0:=(F1.out _ hh.rel).inside;clear hh;go_simp;exact ⟨_,rfl,rB,rfl,trivial⟩
 ·refine zp fun L a w1 hh=>?_;have h9:=rq (hh.d 1 9);have hB:=Hd (F1.out _ hh.rel);have c0:=hB.out.c 19 rfl;have i0:=hB.out.inside;clear hh;go_simp;exact ⟨_,rfl,rB,rfl,trivial⟩
 ·refine zp fun L a w1 hh=>?_;have h3:=hh.p 3 ((w.heap.size+1)) 0;have i0:=(F2.out _ hh.rel).inside;clear hh;go_simp;exact ⟨_,rfl,rB,rfl,trivial⟩
 ·refine zp fun L a w1 hh=>?_;have h11:=rq (hh.d 3 11);have i0:=(F2.out _ hh.rel).inside;clear hh;go_simp;exact ⟨_,rfl,rB,rfl,trivial⟩
 ·refine zp fun L a w1 hh=>?_;have h12:=rq (hh.d 4 12);have hB:=Hd (F2.out _ hh.rel);have c0:=hB.out.c 19 rfl;have i0:=hB.out.inside;clear hh;go_simp;exact ⟨_,rfl,rB,rfl,trivial⟩
 ·refine zp fun L a w1 hh=>?_;have h10:=rq (hh.d 2 10);clear hh;go_simp;exact ⟨_,rfl,rB,rfl,trivial⟩
 ·refine zp fun L a w1 hh=>?_;have h13:=rq (hh.d 5 13);clear hh;go_simp;exact ⟨_,rfl,rB,rfl,trivial⟩
 intro L w2 val hL hJ hR hv;have h5:val 5=.slice A1 n.lk.l.length c1:=hv 6 5 (by kernel_rfl);have h6:val 6=.slice A2 n.lk.l.length c2:=hv 7 6 (by kernel_rfl);have HR2:=Hd hR;clear hv hL hJ hR;simp only [regs.putAll,List.map_cons,List.map_nil,h5,h6];simp only [Act.put,List.setIfInBounds_toArray,List.set_cons_zero,List.set_cons_succ];clear h5 h6;generalize val 8=v8,val 9=v9,val 10=v10,val 11=v11,val 12=v12,val 13=v13 at *;have hnb:(n.lk.l.length:Int)<=1000000:=by have:=HN.out;omega
 have HB2:=Hd (HB0.out.trans (HR2.out.mono HB0.out.size));have t0:(n.lk.l.length==n.lk.l.length)=true:=by simp
 clear F1 F2
 go_upto_region 5 with (fail)
 go_loopw [21] (fun x21 wr=>∃ k:Nat,k<=n.lk.l.length∧x21=.int .i64 k∧Hid (Below w2.heap.size w2 wr)) (fun x21 _=>n.lk.l.length - (intOf x21).toNat)
 case atStart=>exact ⟨0,Nat.zero_le _,rfl,Below.refl _ _⟩
 case round=>
  obtain ⟨k,hk,rfl,HBW⟩:=hrel;generalize wr=wA at *;by_cases hlt:k<n.lk.l.length
  ·have t1:decide (k<n.lk.l.length)=true:=decide_eq_true hlt;have HLT:=Hd hlt;have HBB:=Hd (HB2.out.trans (HBW.out.mono HB2.out.size));obtain ⟨b1,o1,e1,k1⟩:=Row.at_ (Row.below HRa.out HBB.out) hlt;obtain ⟨b2,o2,e2,k2⟩:=Row.at_ (Row.below HRb.out HBB.out) hlt;subst e1;subst e2
   obtain ⟨z,hz⟩:∃ z,z=n.lk.l[k]'hlt:=⟨_,rfl⟩
   unfold eW at k1 k2;rw [← hz] at k1 k2;have hkb:(k:Int)<=1000000:=by have:=HN.out;omega
   have FP:Hid (∀ W,regs.bl wA W->(W.cell? ⟨b1,o1+k,none⟩=some (.int .u32 (z:Nat))∧b1<W.heap.size)∧(W.cell? ⟨b2,o2+k,none⟩=some (.int .u32 (z:Nat))∧b2<W.heap.size)):=fun W hb=>by
    have l1:=World.block_lt_of_cell? wA _ k1;have l2:=World.block_lt_of_cell? wA _ k2;exact ⟨⟨(Below.cell hb (p:=⟨b1,_,none⟩) l1).trans k1,Nat.lt_of_lt_of_le l1 hb.size⟩,⟨(Below.cell hb (p:=⟨b2,_,none⟩) l2).trans k2,Nat.lt_of_lt_of_le l2 hb.size⟩⟩
   clear k1 k2 hz hlt hk
   go_upto_region 7 with (fail)
   refine wRn [24,25,26,27,28,29,30,31,32] (fun i=>match i with
    |0=>rV (.slice (some ⟨b1,o1,none⟩) n.lk.l.length c1)
    |1|5=>rV (.int .i64 (k:Nat))
    |2=>rV (.pointer (some ⟨b1,(o1+k),none⟩))
    |3|7=>rV (.int .u32 (z:Nat))
    |4=>rV (.slice (some ⟨b2,o2,none⟩) n.lk.l.length c2)
    |6=>rV (.pointer (some ⟨b2,(o2+k),none⟩))
    |8=>rV (.bool false)
    | _=>ra) ⟨?_,?_,?_,?_,?_,?_,?_,?_,?_,trivial⟩ ?_
   ·refine zp fun L a w1 hh=>?_;have h5:=hh.o 5 (v:=.slice (some ⟨b1,o1,none⟩) n.lk.l.length c1) rfl;clear hh;go_simp;exact ⟨_,rfl,rB,rfl,trivial⟩
   ·refine zp fun L a w1 hh=>?_;have h7:=hh.o 7 (v:=.int .i64 (k:Nat)) rfl;clear hh;go_simp;exact ⟨_,rfl,rB,rfl,trivial⟩
   ·refine zp fun L a w1 hh=>?_;have h24:=rq (hh.d 0 24);have h25:=rq (hh.d 1 25);obtain ⟨-,li⟩:=(FP.out _ hh.rel).1;have hlt:=HLT.out;clear hh;go_simp;exact ⟨_,rfl,rB,rfl,trivial⟩
   ·refine zp fun L a w1 hh=>?_;have h26:=rq (hh.d 2 26);obtain ⟨c0,li⟩:=(FP.out _ hh.rel).1;clear hh;go_simp;exact ⟨_,rfl,rB,rfl,trivial⟩
   ·refine zp fun L a w1 hh=>?_;have h6:=hh.o 6 (v:=.slice (some ⟨b2,o2,none⟩) n.lk.l.length c2) rfl;clear hh;go_simp;exact ⟨_,rfl,rB,rfl,trivial⟩
   ·refine zp fun L a w1 hh=>?_;have h7:=hh.o 7 (v:=.int .i64 (k:Nat)) rfl;clear hh;go_simp;exact ⟨_,rfl,rB,rfl,trivial⟩
   ·refine zp fun L a w1 hh=>?_;have h28:=rq (hh.d 4 28);have h29:=rq (hh.d 5 29);obtain ⟨-,li⟩:=(FP.out _ hh.rel).2;have hlt:=HLT.out;clear hh;go_simp;exact ⟨_,rfl,rB,rfl,trivial⟩
   ·refine zp fun L a w1 hh=>?_;have h30:=rq (hh.d 6 30);obtain ⟨c0,li⟩:=(FP.out _ hh.rel).2;clear hh;go_simp;exact ⟨_,rfl,rB,rfl,trivial⟩
   ·refine zp fun L a w1 hh=>?_;have h27:=rq (hh.d 3 27);have h31:=rq (hh.d 7 31);clear hh;go_simp;exact ⟨_,rfl,rB,rfl,trivial⟩
   intro L w4 val hL hJ hR hv;have h32:val 32=.bool false:=hv 8 32 (by kernel_rfl);have HR4:=Hd hR;clear hv hL hJ hR;simp only [regs.putAll,List.map_cons,List.map_nil,h32];simp only [Act.put,List.setIfInBounds_toArray,List.set_cons_zero,List.set_cons_succ];clear h32;generalize val 24=v24,val 25=v25,val 26=v26,val 27=v27,val 28=v28,val 29=v29,val 30=v30,val 31=v31 at *;have HB4:Hid (Below w2.heap.size w2 w4):=HBW.out.trans (Below.mono HR4.out HBW.out.size);clear FP HR4 HBB;go_wp2_with (fail)
   go_roundw
   case rel=>exact ⟨k+1,HLT.out,by go_num,HB4⟩
   case measure=>have:=HLT.out;simp [intOf];omega
  ·obtain rfl:k=n.lk.l.length:=by omega
   have t1:decide (n.lk.l.length<n.lk.l.length)=false:=by simp
   have HBB:Hid (Below w0.heap.size w0 wA):=HR2.out.trans (HBW.out.mono HR2.out.size);have HG1:Hid (Blk wA w.heap.size (n.cs A1 c1)):=HK1.out.below' HBB.out;have HG2:Hid (Blk wA (w.heap.size+1) (n.cs A2 c2)):=HK2.out.below' HBB.out;have c0:=HG1.out.c 0 rfl;have c1:=HG1.out.c 1 rfl;have c2:=HG1.out.c 2 rfl;have c3:=HG1.out.c 3 rfl;have c4:=HG1.out.c 4 rfl;have c5:=HG1.out.c 5 rfl;have c6:=HG1.out.c 6 rfl;have c7:=HG1.out.c 7 rfl;have c8:=HG1.out.c 8 rfl;have c9:=HG1.out.c 9 rfl;have c10:=HG1.out.c 10 rfl;have c11:=HG1.out.c 11 rfl;have c12:=HG1.out.c 12 rfl;have c13:=HG1.out.c 13 rfl
   have c14:=HG1.out.c 14 rfl;have c15:=HG1.out.c 15 rfl;have c16:=HG1.out.c 16 rfl;have c17:=HG1.out.c 17 rfl;have c18:=HG1.out.c 18 rfl;have d0:wA.cell? ⟨w.heap.size+1,0,none⟩=some (.int .i64 n.m.a):=HG2.out.cell 0;have d1:wA.cell? ⟨w.heap.size+1,1,none⟩=some (.int .i64 n.m.b):=HG2.out.cell 1;have d2:wA.cell? ⟨w.heap.size+1,2,none⟩=some (.int .i64 n.m.c):=HG2.out.cell 2;have d3:wA.cell? ⟨w.heap.size+1,3,none⟩=some (.int .i64 n.m.d):=HG2.out.cell 3;have d4:wA.cell? ⟨w.heap.size+1,4,none⟩=some (.int .i64 n.m.e):=HG2.out.cell 4
   have d5:wA.cell? ⟨w.heap.size+1,5,none⟩=some (.int .i64 n.m.f):=HG2.out.cell 5;have d6:wA.cell? ⟨w.heap.size+1,6,none⟩=some (.int .i64 n.op):=HG2.out.cell 6;have d7:wA.cell? ⟨w.heap.size+1,7,none⟩=some (.bool n.hi):=HG2.out.cell 7;have d8:wA.cell? ⟨w.heap.size+1,8,none⟩=some (.bool n.cl):=HG2.out.cell 8;have d9:wA.cell? ⟨w.heap.size+1,9,none⟩=some (.int .i64 n.r.a):=HG2.out.cell 9;have d10:wA.cell? ⟨w.heap.size+1,10,none⟩=some (.int .i64 n.r.b):=HG2.out.cell 10;have d11:wA.cell? ⟨w.heap.size+1,11,none⟩=some (.int .i64 n.r.c):=HG2.out.cell 11
   have d12:wA.cell? ⟨w.heap.size+1,12,none⟩=some (.int .i64 n.r.d):=HG2.out.cell 12;have d13:wA.cell? ⟨w.heap.size+1,13,none⟩=some (.int .i64 n.lk.k):=HG2.out.cell 13;have d14:wA.cell? ⟨w.heap.size+1,14,none⟩=some (.int .i64 n.lk.W):=HG2.out.cell 14;have d15:wA.cell? ⟨w.heap.size+1,15,none⟩=some (.int .i64 n.lk.H):=HG2.out.cell 15;have d16:wA.cell? ⟨w.heap.size+1,16,none⟩=some (.int .u32 (n.lk.p:Nat)):=HG2.out.cell 16;have d17:wA.cell? ⟨w.heap.size+1,17,none⟩=some (.int .i64 n.lk.iw):=HG2.out.cell 17
   have d18:wA.cell? ⟨w.heap.size+1,18,none⟩=some (.int .i64 n.lk.ih):=HG2.out.cell 18;have i1:=HG1.out.inside;have i2:=HG2.out.inside;have q1:(Op.equalIn 10000 50 (.agg (Vi n.m.a n.m.b n.m.c n.m.d n.m.e n.m.f).toArray) (.agg (Vi n.m.a n.m.b n.m.c n.m.d n.m.e n.m.f).toArray)).run Tryz.prog wA=.ok true wA:=dmp_eqi n.m wA;have q2:(Op.equalIn 10000 51 (.agg (Vl n.r.a n.r.b n.r.c n.r.d).toArray) (.agg (Vl n.r.a n.r.b n.r.c n.r.d).toArray)).run Tryz.prog wA=.ok true wA:=d4_eqi n.r wA;clear hlt hk;go_wp2_with (fail);go_ret;exact ⟨rfl,HB0.out.trans (HBB.out.mono HB0.out.size)⟩
end
end Go.Proofs.YthpifjcddgmjnaaGreat
