import Derived.Test.YthmegninhpihkaaGreatVScf
set_option maxHeartbeats 16000000
set_option maxRecDepth 100000
open Go.Proofs.Tryz
namespace Go.Proofs.YthmegninhpihkaaGreat
section
open Go.RowKit fG gm aF Go.Maps
abbrev nz:TypeId:=185
structure jk where
 A:Option Addr
 c:Nat
 l:List Int
def jk.v(q:jk):Value:=.slice q.A q.l.length q.c
def jk.cs(q:jk):List Value:=[q.v]
theorem jk.bZ(q:jk):q.cs.length=1:=rfl
theorem jk.pU(q:jk):∀u∈q.cs,u.oneCell'=true:=by
 intro u hu;rw[List.mem_singleton.1 hu];rfl
theorem O7:(prog.info? 35).map (fun i=>(i.zero,i.size,i.bytes))=some (some (.slice none 0 0),1,24):=by kernel_rfl
abbrev Du(w:World)(base:Nat)(v:Value)(l:List jk):Prop:=ax 35 1 jk.cs w base v l
theorem Kr(q:jk)(w:World):(Instr.buildSlice nz 1 #[(0,.slice q.A q.l.length q.c)]).run prog w=.ok (.slice (some ⟨w.heap.size,0,none⟩) 1 1) (w.alloc (.cells q.cs.toArray 35)):=by kernel_rfl
theorem KH{n0:Nat}{w:World}{v:Value}{l:List jk}(h:Du w n0 v l)(hb:n0<=w.heap.size)(q:jk){c:Nat}(hn:l.length<=900000000) :
  ∃v' w',(Builtin.append_ #[nz,nz] nz #[v,.slice (some ⟨w.heap.size,0,none⟩) 1 c]).run prog (w.alloc (.cells q.cs.toArray 35))=.ok v' w'∧Du w' n0 v' (l++[q]) ∧
   (w.alloc (.cells q.cs.toArray 35)).grownBy w' v.ownBlock∧(v'.ownBlock=v.ownBlock∨v'.ownBlock=some (w.heap.size+1)):=by
 obtain⟨v',w',h1,h2,h3,h4⟩:=ax.app (P:=prog) (xs:=[q]) (c:=c) (g:=w.heap.size) (o:=0) underlying185 O7 rfl (by decide) (by decide) jk.bZ jk.pU
  (h.below (bR.alloc nR (.cells q.cs.toArray 35))) (fun _=>jA (enc:=jk.cs) jk.bZ w [q] _ (by simp)) (by simp;omega) (by simp;omega)
 refine⟨v',w',h1,h2,h3,?_⟩
 simpa using h4
theorem YD.types{α β:Type}{T T2:TypeId}{k k2:Nat}{enc:α->List Value}{enc2:β->List Value}{w:World}{b b2:Nat}{v u:Value}{l:List α}{m:List β}(h:ax T k enc w b v l)(h2:ax T2 k2 enc2 w b2 u m)(hne:T≠T2):YD v u:=fun g hg hu=>by
 obtain⟨c1,f1,e1⟩:=ax.uY h hg;obtain⟨c2,f2,e2⟩:=ax.uY h2 hu;rw[e1]at e2;simp only[Option.some.injEq,Obj.cells.injEq]at e2;exact hne e2.2.1
theorem ax.yc{α:Type}{T:TypeId}{k:Nat}{enc:α->List Value}{w:World}{b ms:Nat}{v:Value}{l:List α}{Sn:Int->Prop}(h:ax T k enc w b v l)(hm:eX w ms Sn){g:Nat}(hg:v.ownBlock=some g):g≠ms:=fun e=>by
 obtain⟨c1,f1,e1⟩:=ax.uY h hg;obtain⟨es,h1,-⟩:=hm;obtain⟨es',clock,e2,_⟩:=h1.own;rw[e,e2]at e1;cases e1
theorem ax.off{α:Type}{T:TypeId}{k:Nat}{enc:α->List Value}{w w':World}{b ms:Nat}{v:Value}{l:List α}{Sn:Int->Prop}(h:ax T k enc w b v l)(hm:eX w ms Sn)(ht:ae (fun q=>q=ms) (fun q=>q=ms) w w'):ax T k enc w' b v l:=h.stays fun g hg=>(ht.far g (h.block hg).2 (h.yc hm hg)).2
def Bj(l:List dH)(j:Int):Prop:=∃o∈l,j=o.i∧touch o
theorem Rj{l:List dH}{o:dH}{j:Int}:Bj (l++[o]) j↔Bj l j∨(j=o.i∧touch o):=by
 unfold Bj;constructor
 ·rintro⟨o',h1,h2⟩;rcases List.mem_append.1 h1 with h1|h1
  ·exact .inl ⟨o',h1,h2⟩
  ·rw[List.mem_singleton.1 h1]at h2;exact .inr h2
 ·rintro(⟨o',h1,h2⟩|h)
  ·exact⟨o',List.mem_append_left _ h1,h2⟩
  ·exact⟨o,by simp,h⟩
theorem OV(w:World):(Instr.makeMap LX none).run prog w=.ok (.map (some w.heap.size)) (w.alloc (.map #[] 0)):=rfl
def StQ(t:T)(l:List dH)(w:World)(e:Ending)(w':World):Prop:=
 ∃(A:Option Addr) (c:Nat) (rs:List jk) (Sn:Int->Prop),e=.returned (.slice A rs.length c)∧Du w' w.heap.size (.slice A rs.length c) rs∧(∀q∈rs,aU w' w.heap.size q.v q.l)∧uM t (Bj l) (rs.map (·.l)) Sn∧rs.length<=l.length∧bz w w'
section
variable {w:World}{g b m:Nat}{s:Sh}{Z:ZZ}{x:aJ}
theorem Oh(FS:∀W,bz w W->ak W g b m s Z x)(hn:x.t.length<=900)(l:List iK)(A:Option Addr)(c:Nat)(ho:pY (af b m s x.t) w A l)(hok:∀q∈l,kK q.o)(hl:l.length<=1024) :
  Calls prog 76 #[.pointer (some ⟨g,0,none⟩),.slice A l.length c] w (StQ x.t (l.map (·.o)) w):=by
 have IQ:=Hd FS;have HO:=Hd ho;have dY:=Hd hok;have HN:=Hd hn;have uO:Hid (Ok x.t):=(FS w bR).tree.ok;have hlb:(l.length:Int)<=1024:=by omega
 have hb3:bz w (w.alloc (.map #[] 0)):=bR.alloc nR _;have HB3:=Hd hb3
 have sK:Hid (eX (w.alloc (.map #[] 0)) w.heap.size (fun _=>False)):=⟨[],VM.made w,fun j=>by simp[omap.look_nil],fun j v e=>by rw[omap.look_nil]at e;cases e⟩
 have hmm:=OV w;clear FS ho hok hn hb3;go_enter func76,ntmps76;go_wp2_with (fail);clear hmm
 go_loopw [12,5] (fun x12 x5 wr=>∃(j:Nat) (U:Option Addr) (uc:Nat) (rs:List jk) (Sn:Int->Prop),j<=l.length∧x12=.int .i64 j∧x5=.slice U rs.length uc∧Hid (Du wr w.heap.size (.slice U rs.length uc) rs)∧Hid (∀q∈rs,aU wr w.heap.size q.v q.l)∧Hid (uM x.t (Bj ((l.map (·.o)).take j)) (rs.map (·.l)) Sn)∧Hid (eX wr w.heap.size Sn)∧Hid (bz w wr)∧Hid (rs.length<=j)) (fun x12 _ _=>l.length - (intOf x12).toNat)
 case atStart=>exact⟨0,none,0,[],fun _=>False,Nat.zero_le _,rfl,rfl,ax.nil _ _,(fun q hq=>nomatch hq),(uM.start x.t).YG (fun j hj _=>by simp[Bj]at hj),sK.o,HB3.o,nR⟩
 case round=>
  obtain⟨j,U,uc,rs,Sn,hj,rfl,rfl,HU,HR,HST,HM,HB,qU⟩:=hrel;generalize wr=wA at*;clear sK HB3;by_cases hlt:j<l.length
  ·have t1:decide (j<l.length)=true:=by simpa using hlt
   have gQ:=Hd hlt;have HOA:=Hd (HO.o.turn (ae.below HB.o));obtain⟨lb,lo,eA,hcell⟩:=HOA.o.row (by omega);subst eA
   obtain⟨q,hq⟩:∃q,q=l[j]'hlt:=⟨_,rfl⟩
   have BK:Hid (q∈l):=by rw[hq];exact List.getElem_mem hlt
   have oZ:Hid (wA.rangeAt lb (lo+j*23) q.cs):=by
    rw[hq];exact fun i v hv=>hcell j hlt i v hv
   have AP:Hid (∀i,Bj ((l.map (·.o)).take (j+1)) i↔Bj ((l.map (·.o)).take j) i∨(i=q.o.i∧touch q.o)):=fun i=>by
    rw[List.take_succ_eq_append_getElem (by rw[List.length_map];exact hlt),Rj,List.getElem_map,hq]
   have V6:=Hd (dY.o q BK.o);clear hq hcell
   go_upto_block 1 with(fail)
   go_cut [5] from 14 to 38 (fun u wx=>∃(U:Option Addr) (uc:Nat) (rs:List jk) (Sn:Int->Prop),u=.slice U rs.length uc∧Hid (Du wx w.heap.size (.slice U rs.length uc) rs)∧Hid (∀q∈rs,aU wx w.heap.size q.v q.l)∧Hid (uM x.t (Bj ((l.map (·.o)).take (j+1))) (rs.map (·.l)) Sn)∧Hid (eX wx w.heap.size Sn)∧Hid (bz w wx)∧Hid (rs.length<=j+1))
   case first=>
    have HZ2:Hid (az (wA.alloc (.cells Vg.toArray 85)) wA.heap.size Vg):=aA wA Vg _;have iO:Hid (bz wA (wA.alloc (.cells Vg.toArray 85))):=bR.alloc nR _;have c0:=oZ.o 0 (.int .i64 q.o.k) rfl;have i0:lb<wA.heap.size:=World.block_lt_of_cell? wA ⟨lb,_,none⟩ c0;clear c0
    go_upto_region 6 with(first|((with_reducible refine gL ?_);refine qp 85 _ rfl rfl _ _ rfl (q.cs) oZ.o _ underlying85 rfl ag ?_)|((with_reducible refine gS ?_);refine ay 85 _ _ rfl rfl rfl _ 0 rfl (q.cs) rfl (Vg) HZ2.o (q.cs) rfl (nE rfl) ag (dH.one _ _ _) ?_;intro w3 HW3 dM))
    have HB3:Hid (bz wA w3):=HW3.o.below iO.o nR;have kZ:=Hd (HB.o.trans (HB3.o.mono HB.o.size));have qO:Hid (ak w3 g b m s Z x):=IQ.o _ kZ.o;have Ir:=Hd (ax.below HU.o HB3.o);have HR3:Hid (∀q∈rs,aU w3 w.heap.size q.v q.l):=fun q hq=>ax.below (HR.o q hq) HB3.o;have sK:=Hd (HM.o.below HB3.o);clear HZ2 iO HW3 oZ i0 hlt HOA HU HR HM HB;have c0:=dM.o.c 0 rfl;have c1:=dM.o.c 1 rfl;have i0:wA.heap.size<w3.heap.size:=dM.o.inside;by_cases h1:q.o.k=1
    ·have t1:(q.o.k==1)=true:=by simpa using h1
     have HTQ:Hid (touch q.o):=.inl h1;clear h1
     go_upto_region 10 with(fail)
     refine Q5 [22,23,24,25,26,27,28,29] (fun i=>match i with
      |0|1|2=>rp g 0
      |3=>rV (.iface 88 (.pointer (some ⟨b,0,none⟩)))
      |4=>rp wA.heap.size 1
      |5=>rV (.int .i64 q.o.i)
      |6=>(⟨fun v wv=>∃g9,v=.slice (some ⟨g9,0,none⟩) 1 1∧az wv g9 [.int .i64 q.o.i],fun v w1 w2 h hb=>h.elim fun g9 h=>⟨g9,h.1,az.below' h.2 hb⟩⟩:regs.kW regs.bl)
      |7=>rV (.bool (has x.t q.o.i))
      |_=>ra) ⟨?_,?_,?_,?_,?_,?_,?_,?_,trivial⟩ ?_
     any_goals (first|refine zp fun L a w1 hh=>?_|fail)
     have h0:=hh.p 0 g 0;rotate_left;have h22:=rq (hh.d 0 22);rotate_left;have h23:=rq (hh.d 1 23);have i0:=((qO.o.below hh.rel).blk.blk).inside;rotate_left;have CX:=rq (hh.d 2 24);have ⟨c0,i0⟩:=((qO.o.below hh.rel).blk.blk).ci 0 rfl;rotate_left;have h8:=hh.p 8 wA.heap.size 0;have i0:=(az.below' dM.o hh.rel).inside;rotate_left;have IX:=rq (hh.d 4 26);have ⟨c0,i0⟩:=(az.below' dM.o hh.rel).ci 1 rfl;rotate_left
     ·have h27:=rq (hh.d 5 27);have hJ:=hh.j;clear hh;exact BN _ _ _ rfl (by simp[go_sem,h27]) (uw q.o.i w1) ⟨_,rfl,bR.alloc nR _,⟨_,rfl,aA w1 [.int .i64 q.o.i] _⟩,hJ.o⟩
     ·have pO:=rq (hh.d 3 25)
      obtain⟨g9,e9,gK⟩:=(show ∃g9,(a.tmps.getD 28 undef)=.slice (some ⟨g9,0,none⟩) 1 1∧az w1 g9 [.int .i64 q.o.i] from hh.d 6 28)
      have h28:a.tmps[28]?.getD undef=.slice (some ⟨g9,0,none⟩) 1 1:=rq (e9);have hinv:=yh (.pointer (some ⟨b,0,none⟩));have hC:=Hd (Wu (qO.o.below hh.rel).tree (some ⟨g9,0,none⟩) [q.o.i] 1 (fun _=>⟨g9,0,rfl,fun j hj=>by have:j=0:=(by simp at hj;omega);subst this;exact gK.cell 0⟩) (fun z hz=>by rw[List.mem_singleton.1 hz];exact V6.o.i) (by simp));rw[show([q.o.i].all (has x.t))=has x.t q.o.i from by simp]at hC;clear e9 gK;have hJ:=hh.j;clear hh;go_simp;refine hC.o.mono ?_;rintro e w9 ⟨rfl,bD⟩;exact⟨_,rfl,bD,rfl,hJ.o⟩
     any_goals (clear hh;go_simp;exact⟨_,rfl,rB,rfl,trivial⟩)
     intro L w4 val hL hJ hR hv;have CW:val 29=.bool (has x.t q.o.i):=hv 7 29 ag;have HR4:=Hd hR;clear hv hL hJ hR;simp only[regs.aG,List.map_cons,List.map_nil,CW];simp only[Act.put,List.setIfInBounds_toArray,List.set_cons_zero,List.set_cons_succ];clear CW;generalize val 22=v22,val 23=v23,val 24=v24,val 25=v25,val 26=v26,val 27=v27,val 28=v28 at*;have qo:Hid (bz w3 w4):=HR4.o;have jq:=Hd (kZ.o.trans (qo.o.mono kZ.o.size));have I7:=Hd (ax.below Ir.o qo.o)
     have AV:Hid (∀q∈rs,aU w4 w.heap.size q.v q.l):=fun q hq=>ax.below (HR3.o q hq) qo.o;have gZ:=Hd (sK.o.below qo.o);have nZ:=Hd (az.below' dM.o qo.o);clear Ir HR3 sK dM qO c0 c1 i0;cases hh:has x.t q.o.i with
     |false=>
      have KW:Hid (uM x.t (Bj ((l.map (·.o)).take (j+1))) (rs.map (·.l)) Sn):=HST.o.YG fun i hi hx=>((AP.o i).1 hi).elim id fun h=>by rw[h.1,hh]at hx;cases hx
      clear hh;go_wp2_with (fail)
      go_meet
      case rel=>exact⟨U,uc,rs,Sn,rfl,I7,AV,KW,gZ,jq,Nat.le_succ_of_le qU.o⟩
     |true=>
      have Zt:=Hd hh;have UJ:=Hd (rD (w:=w4) w.heap.size (fun W ht=>IQ.o W (jq.o.trans (ht.aQ jq.o.size fun g e=>by rw[e];exact nR))) HN.o Sn gZ.o HST.o.hs q.o.i hh);unfold UnQ at UJ;clear hh;have c1:=nZ.o.c 1 rfl;have i0:wA.heap.size<w4.heap.size:=nZ.o.inside;go_wp2_with (fail);refine UJ.o.mono ?_;rintro e w5 ⟨A5,c5,row,next,k5,rfl,QH,YT,hk5,MX,yj⟩
      have Iu:Hid (uM x.t (Bj ((l.map (·.o)).take (j+1))) (rs.map (·.l)++[row]) (fun i=>Sn i∨i∈row)):=HST.o.add uO.o Zt.o YT hk5 (fun i hi=>((AP.o i).1 hi).imp id fun h=>h.1) fun i=>Iff.rfl;have gI:=Hd (jq.o.trans (yj.aQ jq.o.size fun g e=>by rw[e];exact nR));have BH:=Hd (ax.off I7.o gZ.o yj);have Bf:Hid (aU w5 w.heap.size (.slice A5 row.length c5) row):=ax.weaken QH jq.o.size;have kL:Hid (∀q∈rs,aU w5 w.heap.size q.v q.l):=fun q hq=>ax.off (AV.o q hq) gZ.o yj;have o8:=Hd MX
      obtain⟨v6,w6,hrun,JM,BC,YV⟩:=KH BH.o gI.o.size ⟨A5,c5,row⟩ (c:=1) (by have:=qU.o;have:=gQ.o;omega);have BB:ae (Ow (.slice U rs.length uc)) (Ow (.slice U rs.length uc)) w5 w6:=(ae.below (bR.alloc nR _)).trans (ae.grown BC fun k hk=>hk);have sD:=Hd (gI.o.trans (BB.aQ gI.o.size fun g hg=>(ax.block BH.o hg).1));have yB:Hid (eX w6 w.heap.size (fun i=>Sn i∨i∈row)):=o8.o.stays (BB.far _ o8.o.inside fun e=>ax.yc BH.o o8.o e rfl).2
      have Qs:Hid (∀q∈rs++[⟨A5,c5,row⟩],aU w6 w.heap.size q.v q.l):=fun q hq=>by
       have h5:aU w5 w.heap.size q.v q.l:=by
        rcases List.mem_append.1 hq with hq|hq
        ·exact kL.o q hq
        ·rw[List.mem_singleton.1 hq];exact Bf.o
       exact ax.apart h5 (YD.types h5 BH.o (by decide)) BB
      have UL:Hid (uM x.t (Bj ((l.map (·.o)).take (j+1))) ((rs++[(⟨A5,c5,row⟩:jk)]).map (fun q:jk=>q.l)) (fun i=>Sn i∨i∈row)):=by
       have:=Iu.o
       rwa [show(rs++[(⟨A5,c5,row⟩:jk)]).map (fun q:jk=>q.l)=rs.map (fun q:jk=>q.l)++[row] from by simp]
      obtain⟨U6,uc6,rfl,-,-,-⟩:=ax.row JM jk.bZ;have HU6:=Hd JM;clear QH YT hk5 MX yj JM BC YV BB UJ HST Iu gZ I7 AV o8 BH kL Bf gI c1 i0;go_wp2_with (first|((with_reducible refine gB ?_);refine jv _ _ _ rfl rfl (by simp[go_sem]) (Kr ⟨A5,c5,row⟩ _) ?_)|(at_builtin;refine bG rfl _ _ nz nz nz rfl rfl _ _ _ _ rfl rfl hrun ?_;clear hrun))
      go_meet
      case rel=>exact⟨U6,uc6,_,_,by simp,HU6,Qs,UL,yB,sD,by have:=qU.o;simp;omega⟩
    by_cases h3:q.o.k=3
    ·have t1:(q.o.k==1)=false:=by simpa using h1
     have t3:(q.o.k==3)=true:=by simpa using h3
     have HTQ:Hid (touch q.o):=.inr (.inl h3);clear h1 h3
     go_upto_region 10 with(fail)
     refine Q5 [22,23,24,25,26,27,28,29] (fun i=>match i with
      |0|1|2=>rp g 0
      |3=>rV (.iface 88 (.pointer (some ⟨b,0,none⟩)))
      |4=>rp wA.heap.size 1
      |5=>rV (.int .i64 q.o.i)
      |6=>(⟨fun v wv=>∃g9,v=.slice (some ⟨g9,0,none⟩) 1 1∧az wv g9 [.int .i64 q.o.i],fun v w1 w2 h hb=>h.elim fun g9 h=>⟨g9,h.1,az.below' h.2 hb⟩⟩:regs.kW regs.bl)
      |7=>rV (.bool (has x.t q.o.i))
      |_=>ra) ⟨?_,?_,?_,?_,?_,?_,?_,?_,trivial⟩ ?_
     any_goals (first|refine zp fun L a w1 hh=>?_|fail)
     have h0:=hh.p 0 g 0;rotate_left;have h22:=rq (hh.d 0 22);rotate_left;have h23:=rq (hh.d 1 23);have i0:=((qO.o.below hh.rel).blk.blk).inside;rotate_left;have CX:=rq (hh.d 2 24);have ⟨c0,i0⟩:=((qO.o.below hh.rel).blk.blk).ci 0 rfl;rotate_left;have h8:=hh.p 8 wA.heap.size 0;have i0:=(az.below' dM.o hh.rel).inside;rotate_left;have IX:=rq (hh.d 4 26);have ⟨c0,i0⟩:=(az.below' dM.o hh.rel).ci 1 rfl;rotate_left
     ·have h27:=rq (hh.d 5 27);have hJ:=hh.j;clear hh;exact BN _ _ _ rfl (by simp[go_sem,h27]) (uw q.o.i w1) ⟨_,rfl,bR.alloc nR _,⟨_,rfl,aA w1 [.int .i64 q.o.i] _⟩,hJ.o⟩
     ·have pO:=rq (hh.d 3 25)
      obtain⟨g9,e9,gK⟩:=(show ∃g9,(a.tmps.getD 28 undef)=.slice (some ⟨g9,0,none⟩) 1 1∧az w1 g9 [.int .i64 q.o.i] from hh.d 6 28)
      have h28:a.tmps[28]?.getD undef=.slice (some ⟨g9,0,none⟩) 1 1:=rq (e9);have hinv:=yh (.pointer (some ⟨b,0,none⟩));have hC:=Hd (Wu (qO.o.below hh.rel).tree (some ⟨g9,0,none⟩) [q.o.i] 1 (fun _=>⟨g9,0,rfl,fun j hj=>by have:j=0:=(by simp at hj;omega);subst this;exact gK.cell 0⟩) (fun z hz=>by rw[List.mem_singleton.1 hz];exact V6.o.i) (by simp));rw[show([q.o.i].all (has x.t))=has x.t q.o.i from by simp]at hC;clear e9 gK;have hJ:=hh.j;clear hh;go_simp;refine hC.o.mono ?_;rintro e w9 ⟨rfl,bD⟩;exact⟨_,rfl,bD,rfl,hJ.o⟩
     any_goals (clear hh;go_simp;exact⟨_,rfl,rB,rfl,trivial⟩)
     intro L w4 val hL hJ hR hv;have CW:val 29=.bool (has x.t q.o.i):=hv 7 29 ag;have HR4:=Hd hR;clear hv hL hJ hR;simp only[regs.aG,List.map_cons,List.map_nil,CW];simp only[Act.put,List.setIfInBounds_toArray,List.set_cons_zero,List.set_cons_succ];clear CW;generalize val 22=v22,val 23=v23,val 24=v24,val 25=v25,val 26=v26,val 27=v27,val 28=v28 at*;have qo:Hid (bz w3 w4):=HR4.o;have jq:=Hd (kZ.o.trans (qo.o.mono kZ.o.size));have I7:=Hd (ax.below Ir.o qo.o)
     have AV:Hid (∀q∈rs,aU w4 w.heap.size q.v q.l):=fun q hq=>ax.below (HR3.o q hq) qo.o;have gZ:=Hd (sK.o.below qo.o);have nZ:=Hd (az.below' dM.o qo.o);clear Ir HR3 sK dM qO c0 c1 i0;cases hh:has x.t q.o.i with
     |false=>
      have KW:Hid (uM x.t (Bj ((l.map (·.o)).take (j+1))) (rs.map (·.l)) Sn):=HST.o.YG fun i hi hx=>((AP.o i).1 hi).elim id fun h=>by rw[h.1,hh]at hx;cases hx
      clear hh;go_wp2_with (fail)
      go_meet
      case rel=>exact⟨U,uc,rs,Sn,rfl,I7,AV,KW,gZ,jq,Nat.le_succ_of_le qU.o⟩
     |true=>
      have Zt:=Hd hh;have UJ:=Hd (rD (w:=w4) w.heap.size (fun W ht=>IQ.o W (jq.o.trans (ht.aQ jq.o.size fun g e=>by rw[e];exact nR))) HN.o Sn gZ.o HST.o.hs q.o.i hh);unfold UnQ at UJ;clear hh;have c1:=nZ.o.c 1 rfl;have i0:wA.heap.size<w4.heap.size:=nZ.o.inside;go_wp2_with (fail);refine UJ.o.mono ?_;rintro e w5 ⟨A5,c5,row,next,k5,rfl,QH,YT,hk5,MX,yj⟩
      have Iu:Hid (uM x.t (Bj ((l.map (·.o)).take (j+1))) (rs.map (·.l)++[row]) (fun i=>Sn i∨i∈row)):=HST.o.add uO.o Zt.o YT hk5 (fun i hi=>((AP.o i).1 hi).imp id fun h=>h.1) fun i=>Iff.rfl;have gI:=Hd (jq.o.trans (yj.aQ jq.o.size fun g e=>by rw[e];exact nR));have BH:=Hd (ax.off I7.o gZ.o yj);have Bf:Hid (aU w5 w.heap.size (.slice A5 row.length c5) row):=ax.weaken QH jq.o.size;have kL:Hid (∀q∈rs,aU w5 w.heap.size q.v q.l):=fun q hq=>ax.off (AV.o q hq) gZ.o yj;have o8:=Hd MX
      obtain⟨v6,w6,hrun,JM,BC,YV⟩:=KH BH.o gI.o.size ⟨A5,c5,row⟩ (c:=1) (by have:=qU.o;have:=gQ.o;omega);have BB:ae (Ow (.slice U rs.length uc)) (Ow (.slice U rs.length uc)) w5 w6:=(ae.below (bR.alloc nR _)).trans (ae.grown BC fun k hk=>hk);have sD:=Hd (gI.o.trans (BB.aQ gI.o.size fun g hg=>(ax.block BH.o hg).1));have yB:Hid (eX w6 w.heap.size (fun i=>Sn i∨i∈row)):=o8.o.stays (BB.far _ o8.o.inside fun e=>ax.yc BH.o o8.o e rfl).2
      have Qs:Hid (∀q∈rs++[⟨A5,c5,row⟩],aU w6 w.heap.size q.v q.l):=fun q hq=>by
       have h5:aU w5 w.heap.size q.v q.l:=by
        rcases List.mem_append.1 hq with hq|hq
        ·exact kL.o q hq
        ·rw[List.mem_singleton.1 hq];exact Bf.o
       exact ax.apart h5 (YD.types h5 BH.o (by decide)) BB
      have UL:Hid (uM x.t (Bj ((l.map (·.o)).take (j+1))) ((rs++[(⟨A5,c5,row⟩:jk)]).map (fun q:jk=>q.l)) (fun i=>Sn i∨i∈row)):=by
       have:=Iu.o
       rwa [show(rs++[(⟨A5,c5,row⟩:jk)]).map (fun q:jk=>q.l)=rs.map (fun q:jk=>q.l)++[row] from by simp]
      obtain⟨U6,uc6,rfl,-,-,-⟩:=ax.row JM jk.bZ;have HU6:=Hd JM;clear QH YT hk5 MX yj JM BC YV BB UJ HST Iu gZ I7 AV o8 BH kL Bf gI c1 i0;go_wp2_with (first|((with_reducible refine gB ?_);refine jv _ _ _ rfl rfl (by simp[go_sem]) (Kr ⟨A5,c5,row⟩ _) ?_)|(at_builtin;refine bG rfl _ _ nz nz nz rfl rfl _ _ _ _ rfl rfl hrun ?_;clear hrun))
      go_meet
      case rel=>exact⟨U6,uc6,_,_,by simp,HU6,Qs,UL,yB,sD,by have:=qU.o;simp;omega⟩
    by_cases h4:q.o.k=4
    ·have t1:(q.o.k==1)=false:=by simpa using h1
     have t3:(q.o.k==3)=false:=by simpa using h3
     have t4:(q.o.k==4)=true:=by simpa using h4
     have HTQ:Hid (touch q.o):=.inr (.inr h4);clear h1 h3 h4
     go_upto_region 10 with(fail)
     refine Q5 [22,23,24,25,26,27,28,29] (fun i=>match i with
      |0|1|2=>rp g 0
      |3=>rV (.iface 88 (.pointer (some ⟨b,0,none⟩)))
      |4=>rp wA.heap.size 1
      |5=>rV (.int .i64 q.o.i)
      |6=>(⟨fun v wv=>∃g9,v=.slice (some ⟨g9,0,none⟩) 1 1∧az wv g9 [.int .i64 q.o.i],fun v w1 w2 h hb=>h.elim fun g9 h=>⟨g9,h.1,az.below' h.2 hb⟩⟩:regs.kW regs.bl)
      |7=>rV (.bool (has x.t q.o.i))
      |_=>ra) ⟨?_,?_,?_,?_,?_,?_,?_,?_,trivial⟩ ?_
     any_goals (first|refine zp fun L a w1 hh=>?_|fail)
     have h0:=hh.p 0 g 0;rotate_left;have h22:=rq (hh.d 0 22);rotate_left;have h23:=rq (hh.d 1 23);have i0:=((qO.o.below hh.rel).blk.blk).inside;rotate_left;have CX:=rq (hh.d 2 24);have ⟨c0,i0⟩:=((qO.o.below hh.rel).blk.blk).ci 0 rfl;rotate_left;have h8:=hh.p 8 wA.heap.size 0;have i0:=(az.below' dM.o hh.rel).inside;rotate_left;have IX:=rq (hh.d 4 26);have ⟨c0,i0⟩:=(az.below' dM.o hh.rel).ci 1 rfl;rotate_left
     ·have h27:=rq (hh.d 5 27);have hJ:=hh.j;clear hh;exact BN _ _ _ rfl (by simp[go_sem,h27]) (uw q.o.i w1) ⟨_,rfl,bR.alloc nR _,⟨_,rfl,aA w1 [.int .i64 q.o.i] _⟩,hJ.o⟩
     ·have pO:=rq (hh.d 3 25)
      obtain⟨g9,e9,gK⟩:=(show ∃g9,(a.tmps.getD 28 undef)=.slice (some ⟨g9,0,none⟩) 1 1∧az w1 g9 [.int .i64 q.o.i] from hh.d 6 28)
      have h28:a.tmps[28]?.getD undef=.slice (some ⟨g9,0,none⟩) 1 1:=rq (e9);have hinv:=yh (.pointer (some ⟨b,0,none⟩));have hC:=Hd (Wu (qO.o.below hh.rel).tree (some ⟨g9,0,none⟩) [q.o.i] 1 (fun _=>⟨g9,0,rfl,fun j hj=>by have:j=0:=(by simp at hj;omega);subst this;exact gK.cell 0⟩) (fun z hz=>by rw[List.mem_singleton.1 hz];exact V6.o.i) (by simp));rw[show([q.o.i].all (has x.t))=has x.t q.o.i from by simp]at hC;clear e9 gK;have hJ:=hh.j;clear hh;go_simp;refine hC.o.mono ?_;rintro e w9 ⟨rfl,bD⟩;exact⟨_,rfl,bD,rfl,hJ.o⟩
     any_goals (clear hh;go_simp;exact⟨_,rfl,rB,rfl,trivial⟩)
     intro L w4 val hL hJ hR hv;have CW:val 29=.bool (has x.t q.o.i):=hv 7 29 ag;have HR4:=Hd hR;clear hv hL hJ hR;simp only[regs.aG,List.map_cons,List.map_nil,CW];simp only[Act.put,List.setIfInBounds_toArray,List.set_cons_zero,List.set_cons_succ];clear CW
     skip
     have qo:Hid (bz w3 w4):=HR4.o;have jq:=Hd (kZ.o.trans (qo.o.mono kZ.o.size));have I7:=Hd (ax.below Ir.o qo.o);have AV:Hid (∀q∈rs,aU w4 w.heap.size q.v q.l):=fun q hq=>ax.below (HR3.o q hq) qo.o;have gZ:=Hd (sK.o.below qo.o);have nZ:=Hd (az.below' dM.o qo.o);clear Ir HR3 sK dM qO c0 c1 i0;cases hh:has x.t q.o.i with
     |false=>
      have KW:Hid (uM x.t (Bj ((l.map (·.o)).take (j+1))) (rs.map (·.l)) Sn):=HST.o.YG fun i hi hx=>((AP.o i).1 hi).elim id fun h=>by rw[h.1,hh]at hx;cases hx
      clear hh;go_wp2_with (fail)
      go_meet
      case rel=>exact⟨U,uc,rs,Sn,rfl,I7,AV,KW,gZ,jq,Nat.le_succ_of_le qU.o⟩
     |true=>
      have Zt:=Hd hh;have UJ:=Hd (rD (w:=w4) w.heap.size (fun W ht=>IQ.o W (jq.o.trans (ht.aQ jq.o.size fun g e=>by rw[e];exact nR))) HN.o Sn gZ.o HST.o.hs q.o.i hh);unfold UnQ at UJ;clear hh;have c1:=nZ.o.c 1 rfl;have i0:wA.heap.size<w4.heap.size:=nZ.o.inside;go_wp2_with (fail);refine UJ.o.mono ?_;rintro e w5 ⟨A5,c5,row,next,k5,rfl,QH,YT,hk5,MX,yj⟩
      have Iu:Hid (uM x.t (Bj ((l.map (·.o)).take (j+1))) (rs.map (·.l)++[row]) (fun i=>Sn i∨i∈row)):=HST.o.add uO.o Zt.o YT hk5 (fun i hi=>((AP.o i).1 hi).imp id fun h=>h.1) fun i=>Iff.rfl;have gI:=Hd (jq.o.trans (yj.aQ jq.o.size fun g e=>by rw[e];exact nR));have BH:=Hd (ax.off I7.o gZ.o yj);have Bf:Hid (aU w5 w.heap.size (.slice A5 row.length c5) row):=ax.weaken QH jq.o.size;have kL:Hid (∀q∈rs,aU w5 w.heap.size q.v q.l):=fun q hq=>ax.off (AV.o q hq) gZ.o yj;have o8:=Hd MX
      obtain⟨v6,w6,hrun,JM,BC,YV⟩:=KH BH.o gI.o.size ⟨A5,c5,row⟩ (c:=1) (by have:=qU.o;have:=gQ.o;omega);have BB:ae (Ow (.slice U rs.length uc)) (Ow (.slice U rs.length uc)) w5 w6:=(ae.below (bR.alloc nR _)).trans (ae.grown BC fun k hk=>hk);have sD:=Hd (gI.o.trans (BB.aQ gI.o.size fun g hg=>(ax.block BH.o hg).1));have yB:Hid (eX w6 w.heap.size (fun i=>Sn i∨i∈row)):=o8.o.stays (BB.far _ o8.o.inside fun e=>ax.yc BH.o o8.o e rfl).2
      have Qs:Hid (∀q∈rs++[⟨A5,c5,row⟩],aU w6 w.heap.size q.v q.l):=fun q hq=>by
       have h5:aU w5 w.heap.size q.v q.l:=by
        rcases List.mem_append.1 hq with hq|hq
        ·exact kL.o q hq
        ·rw[List.mem_singleton.1 hq];exact Bf.o
       exact ax.apart h5 (YD.types h5 BH.o (by decide)) BB
      have UL:Hid (uM x.t (Bj ((l.map (·.o)).take (j+1))) ((rs++[(⟨A5,c5,row⟩:jk)]).map (fun q:jk=>q.l)) (fun i=>Sn i∨i∈row)):=by
       have:=Iu.o
       rwa [show(rs++[(⟨A5,c5,row⟩:jk)]).map (fun q:jk=>q.l)=rs.map (fun q:jk=>q.l)++[row] from by simp]
      obtain⟨U6,uc6,rfl,-,-,-⟩:=ax.row JM jk.bZ;have HU6:=Hd JM;clear QH YT hk5 MX yj JM BC YV BB UJ HST Iu gZ I7 AV o8 BH kL Bf gI c1 i0;go_wp2_with (first|((with_reducible refine gB ?_);refine jv _ _ _ rfl rfl (by simp[go_sem]) (Kr ⟨A5,c5,row⟩ _) ?_)|(at_builtin;refine bG rfl _ _ nz nz nz rfl rfl _ _ _ _ rfl rfl hrun ?_;clear hrun))
      go_meet
      case rel=>exact⟨U6,uc6,_,_,by simp,HU6,Qs,UL,yB,sD,by have:=qU.o;simp;omega⟩
    have t1:(q.o.k==1)=false:=by simpa using h1
    have t3:(q.o.k==3)=false:=by simpa using h3
    have t4:(q.o.k==4)=false:=by simpa using h4
    have KW:Hid (uM x.t (Bj ((l.map (·.o)).take (j+1))) (rs.map (·.l)) Sn):=HST.o.YG fun i hi _=>((AP.o i).1 hi).elim id fun h=>(h.2.elim h1 fun h=>h.elim h3 h4).elim;clear h1 h3 h4;go_wp2_with (fail)
    go_meet
    case rel=>exact⟨U,uc,rs,Sn,rfl,Ir,HR3,KW,sK,kZ,Nat.le_succ_of_le qU.o⟩
   case rest=>
    obtain⟨U2,uc2,rs2,Sn2,rfl,HU2,HR2,KZ,Ll,HB2,a4o⟩:=hcut;clear HST qU oZ hlt HOA;go_wp2_with (fail)
    go_roundw
    case rel=>exact⟨j+1,U2,uc2,rs2,Sn2,gQ.o,by go_num,rfl,HU2,HR2,KZ,Ll,HB2,a4o⟩
    case measure=>have:=gQ.o;simp[intOf];omega
  ·obtain rfl:j=l.length:=by omega
   have t1:decide (l.length<l.length)=false:=by simp
   clear hlt;go_wp2_with (fail);go_ret;refine⟨U,uc,rs,Sn,rfl,HU.o,HR.o,?_,?_,HB.o⟩
   ·have:=HST.o
    rwa [List.take_of_length_le (by rw[List.length_map];exact nR)]at this
   ·rw[List.length_map];exact qU.o
end
end
end Go.Proofs.YthmegninhpihkaaGreat
