import Derived.Test.YthmegninhpihkaaGreatWScf
set_option maxHeartbeats 16000000
set_option maxRecDepth 100000
open Go.Proofs.Tryz
namespace Go.Proofs.YthmegninhpihkaaGreat
section
open Go.RowKit fF fO aF Go.Maps
abbrev oC:TypeId:=185
structure jv where
 A:Option Addr
 c:Nat
 l:List Int
def jv.v(q:jv):Value:=.slice q.A q.l.length q.c
def jv.cs(q:jv):List Value:=[q.v]
theorem jv.bF(q:jv):q.cs.length=1:=rfl
theorem jv.qI(q:jv):∀u∈q.cs,u.oneCell'=true:=by
 intro u hu;rw[List.mem_singleton.1 hu];rfl
theorem QW:(prog.info? 35).map (fun i=>(i.zero,i.size,i.bytes))=some (some (.slice none 0 0),1,24):=by kernel_rfl
abbrev ED(w:World)(base:Nat)(v:Value)(l:List jv):Prop:=ak 35 1 jv.cs w base v l
theorem MS(q:jv)(w:World):(Instr.buildSlice oC 1 #[(0,.slice q.A q.l.length q.c)]).run prog w=.ok (.slice (some ⟨w.heap.size,0,none⟩) 1 1) (w.alloc (.cells q.cs.toArray 35)):=by kernel_rfl
theorem Nl{n0:Nat}{w:World}{v:Value}{l:List jv}(h:ED w n0 v l)(hb:n0<=w.heap.size)(q:jv){c:Nat}(hn:l.length<=900000000) :
  ∃v' w',(Builtin.append_ #[oC,oC] oC #[v,.slice (some ⟨w.heap.size,0,none⟩) 1 c]).run prog (w.alloc (.cells q.cs.toArray 35))=.ok v' w'∧ED w' n0 v' (l++[q]) ∧
   (w.alloc (.cells q.cs.toArray 35)).grownBy w' v.ownBlock∧(v'.ownBlock=v.ownBlock∨v'.ownBlock=some (w.heap.size+1)):=by
 obtain⟨v',w',h1,h2,h3,h4⟩:=ak.app (P:=prog) (xs:=[q]) (c:=c) (g:=w.heap.size) (o:=0) underlying185 QW rfl (by decide) (by decide) jv.bF jv.qI
  (h.below (bR.alloc nR (.cells q.cs.toArray 35))) (fun _=>jE (enc:=jv.cs) jv.bF w [q] _ (by simp)) (by simp;omega) (by simp;omega)
 refine⟨v',w',h1,h2,h3,?_⟩
 simpa using h4
theorem ApV.types{α β:Type}{T T2:TypeId}{k k2:Nat}{enc:α->List Value}{enc2:β->List Value}{w:World}{b b2:Nat}{v u:Value}{l:List α}{m:List β}(h:ak T k enc w b v l)(h2:ak T2 k2 enc2 w b2 u m)(hne:T≠T2):ApV v u:=fun g hg hu=>by
 obtain⟨c1,f1,e1⟩:=ak.wo h hg;obtain⟨c2,f2,e2⟩:=ak.wo h2 hu;rw[e1]at e2;simp only[Option.some.injEq,Obj.cells.injEq]at e2;exact hne e2.2.1
theorem ak.yY{α:Type}{T:TypeId}{k:Nat}{enc:α->List Value}{w:World}{b ms:Nat}{v:Value}{l:List α}{Sn:Int->Prop}(h:ak T k enc w b v l)(hm:fC w ms Sn){g:Nat}(hg:v.ownBlock=some g):g≠ms:=fun e=>by
 obtain⟨c1,f1,e1⟩:=ak.wo h hg;obtain⟨es,h1,-⟩:=hm;obtain⟨es',clock,e2,_⟩:=h1.own;rw[e,e2]at e1;cases e1
theorem ak.off{α:Type}{T:TypeId}{k:Nat}{enc:α->List Value}{w w':World}{b ms:Nat}{v:Value}{l:List α}{Sn:Int->Prop}(h:ak T k enc w b v l)(hm:fC w ms Sn)(ht:ae (fun q=>q=ms) (fun q=>q=ms) w w'):ak T k enc w' b v l:=h.stays fun g hg=>(ht.far g (h.block hg).2 (h.yY hm hg)).2
def CY(l:List dU)(j:Int):Prop:=∃o∈l,j=o.i∧touch o
theorem Ur{l:List dU}{o:dU}{j:Int}:CY (l++[o]) j↔CY l j∨(j=o.i∧touch o):=by
 unfold CY;constructor
 ·rintro⟨o',h1,h2⟩;rcases List.mem_append.1 h1 with h1|h1
  ·exact .inl ⟨o',h1,h2⟩
  ·rw[List.mem_singleton.1 h1]at h2;exact .inr h2
 ·rintro(⟨o',h1,h2⟩|h)
  ·exact⟨o',List.mem_append_left _ h1,h2⟩
  ·exact⟨o,by simp,h⟩
theorem QM(w:World):(Instr.makeMap Om none).run prog w=.ok (.map (some w.heap.size)) (w.alloc (.map #[] 0)):=rfl
def StQ(t:T)(l:List dU)(w:World)(e:Ending)(w':World):Prop:=
 ∃(A:Option Addr) (c:Nat) (rs:List jv) (Sn:Int->Prop),e=.returned (.slice A rs.length c)∧ED w' w.heap.size (.slice A rs.length c) rs∧(∀q∈rs,aP w' w.heap.size q.v q.l)∧vT t (CY l) (rs.map (·.l)) Sn∧rs.length<=l.length∧bz w w'
section
variable {w:World}{g b m:Nat}{s:Sh}{Z:ZZ}{x:aJ}
theorem Qe(FS:∀W,bz w W->ax W g b m s Z x)(hn:x.t.length<=900)(l:List iZ)(A:Option Addr)(c:Nat)(ho:qM (af b m s x.t) w A l)(hok:∀q∈l,mW q.o)(hl:l.length<=1024) :
  Calls prog 76 #[.pointer (some ⟨g,0,none⟩),.slice A l.length c] w (StQ x.t (l.map (·.o)) w):=by
 have J9:=Hd FS;have HO:=Hd ho;have dW:=Hd hok;have HN:=Hd hn;have qQ:Hid (Ok x.t):=(FS w bR).tree.ok;have hlb:(l.length:Int)<=1024:=by omega
 have hb3:bz w (w.alloc (.map #[] 0)):=bR.alloc nR _;have HB3:=Hd hb3
 have uj:Hid (fC (w.alloc (.map #[] 0)) w.heap.size (fun _=>False)):=⟨[],VM.made w,fun j=>by simp[omap.look_nil],fun j v e=>by rw[omap.look_nil]at e;cases e⟩
 have hmm:=QM w;clear FS ho hok hn hb3;go_enter func76,ntmps76;go_wp2_with (fail);clear hmm
 go_loopw [12,5] (fun x12 x5 wr=>∃(j:Nat) (U:Option Addr) (uc:Nat) (rs:List jv) (Sn:Int->Prop),j<=l.length∧x12=.int .i64 j∧x5=.slice U rs.length uc∧Hid (ED wr w.heap.size (.slice U rs.length uc) rs)∧Hid (∀q∈rs,aP wr w.heap.size q.v q.l)∧Hid (vT x.t (CY ((l.map (·.o)).take j)) (rs.map (·.l)) Sn)∧Hid (fC wr w.heap.size Sn)∧Hid (bz w wr)∧Hid (rs.length<=j)) (fun x12 _ _=>l.length - (intOf x12).toNat)
 case atStart=>exact⟨0,none,0,[],fun _=>False,Nat.zero_le _,rfl,rfl,ak.nil _ _,(fun q hq=>nomatch hq),(vT.start x.t).tcs (fun j hj _=>by simp[CY]at hj),uj.o,HB3.o,nR⟩
 case round=>
  obtain⟨j,U,uc,rs,Sn,hj,rfl,rfl,HU,HR,HST,HM,HB,qR⟩:=hrel;generalize wr=wA at*;clear uj HB3;by_cases hlt:j<l.length
  ·have t1:decide (j<l.length)=true:=by simpa using hlt
   have dV:=Hd hlt;have HOA:=Hd (HO.o.turn (ae.below HB.o));obtain⟨lb,lo,eA,hcell⟩:=HOA.o.row (by omega);subst eA
   obtain⟨q,hq⟩:∃q,q=l[j]'hlt:=⟨_,rfl⟩
   have Dv:Hid (q∈l):=by rw[hq];exact List.getElem_mem hlt
   have oh:Hid (wA.rangeAt lb (lo+j*23) q.cs):=by
    rw[hq];exact fun i v hv=>hcell j hlt i v hv
   have Cc:Hid (∀i,CY ((l.map (·.o)).take (j+1)) i↔CY ((l.map (·.o)).take j) i∨(i=q.o.i∧touch q.o)):=fun i=>by
    rw[List.take_succ_eq_append_getElem (by rw[List.length_map];exact hlt),Ur,List.getElem_map,hq]
   have JP:=Hd (dW.o q Dv.o);clear hq hcell
   go_upto_block 1 with(fail)
   go_cut [5] from 14 to 38 (fun u wx=>∃(U:Option Addr) (uc:Nat) (rs:List jv) (Sn:Int->Prop),u=.slice U rs.length uc∧Hid (ED wx w.heap.size (.slice U rs.length uc) rs)∧Hid (∀q∈rs,aP wx w.heap.size q.v q.l)∧Hid (vT x.t (CY ((l.map (·.o)).take (j+1))) (rs.map (·.l)) Sn)∧Hid (fC wx w.heap.size Sn)∧Hid (bz w wx)∧Hid (rs.length<=j+1))
   case first=>
    have HZ2:Hid (aA (wA.alloc (.cells Vg.toArray 85)) wA.heap.size Vg):=az wA Vg _;have jW:Hid (bz wA (wA.alloc (.cells Vg.toArray 85))):=bR.alloc nR _;have c0:=oh.o 0 (.int .i64 q.o.k) rfl;have i0:lb<wA.heap.size:=World.block_lt_of_cell? wA ⟨lb,_,none⟩ c0;clear c0
    go_upto_region 6 with(first|((with_reducible refine gL ?_);refine lF 85 _ rfl rfl _ _ rfl (q.cs) oh.o _ underlying85 rfl ag ?_)|((with_reducible refine gS ?_);refine ay 85 _ _ rfl rfl rfl _ 0 rfl (q.cs) rfl (Vg) HZ2.o (q.cs) rfl (nE rfl) ag (dU.one _ _ _) ?_;intro w3 HW3 dO))
    have HB3:Hid (bz wA w3):=HW3.o.below jW.o nR;have lN:=Hd (HB.o.trans (HB3.o.mono HB.o.size));have rW:Hid (ax w3 g b m s Z x):=J9.o _ lN.o;have JK:=Hd (ak.below HU.o HB3.o);have HR3:Hid (∀q∈rs,aP w3 w.heap.size q.v q.l):=fun q hq=>ak.below (HR.o q hq) HB3.o;have uj:=Hd (HM.o.below HB3.o);clear HZ2 jW HW3 oh i0 hlt HOA HU HR HM HB;have c0:=dO.o.c 0 rfl;have c1:=dO.o.c 1 rfl;have i0:wA.heap.size<w3.heap.size:=dO.o.inside;by_cases h1:q.o.k=1
    ·have t1:(q.o.k==1)=true:=by simpa using h1
     have HTQ:Hid (touch q.o):=.inl h1;clear h1
     go_upto_region 10 with(fail)
     refine Uj [22,23,24,25,26,27,28,29] (fun i=>match i with
      |0|1|2=>rp g 0
      |3=>rV (.iface 88 (.pointer (some ⟨b,0,none⟩)))
      |4=>rp wA.heap.size 1
      |5=>rV (.int .i64 q.o.i)
      |6=>(⟨fun v wv=>∃g9,v=.slice (some ⟨g9,0,none⟩) 1 1∧aA wv g9 [.int .i64 q.o.i],fun v w1 w2 h hb=>h.elim fun g9 h=>⟨g9,h.1,aA.below' h.2 hb⟩⟩:regs.kX regs.bl)
      |7=>rV (.bool (has x.t q.o.i))
      |_=>ra) ⟨?_,?_,?_,?_,?_,?_,?_,?_,trivial⟩ ?_
     any_goals (first|refine zp fun L a w1 hh=>?_|fail)
     have h0:=hh.p 0 g 0;rotate_left;have h22:=rq (hh.d 0 22);rotate_left;have h23:=rq (hh.d 1 23);have i0:=((rW.o.below hh.rel).blk.blk).inside;rotate_left;have Ba:=rq (hh.d 2 24);have ⟨c0,i0⟩:=((rW.o.below hh.rel).blk.blk).ci 0 rfl;rotate_left;have h8:=hh.p 8 wA.heap.size 0;have i0:=(aA.below' dO.o hh.rel).inside;rotate_left;have IZ:=rq (hh.d 4 26);have ⟨c0,i0⟩:=(aA.below' dO.o hh.rel).ci 1 rfl;rotate_left
     ·have h27:=rq (hh.d 5 27);have hJ:=hh.j;clear hh;exact zJ _ _ _ rfl (by simp[go_sem,h27]) (vz q.o.i w1) ⟨_,rfl,bR.alloc nR _,⟨_,rfl,az w1 [.int .i64 q.o.i] _⟩,hJ.o⟩
     ·have Dj:=rq (hh.d 3 25)
      obtain⟨g9,e9,fJ⟩:=(show ∃g9,(a.tmps.getD 28 undef)=.slice (some ⟨g9,0,none⟩) 1 1∧aA w1 g9 [.int .i64 q.o.i] from hh.d 6 28)
      have h28:a.tmps[28]?.getD undef=.slice (some ⟨g9,0,none⟩) 1 1:=rq (e9);have hinv:=Fq (.pointer (some ⟨b,0,none⟩));have hC:=Hd (a0Z (rW.o.below hh.rel).tree (some ⟨g9,0,none⟩) [q.o.i] 1 (fun _=>⟨g9,0,rfl,fun j hj=>by have:j=0:=(by simp at hj;omega);subst this;exact fJ.cell 0⟩) (fun z hz=>by rw[List.mem_singleton.1 hz];exact JP.o.i) (by simp));rw[show([q.o.i].all (has x.t))=has x.t q.o.i from by simp]at hC;clear e9 fJ;have hJ:=hh.j;clear hh;go_simp;refine hC.o.mono ?_;rintro e w9 ⟨rfl,aY⟩;exact⟨_,rfl,aY,rfl,hJ.o⟩
     any_goals (clear hh;go_simp;exact⟨_,rfl,rB,rfl,trivial⟩)
     intro L w4 val hL hJ hR hv;have CS:val 29=.bool (has x.t q.o.i):=hv 7 29 ag;have HR4:=Hd hR;clear hv hL hJ hR;simp only[regs.aG,List.map_cons,List.map_nil,CS];simp only[Act.put,List.setIfInBounds_toArray,List.set_cons_zero,List.set_cons_succ];clear CS;generalize val 22=v22,val 23=v23,val 24=v24,val 25=v25,val 26=v26,val 27=v27,val 28=v28 at*;have qV:Hid (bz w3 w4):=HR4.o;have jy:=Hd (lN.o.trans (qV.o.mono lN.o.size));have KE:=Hd (ak.below JK.o qV.o)
     have Ci:Hid (∀q∈rs,aP w4 w.heap.size q.v q.l):=fun q hq=>ak.below (HR3.o q hq) qV.o;have iE:=Hd (uj.o.below qV.o);have nT:=Hd (aA.below' dO.o qV.o);clear JK HR3 uj dO rW c0 c1 i0;cases hh:has x.t q.o.i with
     |false=>
      have ND:Hid (vT x.t (CY ((l.map (·.o)).take (j+1))) (rs.map (·.l)) Sn):=HST.o.tcs fun i hi hx=>((Cc.o i).1 hi).elim id fun h=>by rw[h.1,hh]at hx;cases hx
      clear hh;go_wp2_with (fail)
      go_meet
      case rel=>exact⟨U,uc,rs,Sn,rfl,KE,Ci,ND,iE,jy,Nat.le_succ_of_le qR.o⟩
     |true=>
      have HHH:=Hd hh;have Xz:=Hd (sS (w:=w4) w.heap.size (fun W ht=>J9.o W (jy.o.trans (ht.aS jy.o.size fun g e=>by rw[e];exact nR))) HN.o Sn iE.o HST.o.hs q.o.i hh);unfold UnQ at Xz;clear hh;have c1:=nT.o.c 1 rfl;have i0:wA.heap.size<w4.heap.size:=nT.o.inside;go_wp2_with (fail);refine Xz.o.mono ?_;rintro e w5 ⟨A5,c5,row,next,k5,rfl,Mc,hu5,hk5,OX,y9⟩
      have JM:Hid (vT x.t (CY ((l.map (·.o)).take (j+1))) (rs.map (·.l)++[row]) (fun i=>Sn i∨i∈row)):=HST.o.add qQ.o HHH.o hu5 hk5 (fun i hi=>((Cc.o i).1 hi).imp id fun h=>h.1) fun i=>Iff.rfl;have gV:=Hd (jy.o.trans (y9.aS jy.o.size fun g e=>by rw[e];exact nR));have Dq:=Hd (ak.off KE.o iE.o y9);have Cj:Hid (aP w5 w.heap.size (.slice A5 row.length c5) row):=ak.weaken Mc jy.o.size;have kL:Hid (∀q∈rs,aP w5 w.heap.size q.v q.l):=fun q hq=>ak.off (Ci.o q hq) iE.o y9;have sH:=Hd OX
      obtain⟨v6,w6,hrun,L6,zk,Zd⟩:=Nl Dq.o gV.o.size ⟨A5,c5,row⟩ (c:=1) (by have:=qR.o;have:=dV.o;omega);have IL:ae (Ow (.slice U rs.length uc)) (Ow (.slice U rs.length uc)) w5 w6:=(ae.below (bR.alloc nR _)).trans (ae.grown zk fun k hk=>hk);have ou:=Hd (gV.o.trans (IL.aS gV.o.size fun g hg=>(ak.block Dq.o hg).1));have Gu:Hid (fC w6 w.heap.size (fun i=>Sn i∨i∈row)):=sH.o.stays (IL.far _ sH.o.inside fun e=>ak.yY Dq.o sH.o e rfl).2
      have CU:Hid (∀q∈rs++[⟨A5,c5,row⟩],aP w6 w.heap.size q.v q.l):=fun q hq=>by
       have h5:aP w5 w.heap.size q.v q.l:=by
        rcases List.mem_append.1 hq with hq|hq
        ·exact kL.o q hq
        ·rw[List.mem_singleton.1 hq];exact Cj.o
       exact ak.apart h5 (ApV.types h5 Dq.o (by decide)) IL
      have XD:Hid (vT x.t (CY ((l.map (·.o)).take (j+1))) ((rs++[(⟨A5,c5,row⟩:jv)]).map (fun q:jv=>q.l)) (fun i=>Sn i∨i∈row)):=by
       have:=JM.o
       rwa [show(rs++[(⟨A5,c5,row⟩:jv)]).map (fun q:jv=>q.l)=rs.map (fun q:jv=>q.l)++[row] from by simp]
      obtain⟨U6,uc6,rfl,-,-,-⟩:=ak.row L6 jv.bF;have HU6:=Hd L6;clear Mc hu5 hk5 OX y9 L6 zk Zd IL Xz HST JM iE KE Ci sH Dq kL Cj gV c1 i0;go_wp2_with (first|((with_reducible refine gB ?_);refine iT _ _ _ rfl rfl (by simp[go_sem]) (MS ⟨A5,c5,row⟩ _) ?_)|(at_builtin;refine bg rfl _ _ oC oC oC rfl rfl _ _ _ _ rfl rfl hrun ?_;clear hrun))
      go_meet
      case rel=>exact⟨U6,uc6,_,_,by simp,HU6,CU,XD,Gu,ou,by have:=qR.o;simp;omega⟩
    by_cases h3:q.o.k=3
    ·have t1:(q.o.k==1)=false:=by simpa using h1
     have t3:(q.o.k==3)=true:=by simpa using h3
     have HTQ:Hid (touch q.o):=.inr (.inl h3);clear h1 h3
     go_upto_region 10 with(fail)
     refine Uj [22,23,24,25,26,27,28,29] (fun i=>match i with
      |0|1|2=>rp g 0
      |3=>rV (.iface 88 (.pointer (some ⟨b,0,none⟩)))
      |4=>rp wA.heap.size 1
      |5=>rV (.int .i64 q.o.i)
      |6=>(⟨fun v wv=>∃g9,v=.slice (some ⟨g9,0,none⟩) 1 1∧aA wv g9 [.int .i64 q.o.i],fun v w1 w2 h hb=>h.elim fun g9 h=>⟨g9,h.1,aA.below' h.2 hb⟩⟩:regs.kX regs.bl)
      |7=>rV (.bool (has x.t q.o.i))
      |_=>ra) ⟨?_,?_,?_,?_,?_,?_,?_,?_,trivial⟩ ?_
     any_goals (first|refine zp fun L a w1 hh=>?_|fail)
     have h0:=hh.p 0 g 0;rotate_left;have h22:=rq (hh.d 0 22);rotate_left;have h23:=rq (hh.d 1 23);have i0:=((rW.o.below hh.rel).blk.blk).inside;rotate_left;have Ba:=rq (hh.d 2 24);have ⟨c0,i0⟩:=((rW.o.below hh.rel).blk.blk).ci 0 rfl;rotate_left;have h8:=hh.p 8 wA.heap.size 0;have i0:=(aA.below' dO.o hh.rel).inside;rotate_left;have IZ:=rq (hh.d 4 26);have ⟨c0,i0⟩:=(aA.below' dO.o hh.rel).ci 1 rfl;rotate_left
     ·have h27:=rq (hh.d 5 27);have hJ:=hh.j;clear hh;exact zJ _ _ _ rfl (by simp[go_sem,h27]) (vz q.o.i w1) ⟨_,rfl,bR.alloc nR _,⟨_,rfl,az w1 [.int .i64 q.o.i] _⟩,hJ.o⟩
     ·have Dj:=rq (hh.d 3 25)
      obtain⟨g9,e9,fJ⟩:=(show ∃g9,(a.tmps.getD 28 undef)=.slice (some ⟨g9,0,none⟩) 1 1∧aA w1 g9 [.int .i64 q.o.i] from hh.d 6 28)
      have h28:a.tmps[28]?.getD undef=.slice (some ⟨g9,0,none⟩) 1 1:=rq (e9);have hinv:=Fq (.pointer (some ⟨b,0,none⟩));have hC:=Hd (a0Z (rW.o.below hh.rel).tree (some ⟨g9,0,none⟩) [q.o.i] 1 (fun _=>⟨g9,0,rfl,fun j hj=>by have:j=0:=(by simp at hj;omega);subst this;exact fJ.cell 0⟩) (fun z hz=>by rw[List.mem_singleton.1 hz];exact JP.o.i) (by simp));rw[show([q.o.i].all (has x.t))=has x.t q.o.i from by simp]at hC;clear e9 fJ;have hJ:=hh.j;clear hh;go_simp;refine hC.o.mono ?_;rintro e w9 ⟨rfl,aY⟩;exact⟨_,rfl,aY,rfl,hJ.o⟩
     any_goals (clear hh;go_simp;exact⟨_,rfl,rB,rfl,trivial⟩)
     intro L w4 val hL hJ hR hv;have CS:val 29=.bool (has x.t q.o.i):=hv 7 29 ag;have HR4:=Hd hR;clear hv hL hJ hR;simp only[regs.aG,List.map_cons,List.map_nil,CS];simp only[Act.put,List.setIfInBounds_toArray,List.set_cons_zero,List.set_cons_succ];clear CS;generalize val 22=v22,val 23=v23,val 24=v24,val 25=v25,val 26=v26,val 27=v27,val 28=v28 at*;have qV:Hid (bz w3 w4):=HR4.o;have jy:=Hd (lN.o.trans (qV.o.mono lN.o.size));have KE:=Hd (ak.below JK.o qV.o)
     have Ci:Hid (∀q∈rs,aP w4 w.heap.size q.v q.l):=fun q hq=>ak.below (HR3.o q hq) qV.o;have iE:=Hd (uj.o.below qV.o);have nT:=Hd (aA.below' dO.o qV.o);clear JK HR3 uj dO rW c0 c1 i0;cases hh:has x.t q.o.i with
     |false=>
      have ND:Hid (vT x.t (CY ((l.map (·.o)).take (j+1))) (rs.map (·.l)) Sn):=HST.o.tcs fun i hi hx=>((Cc.o i).1 hi).elim id fun h=>by rw[h.1,hh]at hx;cases hx
      clear hh;go_wp2_with (fail)
      go_meet
      case rel=>exact⟨U,uc,rs,Sn,rfl,KE,Ci,ND,iE,jy,Nat.le_succ_of_le qR.o⟩
     |true=>
      have HHH:=Hd hh;have Xz:=Hd (sS (w:=w4) w.heap.size (fun W ht=>J9.o W (jy.o.trans (ht.aS jy.o.size fun g e=>by rw[e];exact nR))) HN.o Sn iE.o HST.o.hs q.o.i hh);unfold UnQ at Xz;clear hh;have c1:=nT.o.c 1 rfl;have i0:wA.heap.size<w4.heap.size:=nT.o.inside;go_wp2_with (fail);refine Xz.o.mono ?_;rintro e w5 ⟨A5,c5,row,next,k5,rfl,Mc,hu5,hk5,OX,y9⟩
      have JM:Hid (vT x.t (CY ((l.map (·.o)).take (j+1))) (rs.map (·.l)++[row]) (fun i=>Sn i∨i∈row)):=HST.o.add qQ.o HHH.o hu5 hk5 (fun i hi=>((Cc.o i).1 hi).imp id fun h=>h.1) fun i=>Iff.rfl;have gV:=Hd (jy.o.trans (y9.aS jy.o.size fun g e=>by rw[e];exact nR));have Dq:=Hd (ak.off KE.o iE.o y9);have Cj:Hid (aP w5 w.heap.size (.slice A5 row.length c5) row):=ak.weaken Mc jy.o.size;have kL:Hid (∀q∈rs,aP w5 w.heap.size q.v q.l):=fun q hq=>ak.off (Ci.o q hq) iE.o y9;have sH:=Hd OX
      obtain⟨v6,w6,hrun,L6,zk,Zd⟩:=Nl Dq.o gV.o.size ⟨A5,c5,row⟩ (c:=1) (by have:=qR.o;have:=dV.o;omega);have IL:ae (Ow (.slice U rs.length uc)) (Ow (.slice U rs.length uc)) w5 w6:=(ae.below (bR.alloc nR _)).trans (ae.grown zk fun k hk=>hk);have ou:=Hd (gV.o.trans (IL.aS gV.o.size fun g hg=>(ak.block Dq.o hg).1));have Gu:Hid (fC w6 w.heap.size (fun i=>Sn i∨i∈row)):=sH.o.stays (IL.far _ sH.o.inside fun e=>ak.yY Dq.o sH.o e rfl).2
      have CU:Hid (∀q∈rs++[⟨A5,c5,row⟩],aP w6 w.heap.size q.v q.l):=fun q hq=>by
       have h5:aP w5 w.heap.size q.v q.l:=by
        rcases List.mem_append.1 hq with hq|hq
        ·exact kL.o q hq
        ·rw[List.mem_singleton.1 hq];exact Cj.o
       exact ak.apart h5 (ApV.types h5 Dq.o (by decide)) IL
      have XD:Hid (vT x.t (CY ((l.map (·.o)).take (j+1))) ((rs++[(⟨A5,c5,row⟩:jv)]).map (fun q:jv=>q.l)) (fun i=>Sn i∨i∈row)):=by
       have:=JM.o
       rwa [show(rs++[(⟨A5,c5,row⟩:jv)]).map (fun q:jv=>q.l)=rs.map (fun q:jv=>q.l)++[row] from by simp]
      obtain⟨U6,uc6,rfl,-,-,-⟩:=ak.row L6 jv.bF;have HU6:=Hd L6;clear Mc hu5 hk5 OX y9 L6 zk Zd IL Xz HST JM iE KE Ci sH Dq kL Cj gV c1 i0;go_wp2_with (first|((with_reducible refine gB ?_);refine iT _ _ _ rfl rfl (by simp[go_sem]) (MS ⟨A5,c5,row⟩ _) ?_)|(at_builtin;refine bg rfl _ _ oC oC oC rfl rfl _ _ _ _ rfl rfl hrun ?_;clear hrun))
      go_meet
      case rel=>exact⟨U6,uc6,_,_,by simp,HU6,CU,XD,Gu,ou,by have:=qR.o;simp;omega⟩
    by_cases h4:q.o.k=4
    ·have t1:(q.o.k==1)=false:=by simpa using h1
     have t3:(q.o.k==3)=false:=by simpa using h3
     have t4:(q.o.k==4)=true:=by simpa using h4
     have HTQ:Hid (touch q.o):=.inr (.inr h4);clear h1 h3 h4
     go_upto_region 10 with(fail)
     refine Uj [22,23,24,25,26,27,28,29] (fun i=>match i with
      |0|1|2=>rp g 0
      |3=>rV (.iface 88 (.pointer (some ⟨b,0,none⟩)))
      |4=>rp wA.heap.size 1
      |5=>rV (.int .i64 q.o.i)
      |6=>(⟨fun v wv=>∃g9,v=.slice (some ⟨g9,0,none⟩) 1 1∧aA wv g9 [.int .i64 q.o.i],fun v w1 w2 h hb=>h.elim fun g9 h=>⟨g9,h.1,aA.below' h.2 hb⟩⟩:regs.kX regs.bl)
      |7=>rV (.bool (has x.t q.o.i))
      |_=>ra) ⟨?_,?_,?_,?_,?_,?_,?_,?_,trivial⟩ ?_
     any_goals (first|refine zp fun L a w1 hh=>?_|fail)
     have h0:=hh.p 0 g 0;rotate_left;have h22:=rq (hh.d 0 22);rotate_left;have h23:=rq (hh.d 1 23);have i0:=((rW.o.below hh.rel).blk.blk).inside;rotate_left;have Ba:=rq (hh.d 2 24);have ⟨c0,i0⟩:=((rW.o.below hh.rel).blk.blk).ci 0 rfl;rotate_left;have h8:=hh.p 8 wA.heap.size 0;have i0:=(aA.below' dO.o hh.rel).inside;rotate_left;have IZ:=rq (hh.d 4 26);have ⟨c0,i0⟩:=(aA.below' dO.o hh.rel).ci 1 rfl;rotate_left
     ·have h27:=rq (hh.d 5 27);have hJ:=hh.j;clear hh;exact zJ _ _ _ rfl (by simp[go_sem,h27]) (vz q.o.i w1) ⟨_,rfl,bR.alloc nR _,⟨_,rfl,az w1 [.int .i64 q.o.i] _⟩,hJ.o⟩
     ·have Dj:=rq (hh.d 3 25)
      obtain⟨g9,e9,fJ⟩:=(show ∃g9,(a.tmps.getD 28 undef)=.slice (some ⟨g9,0,none⟩) 1 1∧aA w1 g9 [.int .i64 q.o.i] from hh.d 6 28)
      have h28:a.tmps[28]?.getD undef=.slice (some ⟨g9,0,none⟩) 1 1:=rq (e9);have hinv:=Fq (.pointer (some ⟨b,0,none⟩));have hC:=Hd (a0Z (rW.o.below hh.rel).tree (some ⟨g9,0,none⟩) [q.o.i] 1 (fun _=>⟨g9,0,rfl,fun j hj=>by have:j=0:=(by simp at hj;omega);subst this;exact fJ.cell 0⟩) (fun z hz=>by rw[List.mem_singleton.1 hz];exact JP.o.i) (by simp));rw[show([q.o.i].all (has x.t))=has x.t q.o.i from by simp]at hC;clear e9 fJ;have hJ:=hh.j;clear hh;go_simp;refine hC.o.mono ?_;rintro e w9 ⟨rfl,aY⟩;exact⟨_,rfl,aY,rfl,hJ.o⟩
     any_goals (clear hh;go_simp;exact⟨_,rfl,rB,rfl,trivial⟩)
     intro L w4 val hL hJ hR hv;have CS:val 29=.bool (has x.t q.o.i):=hv 7 29 ag;have HR4:=Hd hR;clear hv hL hJ hR;simp only[regs.aG,List.map_cons,List.map_nil,CS];simp only[Act.put,List.setIfInBounds_toArray,List.set_cons_zero,List.set_cons_succ];clear CS
     skip
     have qV:Hid (bz w3 w4):=HR4.o;have jy:=Hd (lN.o.trans (qV.o.mono lN.o.size));have KE:=Hd (ak.below JK.o qV.o);have Ci:Hid (∀q∈rs,aP w4 w.heap.size q.v q.l):=fun q hq=>ak.below (HR3.o q hq) qV.o;have iE:=Hd (uj.o.below qV.o);have nT:=Hd (aA.below' dO.o qV.o);clear JK HR3 uj dO rW c0 c1 i0;cases hh:has x.t q.o.i with
     |false=>
      have ND:Hid (vT x.t (CY ((l.map (·.o)).take (j+1))) (rs.map (·.l)) Sn):=HST.o.tcs fun i hi hx=>((Cc.o i).1 hi).elim id fun h=>by rw[h.1,hh]at hx;cases hx
      clear hh;go_wp2_with (fail)
      go_meet
      case rel=>exact⟨U,uc,rs,Sn,rfl,KE,Ci,ND,iE,jy,Nat.le_succ_of_le qR.o⟩
     |true=>
      have HHH:=Hd hh;have Xz:=Hd (sS (w:=w4) w.heap.size (fun W ht=>J9.o W (jy.o.trans (ht.aS jy.o.size fun g e=>by rw[e];exact nR))) HN.o Sn iE.o HST.o.hs q.o.i hh);unfold UnQ at Xz;clear hh;have c1:=nT.o.c 1 rfl;have i0:wA.heap.size<w4.heap.size:=nT.o.inside;go_wp2_with (fail);refine Xz.o.mono ?_;rintro e w5 ⟨A5,c5,row,next,k5,rfl,Mc,hu5,hk5,OX,y9⟩
      have JM:Hid (vT x.t (CY ((l.map (·.o)).take (j+1))) (rs.map (·.l)++[row]) (fun i=>Sn i∨i∈row)):=HST.o.add qQ.o HHH.o hu5 hk5 (fun i hi=>((Cc.o i).1 hi).imp id fun h=>h.1) fun i=>Iff.rfl;have gV:=Hd (jy.o.trans (y9.aS jy.o.size fun g e=>by rw[e];exact nR));have Dq:=Hd (ak.off KE.o iE.o y9);have Cj:Hid (aP w5 w.heap.size (.slice A5 row.length c5) row):=ak.weaken Mc jy.o.size;have kL:Hid (∀q∈rs,aP w5 w.heap.size q.v q.l):=fun q hq=>ak.off (Ci.o q hq) iE.o y9;have sH:=Hd OX
      obtain⟨v6,w6,hrun,L6,zk,Zd⟩:=Nl Dq.o gV.o.size ⟨A5,c5,row⟩ (c:=1) (by have:=qR.o;have:=dV.o;omega);have IL:ae (Ow (.slice U rs.length uc)) (Ow (.slice U rs.length uc)) w5 w6:=(ae.below (bR.alloc nR _)).trans (ae.grown zk fun k hk=>hk);have ou:=Hd (gV.o.trans (IL.aS gV.o.size fun g hg=>(ak.block Dq.o hg).1));have Gu:Hid (fC w6 w.heap.size (fun i=>Sn i∨i∈row)):=sH.o.stays (IL.far _ sH.o.inside fun e=>ak.yY Dq.o sH.o e rfl).2
      have CU:Hid (∀q∈rs++[⟨A5,c5,row⟩],aP w6 w.heap.size q.v q.l):=fun q hq=>by
       have h5:aP w5 w.heap.size q.v q.l:=by
        rcases List.mem_append.1 hq with hq|hq
        ·exact kL.o q hq
        ·rw[List.mem_singleton.1 hq];exact Cj.o
       exact ak.apart h5 (ApV.types h5 Dq.o (by decide)) IL
      have XD:Hid (vT x.t (CY ((l.map (·.o)).take (j+1))) ((rs++[(⟨A5,c5,row⟩:jv)]).map (fun q:jv=>q.l)) (fun i=>Sn i∨i∈row)):=by
       have:=JM.o
       rwa [show(rs++[(⟨A5,c5,row⟩:jv)]).map (fun q:jv=>q.l)=rs.map (fun q:jv=>q.l)++[row] from by simp]
      obtain⟨U6,uc6,rfl,-,-,-⟩:=ak.row L6 jv.bF;have HU6:=Hd L6;clear Mc hu5 hk5 OX y9 L6 zk Zd IL Xz HST JM iE KE Ci sH Dq kL Cj gV c1 i0;go_wp2_with (first|((with_reducible refine gB ?_);refine iT _ _ _ rfl rfl (by simp[go_sem]) (MS ⟨A5,c5,row⟩ _) ?_)|(at_builtin;refine bg rfl _ _ oC oC oC rfl rfl _ _ _ _ rfl rfl hrun ?_;clear hrun))
      go_meet
      case rel=>exact⟨U6,uc6,_,_,by simp,HU6,CU,XD,Gu,ou,by have:=qR.o;simp;omega⟩
    have t1:(q.o.k==1)=false:=by simpa using h1
    have t3:(q.o.k==3)=false:=by simpa using h3
    have t4:(q.o.k==4)=false:=by simpa using h4
    have ND:Hid (vT x.t (CY ((l.map (·.o)).take (j+1))) (rs.map (·.l)) Sn):=HST.o.tcs fun i hi _=>((Cc.o i).1 hi).elim id fun h=>(h.2.elim h1 fun h=>h.elim h3 h4).elim;clear h1 h3 h4;go_wp2_with (fail)
    go_meet
    case rel=>exact⟨U,uc,rs,Sn,rfl,JK,HR3,ND,uj,lN,Nat.le_succ_of_le qR.o⟩
   case rest=>
    obtain⟨U2,uc2,rs2,Sn2,rfl,HU2,HR2,NF,NS,HB2,a6c⟩:=hcut;clear HST qR oh hlt HOA;go_wp2_with (fail)
    go_roundw
    case rel=>exact⟨j+1,U2,uc2,rs2,Sn2,dV.o,by go_num,rfl,HU2,HR2,NF,NS,HB2,a6c⟩
    case measure=>have:=dV.o;simp[intOf];omega
  ·obtain rfl:j=l.length:=by omega
   have t1:decide (l.length<l.length)=false:=by simp
   clear hlt;go_wp2_with (fail);go_ret;refine⟨U,uc,rs,Sn,rfl,HU.o,HR.o,?_,?_,HB.o⟩
   ·have:=HST.o
    rwa [List.take_of_length_le (by rw[List.length_map];exact nR)]at this
   ·rw[List.length_map];exact qR.o
end
end
end Go.Proofs.YthmegninhpihkaaGreat
