import Derived.Test.YtekdoeilpheklaaGreatWScf
set_option maxHeartbeats 16000000
set_option maxRecDepth 100000
open Go.Proofs.Tryz
namespace Go.Proofs.YtekdoeilpheklaaGreat
section
open Go.RowKit fH fV aF Go.Maps
abbrev nV:TypeId:=196
structure jm where
 A:Option Addr
 c:Nat
 l:List Int
def jm.v(q:jm):Value:=.slice q.A q.l.length q.c
def jm.cs(q:jm):List Value:=[q.v]
theorem jm.aZ(q:jm):q.cs.length=1:=rfl
theorem jm.qy(q:jm):∀u∈q.cs,u.oneCell'=true:=by
 intro u hu;rw[List.mem_singleton.1 hu];rfl
theorem QP:(prog.info? 116).map (fun i=>(i.zero,i.size,i.bytes))=some (some (.slice none 0 0),1,24):=by kernel_rfl
abbrev Ew(w:World)(base:Nat)(v:Value)(l:List jm):Prop:=aj 116 1 jm.cs w base v l
theorem MQ(q:jm)(w:World):(Instr.buildSlice nV 1 #[(0,.slice q.A q.l.length q.c)]).run prog w=.ok (.slice (some ⟨w.heap.size,0,none⟩) 1 1) (w.alloc (.cells q.cs.toArray 116)):=by kernel_rfl
theorem Nc{n0:Nat}{w:World}{v:Value}{l:List jm}(h:Ew w n0 v l)(hb:n0<=w.heap.size)(q:jm){c:Nat}(hn:l.length<=900000000) :
  ∃v' w',(Builtin.append_ #[nV,nV] nV #[v,.slice (some ⟨w.heap.size,0,none⟩) 1 c]).run prog (w.alloc (.cells q.cs.toArray 116))=.ok v' w'∧Ew w' n0 v' (l++[q]) ∧
   (w.alloc (.cells q.cs.toArray 116)).grownBy w' v.ownBlock∧(v'.ownBlock=v.ownBlock∨v'.ownBlock=some (w.heap.size+1)):=by
 obtain⟨v',w',h1,h2,h3,h4⟩:=aj.app (P:=prog) (xs:=[q]) (c:=c) (g:=w.heap.size) (o:=0) underlying196 QP rfl (by decide) (by decide) jm.aZ jm.qy
  (h.below (bR.alloc nR (.cells q.cs.toArray 116))) (fun _=>jD (enc:=jm.cs) jm.aZ w [q] _ (by simp)) (by simp;omega) (by simp;omega)
 refine⟨v',w',h1,h2,h3,?_⟩
 simpa using h4
theorem ApV.types{α β:Type}{T T2:TypeId}{k k2:Nat}{enc:α->List Value}{enc2:β->List Value}{w:World}{b b2:Nat}{v u:Value}{l:List α}{m:List β}(h:aj T k enc w b v l)(h2:aj T2 k2 enc2 w b2 u m)(hne:T≠T2):ApV v u:=fun g hg hu=>by
 obtain⟨c1,f1,e1⟩:=aj.wO h hg;obtain⟨c2,f2,e2⟩:=aj.wO h2 hu;rw[e1]at e2;simp only[Option.some.injEq,Obj.cells.injEq]at e2;exact hne e2.2.1
theorem aj.y8{α:Type}{T:TypeId}{k:Nat}{enc:α->List Value}{w:World}{b ms:Nat}{v:Value}{l:List α}{Sn:Int->Prop}(h:aj T k enc w b v l)(hm:eU w ms Sn){g:Nat}(hg:v.ownBlock=some g):g≠ms:=fun e=>by
 obtain⟨c1,f1,e1⟩:=aj.wO h hg;obtain⟨es,h1,-⟩:=hm;obtain⟨es',clock,e2,_⟩:=h1.own;rw[e,e2]at e1;cases e1
theorem aj.off{α:Type}{T:TypeId}{k:Nat}{enc:α->List Value}{w w':World}{b ms:Nat}{v:Value}{l:List α}{Sn:Int->Prop}(h:aj T k enc w b v l)(hm:eU w ms Sn)(ht:ae (fun q=>q=ms) (fun q=>q=ms) w w'):aj T k enc w' b v l:=h.stays fun g hg=>(ht.far g (h.block hg).2 (h.y8 hm hg)).2
def CW(l:List dN)(j:Int):Prop:=∃o∈l,j=o.i∧touch o
theorem Um{l:List dN}{o:dN}{j:Int}:CW (l++[o]) j↔CW l j∨(j=o.i∧touch o):=by
 unfold CW;constructor
 ·rintro⟨o',h1,h2⟩;rcases List.mem_append.1 h1 with h1|h1
  ·exact .inl ⟨o',h1,h2⟩
  ·rw[List.mem_singleton.1 h1]at h2;exact .inr h2
 ·rintro(⟨o',h1,h2⟩|h)
  ·exact⟨o',List.mem_append_left _ h1,h2⟩
  ·exact⟨o,by simp,h⟩
theorem QF(w:World):(Instr.makeMap Oe none).run prog w=.ok (.map (some w.heap.size)) (w.alloc (.map #[] 0)):=rfl
def StQ(t:T)(l:List dN)(w:World)(e:Ending)(w':World):Prop:=
 ∃(A:Option Addr) (c:Nat) (rs:List jm) (Sn:Int->Prop),e=.returned (.slice A rs.length c)∧Ew w' w.heap.size (.slice A rs.length c) rs∧(∀q∈rs,aU w' w.heap.size q.v q.l)∧vX t (CW l) (rs.map (·.l)) Sn∧rs.length<=l.length∧bz w w'
section
variable {w:World}{g b m:Nat}{s:Sh}{Z:ZZ}{x:aO}
theorem P7(FS:∀W,bz w W->au W g b m s Z x)(hn:x.t.length<=900)(l:List iV)(A:Option Addr)(c:Nat)(ho:qF (ag b m s x.t) w A l)(hok:∀q∈l,mD q.o)(hl:l.length<=1024) :
  Calls prog 83 #[.pointer (some ⟨g,0,none⟩),.slice A l.length c] w (StQ x.t (l.map (·.o)) w):=by
 have SX:=Hd FS;have HO:=Hd ho;have dM:=Hd hok;have HN:=Hd hn;have qI:Hid (Ok x.t):=(FS w bR).tree.ok;have hlb:(l.length:Int)<=1024:=by omega
 have hb3:bz w (w.alloc (.map #[] 0)):=bR.alloc nR _;have HB3:=Hd hb3
 have uj:Hid (eU (w.alloc (.map #[] 0)) w.heap.size (fun _=>False)):=⟨[],VM.made w,fun j=>by simp[omap.look_nil],fun j v e=>by rw[omap.look_nil]at e;cases e⟩
 have hmm:=QF w;clear FS ho hok hn hb3;go_enter func83,ntmps83;go_wp2_with (fail);clear hmm
 go_loopw [12,5] (fun x12 x5 wr=>∃(j:Nat) (U:Option Addr) (uc:Nat) (rs:List jm) (Sn:Int->Prop),j<=l.length∧x12=.int .i64 j∧x5=.slice U rs.length uc∧Hid (Ew wr w.heap.size (.slice U rs.length uc) rs)∧Hid (∀q∈rs,aU wr w.heap.size q.v q.l)∧Hid (vX x.t (CW ((l.map (·.o)).take j)) (rs.map (·.l)) Sn)∧Hid (eU wr w.heap.size Sn)∧Hid (bz w wr)∧Hid (rs.length<=j)) (fun x12 _ _=>l.length - (intOf x12).toNat)
 case atStart=>exact⟨0,none,0,[],fun _=>False,Nat.zero_le _,rfl,rfl,aj.nil _ _,(fun q hq=>nomatch hq),(vX.start x.t).tcs (fun j hj _=>by simp[CW]at hj),uj.o,HB3.o,nR⟩
 case round=>
  obtain⟨j,U,uc,rs,Sn,hj,rfl,rfl,HU,HR,HST,HM,HB,qJ⟩:=hrel;generalize wr=wA at*;clear uj HB3;by_cases hlt:j<l.length
  ·have t1:decide (j<l.length)=true:=by simpa using hlt
   have fC:=Hd hlt;have HOA:=Hd (HO.o.turn (ae.below HB.o));obtain⟨lb,lo,eA,hcell⟩:=HOA.o.row (by omega);subst eA
   obtain⟨q,hq⟩:∃q,q=l[j]'hlt:=⟨_,rfl⟩
   have vZ:Hid (q∈l):=by rw[hq];exact List.getElem_mem hlt
   have rO:Hid (wA.rangeAt lb (lo+j*23) q.cs):=by
    rw[hq];exact fun i v hv=>hcell j hlt i v hv
   have BV:Hid (∀i,CW ((l.map (·.o)).take (j+1)) i↔CW ((l.map (·.o)).take j) i∨(i=q.o.i∧touch q.o)):=fun i=>by
    rw[List.take_succ_eq_append_getElem (by rw[List.length_map];exact hlt),Um,List.getElem_map,hq]
   have NI:=Hd (dM.o q vZ.o);clear hq hcell
   go_upto_block 1 with(fail)
   go_cut [5] from 14 to 38 (fun u wx=>∃(U:Option Addr) (uc:Nat) (rs:List jm) (Sn:Int->Prop),u=.slice U rs.length uc∧Hid (Ew wx w.heap.size (.slice U rs.length uc) rs)∧Hid (∀q∈rs,aU wx w.heap.size q.v q.l)∧Hid (vX x.t (CW ((l.map (·.o)).take (j+1))) (rs.map (·.l)) Sn)∧Hid (eU wx w.heap.size Sn)∧Hid (bz w wx)∧Hid (rs.length<=j+1))
   case first=>
    have HZ2:Hid (ax (wA.alloc (.cells Vg.toArray 77)) wA.heap.size Vg):=az wA Vg _;have iH:Hid (bz wA (wA.alloc (.cells Vg.toArray 77))):=bR.alloc nR _;have c0:=rO.o 0 (.int .i64 q.o.k) rfl;have i0:lb<wA.heap.size:=World.block_lt_of_cell? wA ⟨lb,_,none⟩ c0;clear c0
    go_upto_region 6 with(first|((with_reducible refine gL ?_);refine mX 77 _ rfl rfl _ _ rfl (q.cs) rO.o _ underlying77 rfl af ?_)|((with_reducible refine gS ?_);refine ay 77 _ _ rfl rfl rfl _ 0 rfl (q.cs) rfl (Vg) HZ2.o (q.cs) rfl (nE rfl) af (dN.one _ _ _) ?_;intro w3 HW3 dI))
    have HB3:Hid (bz wA w3):=HW3.o.below iH.o nR;have lH:=Hd (HB.o.trans (HB3.o.mono HB.o.size));have xJ:Hid (au w3 g b m s Z x):=SX.o _ lH.o;have JM:=Hd (aj.below HU.o HB3.o);have HR3:Hid (∀q∈rs,aU w3 w.heap.size q.v q.l):=fun q hq=>aj.below (HR.o q hq) HB3.o;have uj:=Hd (HM.o.below HB3.o);clear HZ2 iH HW3 rO i0 hlt HOA HU HR HM HB;have c0:=dI.o.c 0 rfl;have c1:=dI.o.c 1 rfl;have i0:wA.heap.size<w3.heap.size:=dI.o.inside;by_cases h1:q.o.k=1
    ·have t1:(q.o.k==1)=true:=by simpa using h1
     have HTQ:Hid (touch q.o):=.inl h1;clear h1
     go_upto_region 10 with(fail)
     refine Kt [22,23,24,25,26,27,28,29] (fun i=>match i with
      |0|1|2=>rp g 0
      |3=>rV (.iface 94 (.pointer (some ⟨b,0,none⟩)))
      |4=>rp wA.heap.size 1
      |5=>rV (.int .i64 q.o.i)
      |6=>(⟨fun v wv=>∃g9,v=.slice (some ⟨g9,0,none⟩) 1 1∧ax wv g9 [.int .i64 q.o.i],fun v w1 w2 h hb=>h.elim fun g9 h=>⟨g9,h.1,ax.below' h.2 hb⟩⟩:regs.kD regs.bl)
      |7=>rV (.bool (has x.t q.o.i))
      |_=>ra) ⟨?_,?_,?_,?_,?_,?_,?_,?_,trivial⟩ ?_
     any_goals (first|refine zp fun L a w1 hh=>?_|fail)
     have h0:=hh.p 0 g 0;rotate_left;have h22:=rq (hh.d 0 22);rotate_left;have h23:=rq (hh.d 1 23);have i0:=((xJ.o.below hh.rel).blk.blk).inside;rotate_left;have tq:=rq (hh.d 2 24);have ⟨c0,i0⟩:=((xJ.o.below hh.rel).blk.blk).ci 0 rfl;rotate_left;have h8:=hh.p 8 wA.heap.size 0;have i0:=(ax.below' dI.o hh.rel).inside;rotate_left;have CJ:=rq (hh.d 4 26);have ⟨c0,i0⟩:=(ax.below' dI.o hh.rel).ci 1 rfl;rotate_left
     ·have h27:=rq (hh.d 5 27);have hJ:=hh.j;clear hh;exact zF _ _ _ rfl (by simp[go_sem,h27]) (vG q.o.i w1) ⟨_,rfl,bR.alloc nR _,⟨_,rfl,az w1 [.int .i64 q.o.i] _⟩,hJ.o⟩
     ·have xq:=rq (hh.d 3 25)
      obtain⟨g9,e9,fA⟩:=(show ∃g9,(a.tmps.getD 28 undef)=.slice (some ⟨g9,0,none⟩) 1 1∧ax w1 g9 [.int .i64 q.o.i] from hh.d 6 28)
      have h28:a.tmps[28]?.getD undef=.slice (some ⟨g9,0,none⟩) 1 1:=rq (e9);have hinv:=Fg (.pointer (some ⟨b,0,none⟩));have hC:=Hd (a0Z (xJ.o.below hh.rel).tree (some ⟨g9,0,none⟩) [q.o.i] 1 (fun _=>⟨g9,0,rfl,fun j hj=>by have:j=0:=(by simp at hj;omega);subst this;exact fA.cell 0⟩) (fun z hz=>by rw[List.mem_singleton.1 hz];exact NI.o.i) (by simp));rw[show([q.o.i].all (has x.t))=has x.t q.o.i from by simp]at hC;clear e9 fA;have hJ:=hh.j;clear hh;go_simp;refine hC.o.mono ?_;rintro e w9 ⟨rfl,aS⟩;exact⟨_,rfl,aS,rfl,hJ.o⟩
     any_goals (clear hh;go_simp;exact⟨_,rfl,rB,rfl,trivial⟩)
     intro L w4 val hL hJ hR hv;have yw:val 29=.bool (has x.t q.o.i):=hv 7 29 af;have HR4:=Hd hR;clear hv hL hJ hR;simp only[regs.aC,List.map_cons,List.map_nil,yw];simp only[Act.put,List.setIfInBounds_toArray,List.set_cons_zero,List.set_cons_succ];clear yw;generalize val 22=v22,val 23=v23,val 24=v24,val 25=v25,val 26=v26,val 27=v27,val 28=v28 at*;have qL:Hid (bz w3 w4):=HR4.o;have jr:=Hd (lH.o.trans (qL.o.mono lH.o.size));have Ky:=Hd (aj.below JM.o qL.o)
     have Cb:Hid (∀q∈rs,aU w4 w.heap.size q.v q.l):=fun q hq=>aj.below (HR3.o q hq) qL.o;have gZ:=Hd (uj.o.below qL.o);have mG:=Hd (ax.below' dI.o qL.o);clear JM HR3 uj dI xJ c0 c1 i0;cases hh:has x.t q.o.i with
     |false=>
      have Ny:Hid (vX x.t (CW ((l.map (·.o)).take (j+1))) (rs.map (·.l)) Sn):=HST.o.tcs fun i hi hx=>((BV.o i).1 hi).elim id fun h=>by rw[h.1,hh]at hx;cases hx
      clear hh;go_wp2_with (fail)
      go_meet
      case rel=>exact⟨U,uc,rs,Sn,rfl,Ky,Cb,Ny,gZ,jr,Nat.le_succ_of_le qJ.o⟩
     |true=>
      have HHH:=Hd hh;have Xw:=Hd (sF (w:=w4) w.heap.size (fun W ht=>SX.o W (jr.o.trans (ht.aV jr.o.size fun g e=>by rw[e];exact nR))) HN.o Sn gZ.o HST.o.hs q.o.i hh);unfold UnQ at Xw;clear hh;have c1:=mG.o.c 1 rfl;have i0:wA.heap.size<w4.heap.size:=mG.o.inside;go_wp2_with (fail);refine Xw.o.mono ?_;rintro e w5 ⟨A5,c5,row,next,k5,rfl,Tm,hu5,hk5,OI,zh⟩
      have JP:Hid (vX x.t (CW ((l.map (·.o)).take (j+1))) (rs.map (·.l)++[row]) (fun i=>Sn i∨i∈row)):=HST.o.add qI.o HHH.o hu5 hk5 (fun i hi=>((BV.o i).1 hi).imp id fun h=>h.1) fun i=>Iff.rfl;have iq:=Hd (jr.o.trans (zh.aV jr.o.size fun g e=>by rw[e];exact nR));have Dl:=Hd (aj.off Ky.o gZ.o zh);have GZ:Hid (aU w5 w.heap.size (.slice A5 row.length c5) row):=aj.weaken Tm jr.o.size;have jQ:Hid (∀q∈rs,aU w5 w.heap.size q.v q.l):=fun q hq=>aj.off (Cb.o q hq) gZ.o zh;have rY:=Hd OI
      obtain⟨v6,w6,hrun,LQ,Dh,Y9⟩:=Nc Dl.o iq.o.size ⟨A5,c5,row⟩ (c:=1) (by have:=qJ.o;have:=fC.o;omega);have IW:ae (Ow (.slice U rs.length uc)) (Ow (.slice U rs.length uc)) w5 w6:=(ae.below (bR.alloc nR _)).trans (ae.grown Dh fun k hk=>hk);have vV:=Hd (iq.o.trans (IW.aV iq.o.size fun g hg=>(aj.block Dl.o hg).1));have EC:Hid (eU w6 w.heap.size (fun i=>Sn i∨i∈row)):=rY.o.stays (IW.far _ rY.o.inside fun e=>aj.y8 Dl.o rY.o e rfl).2
      have yM:Hid (∀q∈rs++[⟨A5,c5,row⟩],aU w6 w.heap.size q.v q.l):=fun q hq=>by
       have h5:aU w5 w.heap.size q.v q.l:=by
        rcases List.mem_append.1 hq with hq|hq
        ·exact jQ.o q hq
        ·rw[List.mem_singleton.1 hq];exact GZ.o
       exact aj.apart h5 (ApV.types h5 Dl.o (by decide)) IW
      have Xz:Hid (vX x.t (CW ((l.map (·.o)).take (j+1))) ((rs++[(⟨A5,c5,row⟩:jm)]).map (fun q:jm=>q.l)) (fun i=>Sn i∨i∈row)):=by
       have:=JP.o
       rwa [show(rs++[(⟨A5,c5,row⟩:jm)]).map (fun q:jm=>q.l)=rs.map (fun q:jm=>q.l)++[row] from by simp]
      obtain⟨U6,uc6,rfl,-,-,-⟩:=aj.row LQ jm.aZ;have HU6:=Hd LQ;clear Tm hu5 hk5 OI zh LQ Dh Y9 IW Xw HST JP gZ Ky Cb rY Dl jQ GZ iq c1 i0;go_wp2_with (first|((with_reducible refine gB ?_);refine jV _ _ _ rfl rfl (by simp[go_sem]) (MQ ⟨A5,c5,row⟩ _) ?_)|(at_builtin;refine bD rfl _ _ nV nV nV rfl rfl _ _ _ _ rfl rfl hrun ?_;clear hrun))
      go_meet
      case rel=>exact⟨U6,uc6,_,_,by simp,HU6,yM,Xz,EC,vV,by have:=qJ.o;simp;omega⟩
    by_cases h3:q.o.k=3
    ·have t1:(q.o.k==1)=false:=by simpa using h1
     have t3:(q.o.k==3)=true:=by simpa using h3
     have HTQ:Hid (touch q.o):=.inr (.inl h3);clear h1 h3
     go_upto_region 10 with(fail)
     refine Kt [22,23,24,25,26,27,28,29] (fun i=>match i with
      |0|1|2=>rp g 0
      |3=>rV (.iface 94 (.pointer (some ⟨b,0,none⟩)))
      |4=>rp wA.heap.size 1
      |5=>rV (.int .i64 q.o.i)
      |6=>(⟨fun v wv=>∃g9,v=.slice (some ⟨g9,0,none⟩) 1 1∧ax wv g9 [.int .i64 q.o.i],fun v w1 w2 h hb=>h.elim fun g9 h=>⟨g9,h.1,ax.below' h.2 hb⟩⟩:regs.kD regs.bl)
      |7=>rV (.bool (has x.t q.o.i))
      |_=>ra) ⟨?_,?_,?_,?_,?_,?_,?_,?_,trivial⟩ ?_
     any_goals (first|refine zp fun L a w1 hh=>?_|fail)
     have h0:=hh.p 0 g 0;rotate_left;have h22:=rq (hh.d 0 22);rotate_left;have h23:=rq (hh.d 1 23);have i0:=((xJ.o.below hh.rel).blk.blk).inside;rotate_left;have tq:=rq (hh.d 2 24);have ⟨c0,i0⟩:=((xJ.o.below hh.rel).blk.blk).ci 0 rfl;rotate_left;have h8:=hh.p 8 wA.heap.size 0;have i0:=(ax.below' dI.o hh.rel).inside;rotate_left;have CJ:=rq (hh.d 4 26);have ⟨c0,i0⟩:=(ax.below' dI.o hh.rel).ci 1 rfl;rotate_left
     ·have h27:=rq (hh.d 5 27);have hJ:=hh.j;clear hh;exact zF _ _ _ rfl (by simp[go_sem,h27]) (vG q.o.i w1) ⟨_,rfl,bR.alloc nR _,⟨_,rfl,az w1 [.int .i64 q.o.i] _⟩,hJ.o⟩
     ·have xq:=rq (hh.d 3 25)
      obtain⟨g9,e9,fA⟩:=(show ∃g9,(a.tmps.getD 28 undef)=.slice (some ⟨g9,0,none⟩) 1 1∧ax w1 g9 [.int .i64 q.o.i] from hh.d 6 28)
      have h28:a.tmps[28]?.getD undef=.slice (some ⟨g9,0,none⟩) 1 1:=rq (e9);have hinv:=Fg (.pointer (some ⟨b,0,none⟩));have hC:=Hd (a0Z (xJ.o.below hh.rel).tree (some ⟨g9,0,none⟩) [q.o.i] 1 (fun _=>⟨g9,0,rfl,fun j hj=>by have:j=0:=(by simp at hj;omega);subst this;exact fA.cell 0⟩) (fun z hz=>by rw[List.mem_singleton.1 hz];exact NI.o.i) (by simp));rw[show([q.o.i].all (has x.t))=has x.t q.o.i from by simp]at hC;clear e9 fA;have hJ:=hh.j;clear hh;go_simp;refine hC.o.mono ?_;rintro e w9 ⟨rfl,aS⟩;exact⟨_,rfl,aS,rfl,hJ.o⟩
     any_goals (clear hh;go_simp;exact⟨_,rfl,rB,rfl,trivial⟩)
     intro L w4 val hL hJ hR hv;have yw:val 29=.bool (has x.t q.o.i):=hv 7 29 af;have HR4:=Hd hR;clear hv hL hJ hR;simp only[regs.aC,List.map_cons,List.map_nil,yw];simp only[Act.put,List.setIfInBounds_toArray,List.set_cons_zero,List.set_cons_succ];clear yw;generalize val 22=v22,val 23=v23,val 24=v24,val 25=v25,val 26=v26,val 27=v27,val 28=v28 at*;have qL:Hid (bz w3 w4):=HR4.o;have jr:=Hd (lH.o.trans (qL.o.mono lH.o.size));have Ky:=Hd (aj.below JM.o qL.o)
     have Cb:Hid (∀q∈rs,aU w4 w.heap.size q.v q.l):=fun q hq=>aj.below (HR3.o q hq) qL.o;have gZ:=Hd (uj.o.below qL.o);have mG:=Hd (ax.below' dI.o qL.o);clear JM HR3 uj dI xJ c0 c1 i0;cases hh:has x.t q.o.i with
     |false=>
      have Ny:Hid (vX x.t (CW ((l.map (·.o)).take (j+1))) (rs.map (·.l)) Sn):=HST.o.tcs fun i hi hx=>((BV.o i).1 hi).elim id fun h=>by rw[h.1,hh]at hx;cases hx
      clear hh;go_wp2_with (fail)
      go_meet
      case rel=>exact⟨U,uc,rs,Sn,rfl,Ky,Cb,Ny,gZ,jr,Nat.le_succ_of_le qJ.o⟩
     |true=>
      have HHH:=Hd hh;have Xw:=Hd (sF (w:=w4) w.heap.size (fun W ht=>SX.o W (jr.o.trans (ht.aV jr.o.size fun g e=>by rw[e];exact nR))) HN.o Sn gZ.o HST.o.hs q.o.i hh);unfold UnQ at Xw;clear hh;have c1:=mG.o.c 1 rfl;have i0:wA.heap.size<w4.heap.size:=mG.o.inside;go_wp2_with (fail);refine Xw.o.mono ?_;rintro e w5 ⟨A5,c5,row,next,k5,rfl,Tm,hu5,hk5,OI,zh⟩
      have JP:Hid (vX x.t (CW ((l.map (·.o)).take (j+1))) (rs.map (·.l)++[row]) (fun i=>Sn i∨i∈row)):=HST.o.add qI.o HHH.o hu5 hk5 (fun i hi=>((BV.o i).1 hi).imp id fun h=>h.1) fun i=>Iff.rfl;have iq:=Hd (jr.o.trans (zh.aV jr.o.size fun g e=>by rw[e];exact nR));have Dl:=Hd (aj.off Ky.o gZ.o zh);have GZ:Hid (aU w5 w.heap.size (.slice A5 row.length c5) row):=aj.weaken Tm jr.o.size;have jQ:Hid (∀q∈rs,aU w5 w.heap.size q.v q.l):=fun q hq=>aj.off (Cb.o q hq) gZ.o zh;have rY:=Hd OI
      obtain⟨v6,w6,hrun,LQ,Dh,Y9⟩:=Nc Dl.o iq.o.size ⟨A5,c5,row⟩ (c:=1) (by have:=qJ.o;have:=fC.o;omega);have IW:ae (Ow (.slice U rs.length uc)) (Ow (.slice U rs.length uc)) w5 w6:=(ae.below (bR.alloc nR _)).trans (ae.grown Dh fun k hk=>hk);have vV:=Hd (iq.o.trans (IW.aV iq.o.size fun g hg=>(aj.block Dl.o hg).1));have EC:Hid (eU w6 w.heap.size (fun i=>Sn i∨i∈row)):=rY.o.stays (IW.far _ rY.o.inside fun e=>aj.y8 Dl.o rY.o e rfl).2
      have yM:Hid (∀q∈rs++[⟨A5,c5,row⟩],aU w6 w.heap.size q.v q.l):=fun q hq=>by
       have h5:aU w5 w.heap.size q.v q.l:=by
        rcases List.mem_append.1 hq with hq|hq
        ·exact jQ.o q hq
        ·rw[List.mem_singleton.1 hq];exact GZ.o
       exact aj.apart h5 (ApV.types h5 Dl.o (by decide)) IW
      have Xz:Hid (vX x.t (CW ((l.map (·.o)).take (j+1))) ((rs++[(⟨A5,c5,row⟩:jm)]).map (fun q:jm=>q.l)) (fun i=>Sn i∨i∈row)):=by
       have:=JP.o
       rwa [show(rs++[(⟨A5,c5,row⟩:jm)]).map (fun q:jm=>q.l)=rs.map (fun q:jm=>q.l)++[row] from by simp]
      obtain⟨U6,uc6,rfl,-,-,-⟩:=aj.row LQ jm.aZ;have HU6:=Hd LQ;clear Tm hu5 hk5 OI zh LQ Dh Y9 IW Xw HST JP gZ Ky Cb rY Dl jQ GZ iq c1 i0;go_wp2_with (first|((with_reducible refine gB ?_);refine jV _ _ _ rfl rfl (by simp[go_sem]) (MQ ⟨A5,c5,row⟩ _) ?_)|(at_builtin;refine bD rfl _ _ nV nV nV rfl rfl _ _ _ _ rfl rfl hrun ?_;clear hrun))
      go_meet
      case rel=>exact⟨U6,uc6,_,_,by simp,HU6,yM,Xz,EC,vV,by have:=qJ.o;simp;omega⟩
    by_cases h4:q.o.k=4
    ·have t1:(q.o.k==1)=false:=by simpa using h1
     have t3:(q.o.k==3)=false:=by simpa using h3
     have t4:(q.o.k==4)=true:=by simpa using h4
     have HTQ:Hid (touch q.o):=.inr (.inr h4);clear h1 h3 h4
     go_upto_region 10 with(fail)
     refine Kt [22,23,24,25,26,27,28,29] (fun i=>match i with
      |0|1|2=>rp g 0
      |3=>rV (.iface 94 (.pointer (some ⟨b,0,none⟩)))
      |4=>rp wA.heap.size 1
      |5=>rV (.int .i64 q.o.i)
      |6=>(⟨fun v wv=>∃g9,v=.slice (some ⟨g9,0,none⟩) 1 1∧ax wv g9 [.int .i64 q.o.i],fun v w1 w2 h hb=>h.elim fun g9 h=>⟨g9,h.1,ax.below' h.2 hb⟩⟩:regs.kD regs.bl)
      |7=>rV (.bool (has x.t q.o.i))
      |_=>ra) ⟨?_,?_,?_,?_,?_,?_,?_,?_,trivial⟩ ?_
     any_goals (first|refine zp fun L a w1 hh=>?_|fail)
     have h0:=hh.p 0 g 0;rotate_left;have h22:=rq (hh.d 0 22);rotate_left;have h23:=rq (hh.d 1 23);have i0:=((xJ.o.below hh.rel).blk.blk).inside;rotate_left;have tq:=rq (hh.d 2 24);have ⟨c0,i0⟩:=((xJ.o.below hh.rel).blk.blk).ci 0 rfl;rotate_left;have h8:=hh.p 8 wA.heap.size 0;have i0:=(ax.below' dI.o hh.rel).inside;rotate_left;have CJ:=rq (hh.d 4 26);have ⟨c0,i0⟩:=(ax.below' dI.o hh.rel).ci 1 rfl;rotate_left
     ·have h27:=rq (hh.d 5 27);have hJ:=hh.j;clear hh;exact zF _ _ _ rfl (by simp[go_sem,h27]) (vG q.o.i w1) ⟨_,rfl,bR.alloc nR _,⟨_,rfl,az w1 [.int .i64 q.o.i] _⟩,hJ.o⟩
     ·have xq:=rq (hh.d 3 25)
      obtain⟨g9,e9,fA⟩:=(show ∃g9,(a.tmps.getD 28 undef)=.slice (some ⟨g9,0,none⟩) 1 1∧ax w1 g9 [.int .i64 q.o.i] from hh.d 6 28)
      have h28:a.tmps[28]?.getD undef=.slice (some ⟨g9,0,none⟩) 1 1:=rq (e9);have hinv:=Fg (.pointer (some ⟨b,0,none⟩));have hC:=Hd (a0Z (xJ.o.below hh.rel).tree (some ⟨g9,0,none⟩) [q.o.i] 1 (fun _=>⟨g9,0,rfl,fun j hj=>by have:j=0:=(by simp at hj;omega);subst this;exact fA.cell 0⟩) (fun z hz=>by rw[List.mem_singleton.1 hz];exact NI.o.i) (by simp));rw[show([q.o.i].all (has x.t))=has x.t q.o.i from by simp]at hC;clear e9 fA;have hJ:=hh.j;clear hh;go_simp;refine hC.o.mono ?_;rintro e w9 ⟨rfl,aS⟩;exact⟨_,rfl,aS,rfl,hJ.o⟩
     any_goals (clear hh;go_simp;exact⟨_,rfl,rB,rfl,trivial⟩)
     intro L w4 val hL hJ hR hv;have yw:val 29=.bool (has x.t q.o.i):=hv 7 29 af;have HR4:=Hd hR;clear hv hL hJ hR;simp only[regs.aC,List.map_cons,List.map_nil,yw];simp only[Act.put,List.setIfInBounds_toArray,List.set_cons_zero,List.set_cons_succ];clear yw
     skip
     have qL:Hid (bz w3 w4):=HR4.o;have jr:=Hd (lH.o.trans (qL.o.mono lH.o.size));have Ky:=Hd (aj.below JM.o qL.o);have Cb:Hid (∀q∈rs,aU w4 w.heap.size q.v q.l):=fun q hq=>aj.below (HR3.o q hq) qL.o;have gZ:=Hd (uj.o.below qL.o);have mG:=Hd (ax.below' dI.o qL.o);clear JM HR3 uj dI xJ c0 c1 i0;cases hh:has x.t q.o.i with
     |false=>
      have Ny:Hid (vX x.t (CW ((l.map (·.o)).take (j+1))) (rs.map (·.l)) Sn):=HST.o.tcs fun i hi hx=>((BV.o i).1 hi).elim id fun h=>by rw[h.1,hh]at hx;cases hx
      clear hh;go_wp2_with (fail)
      go_meet
      case rel=>exact⟨U,uc,rs,Sn,rfl,Ky,Cb,Ny,gZ,jr,Nat.le_succ_of_le qJ.o⟩
     |true=>
      have HHH:=Hd hh;have Xw:=Hd (sF (w:=w4) w.heap.size (fun W ht=>SX.o W (jr.o.trans (ht.aV jr.o.size fun g e=>by rw[e];exact nR))) HN.o Sn gZ.o HST.o.hs q.o.i hh);unfold UnQ at Xw;clear hh;have c1:=mG.o.c 1 rfl;have i0:wA.heap.size<w4.heap.size:=mG.o.inside;go_wp2_with (fail);refine Xw.o.mono ?_;rintro e w5 ⟨A5,c5,row,next,k5,rfl,Tm,hu5,hk5,OI,zh⟩
      have JP:Hid (vX x.t (CW ((l.map (·.o)).take (j+1))) (rs.map (·.l)++[row]) (fun i=>Sn i∨i∈row)):=HST.o.add qI.o HHH.o hu5 hk5 (fun i hi=>((BV.o i).1 hi).imp id fun h=>h.1) fun i=>Iff.rfl;have iq:=Hd (jr.o.trans (zh.aV jr.o.size fun g e=>by rw[e];exact nR));have Dl:=Hd (aj.off Ky.o gZ.o zh);have GZ:Hid (aU w5 w.heap.size (.slice A5 row.length c5) row):=aj.weaken Tm jr.o.size;have jQ:Hid (∀q∈rs,aU w5 w.heap.size q.v q.l):=fun q hq=>aj.off (Cb.o q hq) gZ.o zh;have rY:=Hd OI
      obtain⟨v6,w6,hrun,LQ,Dh,Y9⟩:=Nc Dl.o iq.o.size ⟨A5,c5,row⟩ (c:=1) (by have:=qJ.o;have:=fC.o;omega);have IW:ae (Ow (.slice U rs.length uc)) (Ow (.slice U rs.length uc)) w5 w6:=(ae.below (bR.alloc nR _)).trans (ae.grown Dh fun k hk=>hk);have vV:=Hd (iq.o.trans (IW.aV iq.o.size fun g hg=>(aj.block Dl.o hg).1));have EC:Hid (eU w6 w.heap.size (fun i=>Sn i∨i∈row)):=rY.o.stays (IW.far _ rY.o.inside fun e=>aj.y8 Dl.o rY.o e rfl).2
      have yM:Hid (∀q∈rs++[⟨A5,c5,row⟩],aU w6 w.heap.size q.v q.l):=fun q hq=>by
       have h5:aU w5 w.heap.size q.v q.l:=by
        rcases List.mem_append.1 hq with hq|hq
        ·exact jQ.o q hq
        ·rw[List.mem_singleton.1 hq];exact GZ.o
       exact aj.apart h5 (ApV.types h5 Dl.o (by decide)) IW
      have Xz:Hid (vX x.t (CW ((l.map (·.o)).take (j+1))) ((rs++[(⟨A5,c5,row⟩:jm)]).map (fun q:jm=>q.l)) (fun i=>Sn i∨i∈row)):=by
       have:=JP.o
       rwa [show(rs++[(⟨A5,c5,row⟩:jm)]).map (fun q:jm=>q.l)=rs.map (fun q:jm=>q.l)++[row] from by simp]
      obtain⟨U6,uc6,rfl,-,-,-⟩:=aj.row LQ jm.aZ;have HU6:=Hd LQ;clear Tm hu5 hk5 OI zh LQ Dh Y9 IW Xw HST JP gZ Ky Cb rY Dl jQ GZ iq c1 i0;go_wp2_with (first|((with_reducible refine gB ?_);refine jV _ _ _ rfl rfl (by simp[go_sem]) (MQ ⟨A5,c5,row⟩ _) ?_)|(at_builtin;refine bD rfl _ _ nV nV nV rfl rfl _ _ _ _ rfl rfl hrun ?_;clear hrun))
      go_meet
      case rel=>exact⟨U6,uc6,_,_,by simp,HU6,yM,Xz,EC,vV,by have:=qJ.o;simp;omega⟩
    have t1:(q.o.k==1)=false:=by simpa using h1
    have t3:(q.o.k==3)=false:=by simpa using h3
    have t4:(q.o.k==4)=false:=by simpa using h4
    have Ny:Hid (vX x.t (CW ((l.map (·.o)).take (j+1))) (rs.map (·.l)) Sn):=HST.o.tcs fun i hi _=>((BV.o i).1 hi).elim id fun h=>(h.2.elim h1 fun h=>h.elim h3 h4).elim;clear h1 h3 h4;go_wp2_with (fail)
    go_meet
    case rel=>exact⟨U,uc,rs,Sn,rfl,JM,HR3,Ny,uj,lH,Nat.le_succ_of_le qJ.o⟩
   case rest=>
    obtain⟨U2,uc2,rs2,Sn2,rfl,HU2,HR2,Nz,ED,HB2,a5Z⟩:=hcut;clear HST qJ rO hlt HOA;go_wp2_with (fail)
    go_roundw
    case rel=>exact⟨j+1,U2,uc2,rs2,Sn2,fC.o,by go_num,rfl,HU2,HR2,Nz,ED,HB2,a5Z⟩
    case measure=>have:=fC.o;simp[intOf];omega
  ·obtain rfl:j=l.length:=by omega
   have t1:decide (l.length<l.length)=false:=by simp
   clear hlt;go_wp2_with (fail);go_ret;refine⟨U,uc,rs,Sn,rfl,HU.o,HR.o,?_,?_,HB.o⟩
   ·have:=HST.o
    rwa [List.take_of_length_le (by rw[List.length_map];exact nR)]at this
   ·rw[List.length_map];exact qJ.o
end
end
end Go.Proofs.YtekdoeilpheklaaGreat
