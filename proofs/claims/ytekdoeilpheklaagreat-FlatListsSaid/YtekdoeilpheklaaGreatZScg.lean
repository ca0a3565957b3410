import Derived.Test.YtekdoeilpheklaaGreatZScf
set_option maxHeartbeats 16000000
set_option maxRecDepth 100000
open Go.Proofs.Tryz
namespace Go.Proofs.YtekdoeilpheklaaGreat
section
open Go.RowKit fK fZ aB Go.Maps
abbrev nM:TypeId:=196
structure ja where
 A:Option Addr
 c:Nat
 l:List Int
def ja.v(q:ja):Value:=.slice q.A q.l.length q.c
def ja.cs(q:ja):List Value:=[q.v]
theorem ja.aZ(q:ja):q.cs.length=1:=rfl
theorem ja.pV(q:ja):∀u∈q.cs,u.oneCell'=true:=by
 intro u hu;rw[List.mem_singleton.1 hu];rfl
theorem Ql:(prog.info? 116).map (fun i=>(i.zero,i.size,i.bytes))=some (some (.slice none 0 0),1,24):=by kernel_rfl
abbrev DT(w:World)(base:Nat)(v:Value)(l:List ja):Prop:=ai 116 1 ja.cs w base v l
theorem LJ(q:ja)(w:World):(Instr.buildSlice nM 1 #[(0,.slice q.A q.l.length q.c)]).run prog w=.ok (.slice (some ⟨w.heap.size,0,none⟩) 1 1) (w.alloc (.cells q.cs.toArray 116)):=by kernel_rfl
theorem L6{n0:Nat}{w:World}{v:Value}{l:List ja}(h:DT w n0 v l)(hb:n0<=w.heap.size)(q:ja){c:Nat}(hn:l.length<=900000000) :
  ∃v' w',(Builtin.append_ #[nM,nM] nM #[v,.slice (some ⟨w.heap.size,0,none⟩) 1 c]).run prog (w.alloc (.cells q.cs.toArray 116))=.ok v' w'∧DT w' n0 v' (l++[q]) ∧
   (w.alloc (.cells q.cs.toArray 116)).grownBy w' v.ownBlock∧(v'.ownBlock=v.ownBlock∨v'.ownBlock=some (w.heap.size+1)):=by
 obtain⟨v',w',h1,h2,h3,h4⟩:=ai.app (P:=prog) (xs:=[q]) (c:=c) (g:=w.heap.size) (o:=0) underlying196 Ql rfl (by decide) (by decide) ja.aZ ja.pV
  (h.below (bR.alloc nR (.cells q.cs.toArray 116))) (fun _=>jq (enc:=ja.cs) ja.aZ w [q] _ (by simp)) (by simp;omega) (by simp;omega)
 refine⟨v',w',h1,h2,h3,?_⟩
 simpa using h4
theorem Z9.types{α β:Type}{T T2:TypeId}{k k2:Nat}{enc:α->List Value}{enc2:β->List Value}{w:World}{b b2:Nat}{v u:Value}{l:List α}{m:List β}(h:ai T k enc w b v l)(h2:ai T2 k2 enc2 w b2 u m)(hne:T≠T2):Z9 v u:=fun g hg hu=>by
 obtain⟨c1,f1,e1⟩:=ai.vM h hg;obtain⟨c2,f2,e2⟩:=ai.vM h2 hu;rw[e1] at e2;simp only[Option.some.injEq,Obj.cells.injEq] at e2;exact hne e2.2.1
theorem ai.yI{α:Type}{T:TypeId}{k:Nat}{enc:α->List Value}{w:World}{b ms:Nat}{v:Value}{l:List α}{Sn:Int->Prop}(h:ai T k enc w b v l)(hm:eH w ms Sn){g:Nat}(hg:v.ownBlock=some g):g≠ms:=fun e=>by
 obtain⟨c1,f1,e1⟩:=ai.vM h hg;obtain⟨es,h1,-⟩:=hm;obtain⟨es',clock,e2,_⟩:=h1.own;rw[e,e2] at e1;cases e1
theorem ai.off{α:Type}{T:TypeId}{k:Nat}{enc:α->List Value}{w w':World}{b ms:Nat}{v:Value}{l:List α}{Sn:Int->Prop}(h:ai T k enc w b v l)(hm:eH w ms Sn)(ht:ae (fun q=>q=ms) (fun q=>q=ms) w w'):ai T k enc w' b v l:=h.stays fun g hg=>(ht.far g (h.block hg).2 (h.yI hm hg)).2
def BO(l:List dJ)(j:Int):Prop:=∃o∈l,j=o.i∧touch o
theorem Tz{l:List dJ}{o:dJ}{j:Int}:BO (l++[o]) j↔BO l j∨(j=o.i∧touch o):=by
 unfold BO;constructor
 ·rintro⟨o',h1,h2⟩;rcases List.mem_append.1 h1 with h1|h1
  ·exact .inl ⟨o',h1,h2⟩
  ·rw[List.mem_singleton.1 h1] at h2;exact .inr h2
 ·rintro(⟨o',h1,h2⟩|h)
  ·exact⟨o',List.mem_append_left _ h1,h2⟩
  ·exact⟨o,by simp,h⟩
theorem Qb(w:World):(Instr.makeMap Nz none).run prog w=.ok (.map (some w.heap.size)) (w.alloc (.map #[] 0)):=rfl
def StQ(t:T)(l:List dJ)(w:World)(e:Ending)(w':World):Prop:=
 ∃(A:Option Addr) (c:Nat) (rs:List ja) (Sn:Int->Prop),e=.returned (.slice A rs.length c)∧DT w' w.heap.size (.slice A rs.length c) rs∧(∀q∈rs,aO w' w.heap.size q.v q.l)∧vk t (BO l) (rs.map (·.l)) Sn∧rs.length<=l.length∧bz w w'
section
variable {w:World}{g b m:Nat}{s:Sh}{Z:ZZ}{x:aJ}
theorem Pj(FS:∀W,bz w W->aj W g b m s Z x)(hn:x.t.length<=900)(l:List iO)(A:Option Addr)(c:Nat)(ho:qh (af b m s x.t) w A l)(hok:∀q∈l,lV q.o)(hl:l.length<=1024) :
  Calls prog 83 #[.pointer (some ⟨g,0,none⟩),.slice A l.length c] w (StQ x.t (l.map (·.o)) w):=by
 have RP:=Hd FS;have HO:=Hd ho;have dO:=Hd hok;have HN:=Hd hn;have rD:Hid (Ok x.t):=(FS w bR).tree.ok;have hlb:(l.length:Int)<=1024:=by omega
 have hb3:bz w (w.alloc (.map #[] 0)):=bR.alloc nR _;have HB3:=Hd hb3
 have tu:Hid (eH (w.alloc (.map #[] 0)) w.heap.size (fun _=>False)):=⟨[],VM.made w,fun j=>by simp[omap.look_nil],fun j v e=>by rw[omap.look_nil] at e;cases e⟩
 have hmm:=Qb w;clear FS ho hok hn hb3;go_enter func83,ntmps83;go_wp2_with (fail);clear hmm
 go_loopw [12,5] (fun x12 x5 wr=>∃(j:Nat) (U:Option Addr) (uc:Nat) (rs:List ja) (Sn:Int->Prop),j<=l.length∧x12=.int .i64 j∧x5=.slice U rs.length uc∧Hid (DT wr w.heap.size (.slice U rs.length uc) rs)∧Hid (∀q∈rs,aO wr w.heap.size q.v q.l)∧Hid (vk x.t (BO ((l.map (·.o)).take j)) (rs.map (·.l)) Sn)∧Hid (eH wr w.heap.size Sn)∧Hid (bz w wr)∧Hid (rs.length<=j)) (fun x12 _ _=>l.length - (intOf x12).toNat)
 case atStart=>exact⟨0,none,0,[],fun _=>False,Nat.zero_le _,rfl,rfl,ai.nil _ _,(fun q hq=>nomatch hq),(vk.start x.t).tcs (fun j hj _=>by simp[BO] at hj),tu.o,HB3.o,nR⟩
 case round=>
  obtain⟨j,U,uc,rs,Sn,hj,rfl,rfl,HU,HR,HST,HM,HB,qW⟩:=hrel;generalize wr=wA at *;clear tu HB3;by_cases hlt:j<l.length
  ·have t1:decide (j<l.length)=true:=by simpa using hlt
   have eU:=Hd hlt;have HOA:=Hd (HO.o.turn (ae.below HB.o));obtain⟨lb,lo,eA,hcell⟩:=HOA.o.row (by omega);subst eA
   obtain⟨q,hq⟩:∃q,q=l[j]'hlt:=⟨_,rfl⟩
   have yT:Hid (q∈l):=by rw[hq];exact List.getElem_mem hlt
   have qX:Hid (wA.rangeAt lb (lo+j*23) q.cs):=by
    rw[hq];exact fun i v hv=>hcell j hlt i v hv
   have Bj:Hid (∀i,BO ((l.map (·.o)).take (j+1)) i↔BO ((l.map (·.o)).take j) i∨(i=q.o.i∧touch q.o)):=fun i=>by
    rw[List.take_succ_eq_append_getElem (by rw[List.length_map];exact hlt),Tz,List.getElem_map,hq]
   have MQ:=Hd (dO.o q yT.o);clear hq hcell
   go_upto_block 1 with (fail)
   go_cut [5] from 14 to 38 (fun u wx=>∃(U:Option Addr) (uc:Nat) (rs:List ja) (Sn:Int->Prop),u=.slice U rs.length uc∧Hid (DT wx w.heap.size (.slice U rs.length uc) rs)∧Hid (∀q∈rs,aO wx w.heap.size q.v q.l)∧Hid (vk x.t (BO ((l.map (·.o)).take (j+1))) (rs.map (·.l)) Sn)∧Hid (eH wx w.heap.size Sn)∧Hid (bz w wx)∧Hid (rs.length<=j+1))
   case first=>
    have HZ2:Hid (ax (wA.alloc (.cells Vg.toArray 77)) wA.heap.size Vg):=ay wA Vg _;have jL:Hid (bz wA (wA.alloc (.cells Vg.toArray 77))):=bR.alloc nR _;have c0:=qX.o 0 (.int .i64 q.o.k) rfl;have i0:lb<wA.heap.size:=World.block_lt_of_cell? wA ⟨lb,_,none⟩ c0;clear c0
    go_upto_region 6 with (first|((with_reducible refine gL ?_);refine oH 77 _ rfl rfl _ _ rfl (q.cs) qX.o _ underlying77 rfl (by kernel_rfl) ?_)|((with_reducible refine gS ?_);refine au 77 _ _ rfl rfl rfl _ 0 rfl (q.cs) rfl (Vg) HZ2.o (q.cs) rfl (nE rfl) (by kernel_rfl) (dJ.one _ _ _) ?_;intro w3 HW3 dh))
    have HB3:Hid (bz wA w3):=HW3.o.below jL.o nR;have kZ:=Hd (HB.o.trans (HB3.o.mono HB.o.size));have xk:Hid (aj w3 g b m s Z x):=RP.o _ kZ.o;have Je:=Hd (ai.below HU.o HB3.o);have HR3:Hid (∀q∈rs,aO w3 w.heap.size q.v q.l):=fun q hq=>ai.below (HR.o q hq) HB3.o;have tu:=Hd (HM.o.below HB3.o);clear HZ2 jL HW3 qX i0 hlt HOA HU HR HM HB;have c0:=dh.o.c 0 rfl;have c1:=dh.o.c 1 rfl;have i0:wA.heap.size<w3.heap.size:=dh.o.inside;by_cases h1:q.o.k=1
    ·have t1:(q.o.k==1)=true:=by simpa using h1
     have HTQ:Hid (touch q.o):=.inl h1;clear h1
     go_upto_region 10 with (fail)
     refine Gs [22,23,24,25,26,27,28,29] (fun i=>match i with
      |0|1|2=>rp g 0
      |3=>rV (.iface 94 (.pointer (some ⟨b,0,none⟩)))
      |4=>rp wA.heap.size 1
      |5=>rV (.int .i64 q.o.i)
      | 6=>(⟨fun v wv=>∃g9,v=.slice (some ⟨g9,0,none⟩) 1 1∧ax wv g9 [.int .i64 q.o.i],fun v w1 w2 h hb=>h.elim fun g9 h=>⟨g9,h.1,ax.below' h.2 hb⟩⟩:regs.jO regs.bl)
      |7=>rV (.bool (has x.t q.o.i))
      | _=>ra) ⟨?_,?_,?_,?_,?_,?_,?_,?_,trivial⟩ ?_
     any_goals (first|refine zp fun L a w1 hh=>?_|fail)
     have h0:=hh.p 0 g 0;rotate_left;have h22:=rq (hh.d 0 22);rotate_left;have h23:=rq (hh.d 1 23);have i0:=((xk.o.below hh.rel).blk.blk).inside;rotate_left;have vg:=rq (hh.d 2 24);have ⟨c0,i0⟩:=((xk.o.below hh.rel).blk.blk).ci 0 rfl;rotate_left;have h8:=hh.p 8 wA.heap.size 0;have i0:=(ax.below' dh.o hh.rel).inside;rotate_left;have EJ:=rq (hh.d 4 26);have ⟨c0,i0⟩:=(ax.below' dh.o hh.rel).ci 1 rfl;rotate_left
     ·have h27:=rq (hh.d 5 27);have hJ:=hh.j;clear hh;exact yX _ _ _ rfl (by simp[go_sem,h27]) (uN q.o.i w1) ⟨_,rfl,bR.alloc nR _,⟨_,rfl,ay w1 [.int .i64 q.o.i] _⟩,hJ.o⟩
     ·have yL:=rq (hh.d 3 25)
      obtain⟨g9,e9,fV⟩:=(show ∃g9,(a.tmps.getD 28 undef)=.slice (some ⟨g9,0,none⟩) 1 1∧ax w1 g9 [.int .i64 q.o.i] from hh.d 6 28)
      have h28:a.tmps[28]?.getD undef=.slice (some ⟨g9,0,none⟩) 1 1:=rq (e9);have hinv:=ED (.pointer (some ⟨b,0,none⟩));have hC:=Hd (a0B (xk.o.below hh.rel).tree (some ⟨g9,0,none⟩) [q.o.i] 1 (fun _=>⟨g9,0,rfl,fun j hj=>by have:j=0:=(by simp at hj;omega);subst this;exact fV.cell 0⟩) (fun z hz=>by rw[List.mem_singleton.1 hz];exact MQ.o.i) (by simp));rw[show([q.o.i].all (has x.t))=has x.t q.o.i from by simp] at hC;clear e9 fV;have hJ:=hh.j;clear hh;go_simp;refine hC.o.mono ?_;rintro e w9 ⟨rfl,aU⟩;exact⟨_,rfl,aU,rfl,hJ.o⟩
     any_goals (clear hh;go_simp;exact⟨_,rfl,rB,rfl,trivial⟩)
     intro L w4 val hL hJ hR hv;have Ag:val 29=.bool (has x.t q.o.i):=hv 7 29 (by kernel_rfl);have HR4:=Hd hR;clear hv hL hJ hR;simp only[regs.aA,List.map_cons,List.map_nil,Ag];simp only[Act.put,List.setIfInBounds_toArray,List.set_cons_zero,List.set_cons_succ];clear Ag;generalize val 22=v22,val 23=v23,val 24=v24,val 25=v25,val 26=v26,val 27=v27,val 28=v28 at *;have qw:Hid (bz w3 w4):=HR4.o;have jf:=Hd (kZ.o.trans (qw.o.mono kZ.o.size));have JD:=Hd (ai.below Je.o qw.o)
     have Bq:Hid (∀q∈rs,aO w4 w.heap.size q.v q.l):=fun q hq=>ai.below (HR3.o q hq) qw.o;have gV:=Hd (tu.o.below qw.o);have lX:=Hd (ax.below' dh.o qw.o);clear Je HR3 tu dh xk c0 c1 i0;cases hh:has x.t q.o.i with
     | false=>
      have ML:Hid (vk x.t (BO ((l.map (·.o)).take (j+1))) (rs.map (·.l)) Sn):=HST.o.tcs fun i hi hx=>((Bj.o i).1 hi).elim id fun h=>by rw[h.1,hh] at hx;cases hx
      clear hh;go_wp2_with (fail)
      go_meet
      case rel=>exact⟨U,uc,rs,Sn,rfl,JD,Bq,ML,gV,jf,Nat.le_succ_of_le qW.o⟩
     | true=>
      have HHH:=Hd hh;have WT:=Hd (rJ (w:=w4) w.heap.size (fun W ht=>RP.o W (jf.o.trans (ht.aP jf.o.size fun g e=>by rw[e];exact nR))) HN.o Sn gV.o HST.o.hs q.o.i hh);unfold UnQ at WT;clear hh;have c1:=lX.o.c 1 rfl;have i0:wA.heap.size<w4.heap.size:=lX.o.inside;go_wp2_with (fail);refine WT.o.mono ?_;rintro e w5 ⟨A5,c5,row,next,k5,rfl,Sm,hu5,hk5,Ih,yK⟩
      have Jg:Hid (vk x.t (BO ((l.map (·.o)).take (j+1))) (rs.map (·.l)++[row]) (fun i=>Sn i∨i∈row)):=HST.o.add rD.o HHH.o hu5 hk5 (fun i hi=>((Bj.o i).1 hi).imp id fun h=>h.1) fun i=>Iff.rfl;have gz:=Hd (jf.o.trans (yK.aP jf.o.size fun g e=>by rw[e];exact nR));have Cj:=Hd (ai.off JD.o gV.o yK);have F9:Hid (aO w5 w.heap.size (.slice A5 row.length c5) row):=ai.weaken Sm jf.o.size;have jI:Hid (∀q∈rs,aO w5 w.heap.size q.v q.l):=fun q hq=>ai.off (Bq.o q hq) gV.o yK;have rE:=Hd Ih
      obtain⟨v6,w6,hrun,KO,Cb,YG⟩:=L6 Cj.o gz.o.size ⟨A5,c5,row⟩ (c:=1) (by have:=qW.o;have:=eU.o;omega);have Ie:ae (Ow (.slice U rs.length uc)) (Ow (.slice U rs.length uc)) w5 w6:=(ae.below (bR.alloc nR _)).trans (ae.grown Cb fun k hk=>hk);have uZ:=Hd (gz.o.trans (Ie.aP gz.o.size fun g hg=>(ai.block Cj.o hg).1));have DW:Hid (eH w6 w.heap.size (fun i=>Sn i∨i∈row)):=rE.o.stays (Ie.far _ rE.o.inside fun e=>ai.yI Cj.o rE.o e rfl).2
      have vz:Hid (∀q∈rs++[⟨A5,c5,row⟩],aO w6 w.heap.size q.v q.l):=fun q hq=>by
       have h5:aO w5 w.heap.size q.v q.l:=by
        rcases List.mem_append.1 hq with hq|hq
        ·exact jI.o q hq
        ·rw[List.mem_singleton.1 hq];exact F9.o
       exact ai.apart h5 (Z9.types h5 Cj.o (by decide)) Ie
      have WY:Hid (vk x.t (BO ((l.map (·.o)).take (j+1))) ((rs++[(⟨A5,c5,row⟩:ja)]).map (fun q:ja=>q.l)) (fun i=>Sn i∨i∈row)):=by
       have:=Jg.o
       rwa [show(rs++[(⟨A5,c5,row⟩:ja)]).map (fun q:ja=>q.l)=rs.map (fun q:ja=>q.l)++[row] from by simp]
      obtain⟨U6,uc6,rfl,-,-,-⟩:=ai.row KO ja.aZ;have HU6:=Hd KO;clear Sm hu5 hk5 Ih yK KO Cb YG Ie WT HST Jg gV JD Bq rE Cj jI F9 gz c1 i0;go_wp2_with (first|((with_reducible refine gB ?_);refine jQ _ _ _ rfl rfl (by simp[go_sem]) (LJ ⟨A5,c5,row⟩ _) ?_)|(at_builtin;refine aY rfl _ _ nM nM nM rfl rfl _ _ _ _ rfl rfl hrun ?_;clear hrun))
      go_meet
      case rel=>exact⟨U6,uc6,_,_,by simp,HU6,vz,WY,DW,uZ,by have:=qW.o;simp;omega⟩
    by_cases h3:q.o.k=3
    ·have t1:(q.o.k==1)=false:=by simpa using h1
     have t3:(q.o.k==3)=true:=by simpa using h3
     have HTQ:Hid (touch q.o):=.inr (.inl h3);clear h1 h3
     go_upto_region 10 with (fail)
     refine Gs [22,23,24,25,26,27,28,29] (fun i=>match i with
      |0|1|2=>rp g 0
      |3=>rV (.iface 94 (.pointer (some ⟨b,0,none⟩)))
      |4=>rp wA.heap.size 1
      |5=>rV (.int .i64 q.o.i)
      | 6=>(⟨fun v wv=>∃g9,v=.slice (some ⟨g9,0,none⟩) 1 1∧ax wv g9 [.int .i64 q.o.i],fun v w1 w2 h hb=>h.elim fun g9 h=>⟨g9,h.1,ax.below' h.2 hb⟩⟩:regs.jO regs.bl)
      |7=>rV (.bool (has x.t q.o.i))
      | _=>ra) ⟨?_,?_,?_,?_,?_,?_,?_,?_,trivial⟩ ?_
     any_goals (first|refine zp fun L a w1 hh=>?_|fail)
     have h0:=hh.p 0 g 0;rotate_left;have h22:=rq (hh.d 0 22);rotate_left;have h23:=rq (hh.d 1 23);have i0:=((xk.o.below hh.rel).blk.blk).inside;rotate_left;have vg:=rq (hh.d 2 24);have ⟨c0,i0⟩:=((xk.o.below hh.rel).blk.blk).ci 0 rfl;rotate_left;have h8:=hh.p 8 wA.heap.size 0;have i0:=(ax.below' dh.o hh.rel).inside;rotate_left;have EJ:=rq (hh.d 4 26);have ⟨c0,i0⟩:=(ax.below' dh.o hh.rel).ci 1 rfl;rotate_left
     ·have h27:=rq (hh.d 5 27);have hJ:=hh.j;clear hh;exact yX _ _ _ rfl (by simp[go_sem,h27]) (uN q.o.i w1) ⟨_,rfl,bR.alloc nR _,⟨_,rfl,ay w1 [.int .i64 q.o.i] _⟩,hJ.o⟩
     ·have yL:=rq (hh.d 3 25)
      obtain⟨g9,e9,fV⟩:=(show ∃g9,(a.tmps.getD 28 undef)=.slice (some ⟨g9,0,none⟩) 1 1∧ax w1 g9 [.int .i64 q.o.i] from hh.d 6 28)
      have h28:a.tmps[28]?.getD undef=.slice (some ⟨g9,0,none⟩) 1 1:=rq (e9);have hinv:=ED (.pointer (some ⟨b,0,none⟩));have hC:=Hd (a0B (xk.o.below hh.rel).tree (some ⟨g9,0,none⟩) [q.o.i] 1 (fun _=>⟨g9,0,rfl,fun j hj=>by have:j=0:=(by simp at hj;omega);subst this;exact fV.cell 0⟩) (fun z hz=>by rw[List.mem_singleton.1 hz];exact MQ.o.i) (by simp));rw[show([q.o.i].all (has x.t))=has x.t q.o.i from by simp] at hC;clear e9 fV;have hJ:=hh.j;clear hh;go_simp;refine hC.o.mono ?_;rintro e w9 ⟨rfl,aU⟩;exact⟨_,rfl,aU,rfl,hJ.o⟩
     any_goals (clear hh;go_simp;exact⟨_,rfl,rB,rfl,trivial⟩)
     intro L w4 val hL hJ hR hv;have Ag:val 29=.bool (has x.t q.o.i):=hv 7 29 (by kernel_rfl);have HR4:=Hd hR;clear hv hL hJ hR;simp only[regs.aA,List.map_cons,List.map_nil,Ag];simp only[Act.put,List.setIfInBounds_toArray,List.set_cons_zero,List.set_cons_succ];clear Ag;generalize val 22=v22,val 23=v23,val 24=v24,val 25=v25,val 26=v26,val 27=v27,val 28=v28 at *;have qw:Hid (bz w3 w4):=HR4.o;have jf:=Hd (kZ.o.trans (qw.o.mono kZ.o.size));have JD:=Hd (ai.below Je.o qw.o)
     have Bq:Hid (∀q∈rs,aO w4 w.heap.size q.v q.l):=fun q hq=>ai.below (HR3.o q hq) qw.o;have gV:=Hd (tu.o.below qw.o);have lX:=Hd (ax.below' dh.o qw.o);clear Je HR3 tu dh xk c0 c1 i0;cases hh:has x.t q.o.i with
     | false=>
      have ML:Hid (vk x.t (BO ((l.map (·.o)).take (j+1))) (rs.map (·.l)) Sn):=HST.o.tcs fun i hi hx=>((Bj.o i).1 hi).elim id fun h=>by rw[h.1,hh] at hx;cases hx
      clear hh;go_wp2_with (fail)
      go_meet
      case rel=>exact⟨U,uc,rs,Sn,rfl,JD,Bq,ML,gV,jf,Nat.le_succ_of_le qW.o⟩
     | true=>
      have HHH:=Hd hh;have WT:=Hd (rJ (w:=w4) w.heap.size (fun W ht=>RP.o W (jf.o.trans (ht.aP jf.o.size fun g e=>by rw[e];exact nR))) HN.o Sn gV.o HST.o.hs q.o.i hh);unfold UnQ at WT;clear hh;have c1:=lX.o.c 1 rfl;have i0:wA.heap.size<w4.heap.size:=lX.o.inside;go_wp2_with (fail);refine WT.o.mono ?_;rintro e w5 ⟨A5,c5,row,next,k5,rfl,Sm,hu5,hk5,Ih,yK⟩
      have Jg:Hid (vk x.t (BO ((l.map (·.o)).take (j+1))) (rs.map (·.l)++[row]) (fun i=>Sn i∨i∈row)):=HST.o.add rD.o HHH.o hu5 hk5 (fun i hi=>((Bj.o i).1 hi).imp id fun h=>h.1) fun i=>Iff.rfl;have gz:=Hd (jf.o.trans (yK.aP jf.o.size fun g e=>by rw[e];exact nR));have Cj:=Hd (ai.off JD.o gV.o yK);have F9:Hid (aO w5 w.heap.size (.slice A5 row.length c5) row):=ai.weaken Sm jf.o.size;have jI:Hid (∀q∈rs,aO w5 w.heap.size q.v q.l):=fun q hq=>ai.off (Bq.o q hq) gV.o yK;have rE:=Hd Ih
      obtain⟨v6,w6,hrun,KO,Cb,YG⟩:=L6 Cj.o gz.o.size ⟨A5,c5,row⟩ (c:=1) (by have:=qW.o;have:=eU.o;omega);have Ie:ae (Ow (.slice U rs.length uc)) (Ow (.slice U rs.length uc)) w5 w6:=(ae.below (bR.alloc nR _)).trans (ae.grown Cb fun k hk=>hk);have uZ:=Hd (gz.o.trans (Ie.aP gz.o.size fun g hg=>(ai.block Cj.o hg).1));have DW:Hid (eH w6 w.heap.size (fun i=>Sn i∨i∈row)):=rE.o.stays (Ie.far _ rE.o.inside fun e=>ai.yI Cj.o rE.o e rfl).2
      have vz:Hid (∀q∈rs++[⟨A5,c5,row⟩],aO w6 w.heap.size q.v q.l):=fun q hq=>by
       have h5:aO w5 w.heap.size q.v q.l:=by
        rcases List.mem_append.1 hq with hq|hq
        ·exact jI.o q hq
        ·rw[List.mem_singleton.1 hq];exact F9.o
       exact ai.apart h5 (Z9.types h5 Cj.o (by decide)) Ie
      have WY:Hid (vk x.t (BO ((l.map (·.o)).take (j+1))) ((rs++[(⟨A5,c5,row⟩:ja)]).map (fun q:ja=>q.l)) (fun i=>Sn i∨i∈row)):=by
       have:=Jg.o
       rwa [show(rs++[(⟨A5,c5,row⟩:ja)]).map (fun q:ja=>q.l)=rs.map (fun q:ja=>q.l)++[row] from by simp]
      obtain⟨U6,uc6,rfl,-,-,-⟩:=ai.row KO ja.aZ;have HU6:=Hd KO;clear Sm hu5 hk5 Ih yK KO Cb YG Ie WT HST Jg gV JD Bq rE Cj jI F9 gz c1 i0;go_wp2_with (first|((with_reducible refine gB ?_);refine jQ _ _ _ rfl rfl (by simp[go_sem]) (LJ ⟨A5,c5,row⟩ _) ?_)|(at_builtin;refine aY rfl _ _ nM nM nM rfl rfl _ _ _ _ rfl rfl hrun ?_;clear hrun))
      go_meet
      case rel=>exact⟨U6,uc6,_,_,by simp,HU6,vz,WY,DW,uZ,by have:=qW.o;simp;omega⟩
    by_cases h4:q.o.k=4
    ·have t1:(q.o.k==1)=false:=by simpa using h1
     have t3:(q.o.k==3)=false:=by simpa using h3
     have t4:(q.o.k==4)=true:=by simpa using h4
     have HTQ:Hid (touch q.o):=.inr (.inr h4);clear h1 h3 h4
     go_upto_region 10 with (fail)
     refine Gs [22,23,24,25,26,27,28,29] (fun i=>match i with
      |0|1|2=>rp g 0
      |3=>rV (.iface 94 (.pointer (some ⟨b,0,none⟩)))
      |4=>rp wA.heap.size 1
      |5=>rV (.int .i64 q.o.i)
      | 6=>(⟨fun v wv=>∃g9,v=.slice (some ⟨g9,0,none⟩) 1 1∧ax wv g9 [.int .i64 q.o.i],fun v w1 w2 h hb=>h.elim fun g9 h=>⟨g9,h.1,ax.below' h.2 hb⟩⟩:regs.jO regs.bl)
      |7=>rV (.bool (has x.t q.o.i))
      | _=>ra) ⟨?_,?_,?_,?_,?_,?_,?_,?_,trivial⟩ ?_
     any_goals (first|refine zp fun L a w1 hh=>?_|fail)
     have h0:=hh.p 0 g 0;rotate_left;have h22:=rq (hh.d 0 22);rotate_left;have h23:=rq (hh.d 1 23);have i0:=((xk.o.below hh.rel).blk.blk).inside;rotate_left;have vg:=rq (hh.d 2 24);have ⟨c0,i0⟩:=((xk.o.below hh.rel).blk.blk).ci 0 rfl;rotate_left;have h8:=hh.p 8 wA.heap.size 0;have i0:=(ax.below' dh.o hh.rel).inside;rotate_left;have EJ:=rq (hh.d 4 26);have ⟨c0,i0⟩:=(ax.below' dh.o hh.rel).ci 1 rfl;rotate_left
     ·have h27:=rq (hh.d 5 27);have hJ:=hh.j;clear hh;exact yX _ _ _ rfl (by simp[go_sem,h27]) (uN q.o.i w1) ⟨_,rfl,bR.alloc nR _,⟨_,rfl,ay w1 [.int .i64 q.o.i] _⟩,hJ.o⟩
     ·have yL:=rq (hh.d 3 25)
      obtain⟨g9,e9,fV⟩:=(show ∃g9,(a.tmps.getD 28 undef)=.slice (some ⟨g9,0,none⟩) 1 1∧ax w1 g9 [.int .i64 q.o.i] from hh.d 6 28)
      have h28:a.tmps[28]?.getD undef=.slice (some ⟨g9,0,none⟩) 1 1:=rq (e9);have hinv:=ED (.pointer (some ⟨b,0,none⟩));have hC:=Hd (a0B (xk.o.below hh.rel).tree (some ⟨g9,0,none⟩) [q.o.i] 1 (fun _=>⟨g9,0,rfl,fun j hj=>by have:j=0:=(by simp at hj;omega);subst this;exact fV.cell 0⟩) (fun z hz=>by rw[List.mem_singleton.1 hz];exact MQ.o.i) (by simp));rw[show([q.o.i].all (has x.t))=has x.t q.o.i from by simp] at hC;clear e9 fV;have hJ:=hh.j;clear hh;go_simp;refine hC.o.mono ?_;rintro e w9 ⟨rfl,aU⟩;exact⟨_,rfl,aU,rfl,hJ.o⟩
     any_goals (clear hh;go_simp;exact⟨_,rfl,rB,rfl,trivial⟩)
     intro L w4 val hL hJ hR hv;have Ag:val 29=.bool (has x.t q.o.i):=hv 7 29 (by kernel_rfl);have HR4:=Hd hR;clear hv hL hJ hR;simp only[regs.aA,List.map_cons,List.map_nil,Ag];simp only[Act.put,List.setIfInBounds_toArray,List.set_cons_zero,List.set_cons_succ];clear Ag
     skip
     have qw:Hid (bz w3 w4):=HR4.o;have jf:=Hd (kZ.o.trans (qw.o.mono kZ.o.size));have JD:=Hd (ai.below Je.o qw.o);have Bq:Hid (∀q∈rs,aO w4 w.heap.size q.v q.l):=fun q hq=>ai.below (HR3.o q hq) qw.o;have gV:=Hd (tu.o.below qw.o);have lX:=Hd (ax.below' dh.o qw.o);clear Je HR3 tu dh xk c0 c1 i0;cases hh:has x.t q.o.i with
     | false=>
      have ML:Hid (vk x.t (BO ((l.map (·.o)).take (j+1))) (rs.map (·.l)) Sn):=HST.o.tcs fun i hi hx=>((Bj.o i).1 hi).elim id fun h=>by rw[h.1,hh] at hx;cases hx
      clear hh;go_wp2_with (fail)
      go_meet
      case rel=>exact⟨U,uc,rs,Sn,rfl,JD,Bq,ML,gV,jf,Nat.le_succ_of_le qW.o⟩
     | true=>
      have HHH:=Hd hh;have WT:=Hd (rJ (w:=w4) w.heap.size (fun W ht=>RP.o W (jf.o.trans (ht.aP jf.o.size fun g e=>by rw[e];exact nR))) HN.o Sn gV.o HST.o.hs q.o.i hh);unfold UnQ at WT;clear hh;have c1:=lX.o.c 1 rfl;have i0:wA.heap.size<w4.heap.size:=lX.o.inside;go_wp2_with (fail);refine WT.o.mono ?_;rintro e w5 ⟨A5,c5,row,next,k5,rfl,Sm,hu5,hk5,Ih,yK⟩
      have Jg:Hid (vk x.t (BO ((l.map (·.o)).take (j+1))) (rs.map (·.l)++[row]) (fun i=>Sn i∨i∈row)):=HST.o.add rD.o HHH.o hu5 hk5 (fun i hi=>((Bj.o i).1 hi).imp id fun h=>h.1) fun i=>Iff.rfl;have gz:=Hd (jf.o.trans (yK.aP jf.o.size fun g e=>by rw[e];exact nR));have Cj:=Hd (ai.off JD.o gV.o yK);have F9:Hid (aO w5 w.heap.size (.slice A5 row.length c5) row):=ai.weaken Sm jf.o.size;have jI:Hid (∀q∈rs,aO w5 w.heap.size q.v q.l):=fun q hq=>ai.off (Bq.o q hq) gV.o yK;have rE:=Hd Ih
      obtain⟨v6,w6,hrun,KO,Cb,YG⟩:=L6 Cj.o gz.o.size ⟨A5,c5,row⟩ (c:=1) (by have:=qW.o;have:=eU.o;omega);have Ie:ae (Ow (.slice U rs.length uc)) (Ow (.slice U rs.length uc)) w5 w6:=(ae.below (bR.alloc nR _)).trans (ae.grown Cb fun k hk=>hk);have uZ:=Hd (gz.o.trans (Ie.aP gz.o.size fun g hg=>(ai.block Cj.o hg).1));have DW:Hid (eH w6 w.heap.size (fun i=>Sn i∨i∈row)):=rE.o.stays (Ie.far _ rE.o.inside fun e=>ai.yI Cj.o rE.o e rfl).2
      have vz:Hid (∀q∈rs++[⟨A5,c5,row⟩],aO w6 w.heap.size q.v q.l):=fun q hq=>by
       have h5:aO w5 w.heap.size q.v q.l:=by
        rcases List.mem_append.1 hq with hq|hq
        ·exact jI.o q hq
        ·rw[List.mem_singleton.1 hq];exact F9.o
       exact ai.apart h5 (Z9.types h5 Cj.o (by decide)) Ie
      have WY:Hid (vk x.t (BO ((l.map (·.o)).take (j+1))) ((rs++[(⟨A5,c5,row⟩:ja)]).map (fun q:ja=>q.l)) (fun i=>Sn i∨i∈row)):=by
       have:=Jg.o
       rwa [show(rs++[(⟨A5,c5,row⟩:ja)]).map (fun q:ja=>q.l)=rs.map (fun q:ja=>q.l)++[row] from by simp]
      obtain⟨U6,uc6,rfl,-,-,-⟩:=ai.row KO ja.aZ;have HU6:=Hd KO;clear Sm hu5 hk5 Ih yK KO Cb YG Ie WT HST Jg gV JD Bq rE Cj jI F9 gz c1 i0;go_wp2_with (first|((with_reducible refine gB ?_);refine jQ _ _ _ rfl rfl (by simp[go_sem]) (LJ ⟨A5,c5,row⟩ _) ?_)|(at_builtin;refine aY rfl _ _ nM nM nM rfl rfl _ _ _ _ rfl rfl hrun ?_;clear hrun))
      go_meet
      case rel=>exact⟨U6,uc6,_,_,by simp,HU6,vz,WY,DW,uZ,by have:=qW.o;simp;omega⟩
    have t1:(q.o.k==1)=false:=by simpa using h1
    have t3:(q.o.k==3)=false:=by simpa using h3
    have t4:(q.o.k==4)=false:=by simpa using h4
    have ML:Hid (vk x.t (BO ((l.map (·.o)).take (j+1))) (rs.map (·.l)) Sn):=HST.o.tcs fun i hi _=>((Bj.o i).1 hi).elim id fun h=>(h.2.elim h1 fun h=>h.elim h3 h4).elim;clear h1 h3 h4;go_wp2_with (fail)
    go_meet
    case rel=>exact⟨U,uc,rs,Sn,rfl,Je,HR3,ML,tu,kZ,Nat.le_succ_of_le qW.o⟩
   case rest=>
    obtain⟨U2,uc2,rs2,Sn2,rfl,HU2,HR2,MM,Na,HB2,a5B⟩:=hcut;clear HST qW qX hlt HOA;go_wp2_with (fail)
    go_roundw
    case rel=>exact⟨j+1,U2,uc2,rs2,Sn2,eU.o,by go_num,rfl,HU2,HR2,MM,Na,HB2,a5B⟩
    case measure=>have:=eU.o;simp[intOf];omega
  ·obtain rfl:j=l.length:=by omega
   have t1:decide (l.length<l.length)=false:=by simp
   clear hlt;go_wp2_with (fail);go_ret;refine⟨U,uc,rs,Sn,rfl,HU.o,HR.o,?_,?_,HB.o⟩
   ·have:=HST.o
    rwa [List.take_of_length_le (by rw[List.length_map];exact nR)] at this
   ·rw[List.length_map];exact qW.o
end
end
end Go.Proofs.YtekdoeilpheklaaGreat
