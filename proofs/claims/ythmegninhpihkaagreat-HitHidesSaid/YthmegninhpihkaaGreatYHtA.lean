import Derived.Test.YthmegninhpihkaaGreatYFlN
set_option maxHeartbeats 16000000
set_option maxRecDepth 100000
open Go.Proofs.Tryz
namespace Go.Proofs.YthmegninhpihkaaGreat
section
open Go.RowKit fD fO aF Go.Maps
theorem UD{P:Program}{fn:Func}{p q:Tmp}{ty:TypeId}{tmps:Array Value}{w:World}{g:Nat}{cs:List Value}{d:TypeDesc}{v:Value}{Q:Ending->World->Prop}(hfn:fn.results=#[.tmp q,.cell p ty])
  (hp:tmps.getD p undef=.pointer (some ⟨g,0,none⟩)) (hq:tmps.getD q undef=v) (hB:az w g cs) (hu:P.underlying ty=some d) (hd:(match d with|.struct _|.array _ _=>true|_=>false)=true) (hi:(P.info? ty).map (·.size)=some cs.length)
  (h:Q (.returned (.tuple #[v,.agg cs.toArray])) w):bodyPost P fn Q Exit.ret { tmps:=tmps,defers:=[] } w:=by
 obtain⟨T,hg⟩:=hB;refine bodyPost_ret_by (v:=.tuple #[v,.agg cs.toArray]) ?_ rfl h;have hp':tmps[p]?.getD undef=.pointer (some ⟨g,0,none⟩):=by simpa using hp
 have hq':tmps[q]?.getD undef=v:=by simpa using hq
 simp[results,hfn,hp',hq',asAddr,run_loadVar_row w g T ty _ _ d hg hu hd (by simpa using hi)]
section
variable {w w':World}{g:Nat}{cs:List Value}{T:TypeId}
theorem wW.kx{v:Value}{n:Nd}(h:wW w v n)(hb:az w g cs)(hc:kE cs)(hk:KX g w w'):wW w' v n:=by
 obtain⟨A,c,e,hr⟩:=h;refine⟨A,c,e,hr.stays fun a ea hne=>hk.same _ (Row.lt hr.row ea hne) fun e2=>?_⟩;obtain⟨b,off,e3,hcl⟩:=hr.row (List.length_pos_iff.2 hne);rw[ea]at e3;obtain rfl:=Option.some.inj e3;have h1:=hcl 0 (List.length_pos_iff.2 hne);obtain rfl:b=g:=e2;have h2:=hb.cell (off+0);rw[h1]at h2;exact hc _ (List.mem_of_getElem? h2.symm) _ rfl
theorem fE.kx{v:Value}{a b M:Int}{x:aK}(h:fE w v a b M x)(hb:ak w g cs T)(hT:T≠128)(hc:kE cs)(hk:KX g w w'):fE w' v a b M x:=by
 obtain⟨tv,m,e,h1,h2⟩:=h;refine⟨tv,m,e,h1.stays fun _ _ a _ hy ea=>hk.same _ (by obtain⟨cs,fz,h3⟩:=hy a ea;exact lt_of_block h3) (hy.dQ ea hb hT),?_⟩;have hne:=h2.tY hb.blk;obtain⟨es,g1,g2,g3⟩:=h2.ex;refine⟨es,g1.stays (hk.same _ g1.inside (Ne.symm hne)),g2,fun i hi=>?_⟩;obtain⟨v,e,hv⟩:=g3 i hi;exact⟨v,e,hv.kx hb.blk hc hk⟩
end
def Ot(p r:Nat):bF:=fun k=>k=p∨k=r
abbrev z5:List Value:=Vf
structure PlD(w0:World)(p r g b m:Nat)(s:Sh)(x:aK)(w:World):Prop where
 blk:∃A c dm,ak w p (Vb 8 8 30 A x.t.length c dm) 30∧aQ w (.slice A x.t.length c) x.t∧dO w dm (has x.t) x.nd
 res:ak w r z5 30
 my:Qz w0 g b m s ⟨8,⟨8,30⟩,Ot p r⟩ x w
 pge:w0.heap.size<=p
 rlt:r<w0.heap.size
structure RV(r:Nat)(cs0 cs:List Value)(d:Bool)(w:World):Prop where
 no:d=false->az w r cs0
 yes:d=true->az w r cs
def N8(w:World)(e:Ending)(w':World):Prop:=∃g b m s v y,e=.returned (.tuple #[.pointer (some ⟨g,0,none⟩),v])∧Qz w g b m s ⟨8,⟨8,30⟩,fun _=>False⟩ y w'∧fE w' v 8 8 30 y∧kM y∧y.t.length<=120
theorem JB(A:Option Addr)(L:List uS)(c:Nat)(w:World)(h1:Lj w A L)(hf:fits L) :
  Calls prog 9 (Vn 8 8 A L.length c).toArray w (N8 w):=by
 have HT:=Hd h1;have HF:=Hd hf;have hlb:(L.length:Int)<=30:=by have:=hf.2.1;omega
 clear h1 hf;go_enter func9,ntmps9
 go_upto_region 1 with(fail)
 have Yd:Hid (ak (w.alloc (.cells Vf.toArray 30)) w.heap.size z5 30):=ak.new w z5 30;have ZL:Hid (Below w.heap.size w (w.alloc (.cells Vf.toArray 30))):=bR.alloc nR _;generalize (w.alloc (.cells Vf.toArray 30))=wA at*
 obtain⟨r,hr⟩:=aC w.heap.size
 rw[hr]at Yd ZL ⊢;have HRR:=Hd hr;clear hr;go_wp2_with (fail);refine(Uj 8 8 30 wA).mono ?_;rintro e wB ⟨v3,rfl,hd3,hb3⟩;obtain⟨A2,c2,m2,rfl,ht3,TK⟩:=hd3.ex;have Fh:Hid (ak wB r z5 30):=Yd.o.stays (hb3.block _ Yd.o.inside);have I9:Hid (Below r w wB):=ZL.o.trans (hb3.mono (Nat.le_of_lt Yd.o.inside));have HT3:Hid (aQ wB (.slice A2 aK.new.t.length c2) aK.new.t):=ht3;have sS:Hid (dO wB m2 (has aK.new.t) aK.new.nd):=TK;have HZ:Hid (ak (wB.alloc (.cells Vf.toArray 30)) wB.heap.size z5 30):=ak.new wB z5 30
 have Oh:Hid (Below wB.heap.size wB (wB.alloc (.cells Vf.toArray 30))):=bR.alloc nR _;clear hd3 hb3 ht3 TK Yd ZL
 go_upto_region 2 with(first|(with_reducible refine gS ?_;first|(refine ay 30 _ _ rfl rfl rfl _ 0 rfl ((Vb 8 8 30 A2 aK.new.t.length c2 m2)) rfl (Vf) HZ.o.blk ((Vb 8 8 30 A2 aK.new.t.length c2 m2)) rfl (nE rfl) ag rfl ?_;intro wC HWC EX)))
 have LH:Hid (ak wC wB.heap.size (Vb 8 8 30 A2 aK.new.t.length c2 m2) 30):=HZ.o.wrote HWC.o EX.o;have EZ:Hid (Below wB.heap.size wB wC):=HWC.o.below Oh.o nR;have Rf:Hid (ak wC r z5 30):=Fh.o.stays (EZ.o.block _ Fh.o.inside);have qX:Hid (r<wB.heap.size):=Fh.o.inside;have AL:Hid (aQ wC (.slice A2 aK.new.t.length c2) aK.new.t):=HT3.o.below EZ.o;have HMC:Hid (dO wC m2 (has aK.new.t) aK.new.nd):=sS.o.below EZ.o;clear HZ Oh HWC EX Fh HT3 sS
 obtain⟨p,hp⟩:=aC wB.heap.size
 have ES:=Hd hp;rw[hp]at LH EZ qX ⊢;clear hp;have xN:=Hd (SK (w:=wC) ⟨8,⟨8,30⟩,Ot p r⟩ (fun k hk=>hk.elim (fun e=>by rw[e];exact LH.o.inside) fun e=>by rw[e];exact Rf.o.inside) ⟨show(1:Int)<=8 by decide,show(8:Int)<=4096 by decide⟩ ⟨show(1:Int)<=8 by decide,show(8:Int)<=4096 by decide⟩ ⟨show(1:Int)<=30 by decide,show(30:Int)<=65536 by decide⟩);go_wp2_with (fail);refine xN.o.mono ?_;unfold XY;rintro e w2 ⟨g,b,m,s0,rfl,hs1,hb2,hf2,-⟩
 have HPL:Hid (PlD wB p r g b m s0 aK.new w2):=⟨⟨A2,c2,m2,LH.o.stays (hb2.block _ LH.o.inside),AL.o.below hb2,HMC.o.below hb2⟩,Rf.o.stays (hb2.block _ Rf.o.inside),⟨hs1,fun k hk=>by have h1:=hf2 k hk;have h2:=LH.o.inside;rw[ES.o];omega,by show Below _ _ _;rw[ES.o];exact EZ.o.trans (hb2.mono (Nat.le_of_lt LH.o.inside))⟩,Nat.le_of_eq ES.o,by rw[ES.o];exact qX.o⟩
 clear hs1 hb2 hf2 xN LH EZ Rf AL HMC
 go_upto_region 6 with(fail)
 go_loopw [36] (fun yE wr=>∃j:Nat,j<=L.length∧yE=.int .i64 j∧Hid (∃s x,PlD wB p r g b m s x wr∧kM x∧x.t.length<=total (L.take j))) (fun yE _=>L.length - (intOf yE).toNat)
 case atStart=>exact⟨0,Nat.zero_le _,rfl,s0,aK.new,HPL.o,aK.y9,Nat.zero_le _⟩
 case round=>
  obtain⟨j,hj,rfl,HX⟩:=hrel;generalize wr=wD at*;obtain⟨s,x,hpl,hsx,hlx⟩:=HX.o;obtain⟨Ad,cd,dm,hpb,hdt,hdm⟩:=hpl.blk;have BK:=Hd hpb;have HDT:=Hd hdt;have HDM:=Hd hdm;have Ji:=Hd hpl.my;have LG:=Hd hpl.res;have HPG:Hid (wB.heap.size<=p):=hpl.pge;have HSX:=Hd hsx;have HLX:=Hd hlx;clear hpl hsx hlx HX hpb hdt hdm HPL;by_cases hlt:j<L.length
  ·have t4:decide (j<L.length)=true:=by simpa using hlt
   have ik:=Hd hlt
   have o8:Hid (Below w.heap.size w wD):=by
    rw[HRR.o];exact I9.o.trans (Ji.o.bel.mono (by have:=qX.o;have:=ES.o;omega))
   obtain⟨lb,lo,rA,hcell⟩:=(HT.o.below o8.o).row (by omega);subst rA
   obtain⟨q,hq⟩:∃q,q=L[j]'hlt:=⟨_,rfl⟩
   have hqc:wD.cell? ⟨lb,lo+j,none⟩=some (.slice q.A q.l.length q.c):=by
    have:=hcell j hlt 0 (.slice q.A q.l.length q.c) (by rw[hq];rfl)
    rwa [Nat.mul_one,Nat.add_zero]at this
   have BH:Hid (q∈L):=by rw[hq];exact List.getElem_mem hlt
   have uT:Hid (L.take (j+1)=L.take j++[q]):=by rw[hq];exact List.take_succ_eq_append_getElem hlt
   have i0:=World.block_lt_of_cell? wD ⟨lb,_,none⟩ hqc
   have HQL:Hid (x.t.length+q.l.length<=total (L.take (j+1))∧total (L.take (j+1))<=120):=by
    refine⟨?_,Nat.le_trans (Jn (j+1)) HF.o.2.2⟩;rw[uT.o,yJ];have:=HLX.o;omega
   have a2H:Hid (∀o∈q.l,o.o.lk.l.length<=300):=HF.o.1 q BH.o
   have ER:Hid (q.l.length<=1024->Room 30 x q.l.length):=fun _=>by
    have:=HQL.o;exact⟨by omega,.inl (by omega)⟩
   have WB:Hid (Az wD q.A q.l):=(HT.o.below o8.o).ops q BH.o;have dX:Hid (∀q'∈q.l,kX q'.o):=fun q' hq'=>(WB.o.px q' hq').2.ok (a2H.o q' hq');have HN:Hid (q.l.length<=100000):=by have:=HQL.o;show _<=_;omega
   have HA:=Hd (applied Ji.o.at_ HSX.o q.l q.A q.c ((HT.o.ops q BH.o).at_ o8.o fun k hk=>by have h1:=Ji.o.ft k hk;have h2:=qX.o;have h3:=ES.o;have h4:=HRR.o;omega) dX.o ER.o (by have:=HN.o;omega))
   have QC:Hid (kM (bK 30 setSt x (q.l.map (·.o))).1):=HSX.o.apply fun o ho'=>by
    obtain⟨q',h1,h2⟩:=List.mem_map.1 ho';rw[←h2];exact dX.o q' h1
   have Wp:Hid ((bK 30 setSt x (q.l.map (·.o))).1.t.length<=total (L.take (j+1))):=by
    have h1:=(KZ (M:=30) (l:=q.l.map (·.o)) HSX.o.ok).1;rw[List.length_map]at h1;exact Nat.le_trans h1 HQL.o.1
   obtain⟨os,hos⟩:=aC (q.l.map (·.o))
   have HOS:=Hd hos;rw[hos]at HA QC Wp
   obtain⟨⟨y,ri,re⟩,hR⟩:∃R,bK 30 setSt x os=R:=⟨_,rfl⟩
   have HRQ:=Hd hR;have HA2:Hid (Calls prog 22 #[.pointer (some ⟨g,0,none⟩),.slice q.A q.l.length q.c] wD (wX g b m ⟨8,⟨8,30⟩,Ot p r⟩ s x (y,ri,re) wD)):=by rw[←hR];exact HA.o
   rw[hR]at QC Wp;have HFP:Hid (¬af b m s x.t p):=(Ji.o.at_.old p (.inl rfl)).2.1;have HFR:Hid (¬af b m s x.t r):=(Ji.o.at_.old r (.inr rfl)).2.1;clear hcell hq hlt hos hR HA hj
   go_upto_region 8 with(fail)
   clear hqc i0;go_wp2_with (fail);refine HA2.o.mono ?_;unfold wX;rintro e w1 ⟨s1,rfl,hs1,ht1⟩;simp only at hs1 ht1 ⊢;have kK:=Hd hs1;have Fv:Hid (Qz wB g b m s1 ⟨8,⟨8,30⟩,Ot p r⟩ y w1):=Ji.o.turn hs1 ht1;have Yf:Hid (ak w1 p (Vb 8 8 30 Ad x.t.length cd dm) 30):=BK.o.stays (ht1.far p BK.o.inside HFP.o).2;have VA:Hid (ak w1 r z5 30):=LG.o.stays (ht1.far r LG.o.inside HFR.o).2;have a3A:Hid (aQ w1 (.slice Ad x.t.length cd) x.t):=aQ.turn Ji.o.at_ ht1 HDT.o
   have VW:Hid (dO w1 dm (has x.t) x.nd):=dO.turn Ji.o.at_ ht1 HDM.o (aj.2 (.inl rfl));have a4C:=Hd ((HT.o.ops q BH.o));have FP:Hid (∀W,DR w1.heap.size w1 W->az W p (Vb 8 8 30 Ad x.t.length cd dm)):=fun W hr=>Yf.o.blk.below' hr.bel
   have FR:Hid (∀W,DR w1.heap.size w1 W->Calls prog 27 #[.slice q.A q.l.length q.c] W (yz os W)):=fun W hr=>by
    have h1:=Jv q.l q.A q.c W (a4C.o.below (by
     show Below _ _ _;rw[HRR.o];have h2:r<=wB.heap.size:=by have:=qX.o;have:=ES.o;omega
     exact I9.o.trans ((Fv.o.bel.mono h2).trans (hr.bel.mono (Nat.le_trans h2 Fv.o.bel.size))))) a2H.o HN.o
    rw[HOS.o]at h1;exact h1
   have FC:Hid (∀W,DR w1.heap.size w1 W->∀A8 c8 l8,xM W A8 l8->l8.map (·.o)=os->Calls prog 26 #[.agg (Vb 8 8 30 Ad x.t.length cd dm).toArray,.slice A8 (l8:List gK).length c8] W fun e w'=>∃v',e=.returned (.tuple #[v',.int .i64 ri,.int .i64 re])∧DP 8 8 30 y 0 v' w'∧bz W w'):=fun W hr A8 c8 l8 hod PE=>by
    have hlen:l8.length=q.l.length:=by
     have h1:=congrArg List.length (PE.trans HOS.o.symm)
     rwa [List.length_map,List.length_map]at h1
    have h1:=Ky l8 A8 c8 8 8 30 (.agg (Vb 8 8 30 Ad x.t.length cd dm).toArray) x HSX.o W (Fa.doc (a3A.o.below hr.bel) (VW.o.below hr.bel)) hod (fun q' hq'=>by
     have h2:q'.o∈q.l.map (·.o):=by rw[HOS.o,←PE];exact List.mem_map_of_mem hq'
     obtain⟨q2,h3,h4⟩:=List.mem_map.1 h2;rw[←h4]
     exact dX.o q2 h3) (by (try show Below _ _ _);rw[hlen];exact ER.o) (by rw[hlen];have:=HN.o;omega)
    rw[PE,HRQ.o]at h1;refine h1.mono ?_;unfold a1x;rintro e w' ⟨v',h2,h3,h4⟩;refine⟨v',h2,⟨?_,fun _=>h3⟩,h4⟩;obtain⟨A7,c7,m7,h5,-,-⟩:=h3.ex;rw[h5];exact QZ _ _ _ _ _ _ _
   clear hs1 ht1 Ji BK LG HDT HDM HA2 HFP HFR
   go_upto_region 9 with(fail)
   generalize w1=wS at*
   refine QR (DR wS.heap.size) (fun L V wx=>VJ wS.heap.size (L 8) (L 9) (V 15) (V 51) wx∧(L 9=true->L 5=true)∧(L 9=true->L 8=true)) [47,48,49,50,46,51,52,53,15,16,17] (fun _=>DR.refl _ _) (fun _ _ _ h k=>h.trans k) (fun i=>match i with
    |0=>rV (.agg ((Vb 8 8 30 Ad x.t.length cd dm)).toArray)
    |1=>rV (.slice q.A q.l.length q.c)
    |2=>Z7 wS.heap.size os
    |3=>(⟨fun v wv=>∃v',v=.tuple #[v',.int .i64 ri,.int .i64 re]∧DP 8 8 30 y 0 v' wv,fun v q1 q2 h hb=>h.elim fun v' h=>⟨v',h.1,h.2.dr hb⟩⟩:regs.kW (DR wS.heap.size))
    |4=>(⟨fun v wv=>∃v',v=.tuple #[v',.int .i64 ri,.int .i64 re]∧DP 8 8 30 y 0 v' wv,fun v q1 q2 h hb=>h.elim fun v' h=>⟨v',h.1,h.2.dr hb⟩⟩:regs.kW (DR wS.heap.size))
    |5=>(⟨fun v wv=>DP 8 8 30 y 0 v wv,fun v q1 q2 h hb=>h.dr hb⟩:regs.kW (DR wS.heap.size))
    |6|10=>rV (.int .i64 ri)
    |7|11=>rV (.int .i64 re)
    |_=>ra) (DR.below bR.drew nR) (⟨VJ.start (Below.refl 0 _).drew.size,nofun,nofun⟩) ⟨?_,?_,?_,?_,?_,?_,?_,?_,?_,?_,?_,?_,trivial⟩ ?_
   ·refine fP fun L a Bc hh=>?_;have h8:=hh.p 8 p 0;have hB:=Hd (FP.o _ hh.rel);have hJ:=Hd hh.st;exact aN 30 _ rfl p 0 (by simpa[go_sem]using h8) _ hB.o ((Vb 8 8 30 Ad x.t.length cd dm)) rfl _ underlying30 rfl ag ⟨_,rfl,DR.refl _ _,rfl,⟨VJ.slots hJ.o.1 sn sn,hJ.o.2⟩⟩
   ·refine fP fun L a Bc hh=>?_;have h12:=hh.o 12 (v:=.slice q.A q.l.length q.c) rfl;have hJ:=hh.j;clear hh;go_simp;exact⟨_,rfl,DR.refl _ _,rfl,⟨VJ.slots hJ.o.1 sn sn,hJ.o.2⟩⟩
   ·refine fP fun L a Bc hh=>?_;have h48:=rq (hh.d 1 48);have hC:=Hd (FR.o Bc hh.rel);have hbz:=Hd (show wS.heap.size<=Bc.heap.size from hh.rel.bel.size);have hJ:=Hd hh.st;have hsz:=Hd hh.size;have hun:=Hd hh.un;clear hh;go_simp;refine hC.o.mono ?_;unfold yz;rintro e w9 ⟨A9,c9,l9,rfl,a4b,a4a,bD⟩;exact⟨_,rfl,DR.below bD hbz.o,⟨A9,c9,l9,rfl,a4b,a4a⟩,⟨VJ.slots (VJ.below hJ.o.1 bD) sn sn,hJ.o.2⟩⟩
   ·refine fP fun L a Bc hh=>?_;have h47:=rq (hh.d 0 47)
    obtain⟨A8,c8,l8,e8,a2a,PE⟩:=(show ∃A c l9,(a.tmps.getD 49 undef)=.slice A (l9:List gK).length c∧xM Bc A l9∧l9.map (·.o)=os from hh.d 2 49)
    have h49:a.tmps[49]?.getD undef=.slice A8 l8.length c8:=rq (e8);have hC:=Hd (FC.o Bc hh.rel A8 c8 l8 a2a PE);have hbz:=Hd (show wS.heap.size<=Bc.heap.size from hh.rel.bel.size);have hJ:=Hd hh.st;have hsz:=Hd hh.size;have hun:=Hd hh.un;clear hh e8 a2a PE;go_simp;refine hC.o.mono ?_;rintro e w9 ⟨v9,rfl,vS,bD⟩;exact⟨_,rfl,DR.below bD hbz.o,⟨v9,rfl,vS⟩,⟨VJ.slots (VJ.below hJ.o.1 bD) sn sn,hJ.o.2⟩⟩
   ·refine fP fun L a Bc hh=>?_
    obtain⟨v8,e8,CW⟩:=(show ∃v',(a.tmps.getD 50 undef)=.tuple #[v',.int .i64 ri,.int .i64 re]∧DP 8 8 30 y 0 v' Bc from hh.d 3 50)
    have h50:a.tmps[50]?.getD undef=.tuple #[v8,.int .i64 ri,.int .i64 re]:=rq (e8);have WA:=Hd CW;have hJ:=Hd hh.st;have hsz:=Hd hh.size;have hun:=Hd hh.un;clear hh e8 CW;go_simp;exact⟨_,rfl,DR.refl _ _,⟨v8,rfl,WA.o⟩,⟨VJ.slots hJ.o.1 sn sn,hJ.o.2⟩⟩
   ·refine fP fun L a Bc hh=>?_
    obtain⟨v8,e8,CW⟩:=(show ∃v',(a.tmps.getD 46 undef)=.tuple #[v',.int .i64 ri,.int .i64 re]∧DP 8 8 30 y 0 v' Bc from hh.d 4 46)
    have h46:a.tmps[46]?.getD undef=.tuple #[v8,.int .i64 ri,.int .i64 re]:=rq (e8);have WA:=Hd CW;have VI:=Hd (cZ hh.st.2.1 hh.un);have hJ:=Hd hh.st;have hsz:=Hd hh.size;have hun:=Hd hh.un;clear hh e8 CW;go_simp;exact⟨_,rfl,DR.refl _ _,WA.o,⟨VJ.told hJ.o.1 VI.o sn,fun _=>rfl,hJ.o.2.2⟩⟩
   ·refine fP fun L a Bc hh=>?_
    obtain⟨v8,e8,CW⟩:=(show ∃v',(a.tmps.getD 46 undef)=.tuple #[v',.int .i64 ri,.int .i64 re]∧DP 8 8 30 y 0 v' Bc from hh.d 4 46)
    have h46:a.tmps[46]?.getD undef=.tuple #[v8,.int .i64 ri,.int .i64 re]:=rq (e8);have WA:=Hd CW;have hJ:=Hd hh.st;have hsz:=Hd hh.size;have hun:=Hd hh.un;clear hh e8 CW;go_simp;exact⟨_,rfl,DR.refl _ _,rfl,⟨VJ.slots hJ.o.1 sn sn,hJ.o.2⟩⟩
   ·refine fP fun L a Bc hh=>?_
    obtain⟨v8,e8,CW⟩:=(show ∃v',(a.tmps.getD 46 undef)=.tuple #[v',.int .i64 ri,.int .i64 re]∧DP 8 8 30 y 0 v' Bc from hh.d 4 46)
    have h46:a.tmps[46]?.getD undef=.tuple #[v8,.int .i64 ri,.int .i64 re]:=rq (e8);have WA:=Hd CW;have hJ:=Hd hh.st;have hsz:=Hd hh.size;have hun:=Hd hh.un;clear hh e8 CW;go_simp;exact⟨_,rfl,DR.refl _ _,rfl,⟨VJ.slots hJ.o.1 sn sn,hJ.o.2⟩⟩
   ·refine fP fun L a Bc hh=>?_;have VI:=Hd (cZ hh.st.2.2 hh.un);have hbz:=Hd (show wS.heap.size<=Bc.heap.size from hh.rel.bel.size);have hJ:=Hd hh.st;have hsz:=Hd hh.size;have hun:=Hd hh.un;clear hh;go_simp;exact⟨_,rfl,DR.below (bR.alloc nR _) hbz.o,trivial,⟨VJ.made hJ.o.1 VI.o (bP.bI (by rw[hsz.o];simp)),hJ.o.2.1,fun _=>rfl⟩⟩
   ·refine fP fun L a Bc hh=>?_;have hup:=hh.up 8 ag;obtain⟨g9,c9,h9,nz,gJ,We,Xy,-⟩:=hh.st.1.ex hup
    obtain⟨⟨Ut,e8,QX,PG,ho8⟩,hd8⟩:=(show DP 8 8 30 y 0 (a.tmps.getD 51 undef) Bc from hh.d 5 51)
    have hJ:=Hd hh.st;have a0m:=Hd (hh.up 5 ag);refine dB 30 _ _ rfl g9 0 (by have h:=h9;unfold bP.sl at h;simpa[go_sem]using h) Ut (by simpa[go_sem]using e8) _ gJ.blk (by rw[QX,Xy];decide) (by rw[QX];kernel_rfl) ho8 ?_;intro w9 nC BC
    have a0y:az w9 g9 Ut:=by
     have e:c9.take 0++Ut++c9.drop (0+Ut.length)=Ut:=by rw[QX,List.drop_of_length_le (by rw[Xy];decide)];simp
     rw[←e];exact BC
    have hP:=hJ.o.1.put h9 nz gJ We nC a0y PG QX e8;exact⟨undef,rfl,hP.2,trivial,⟨hP.1,fun _=>a0m.o,fun _=>hup⟩⟩
   ·refine fP fun L a Bc hh=>?_;have h52:=rq (hh.d 6 52);have hJ:=hh.j;clear hh;go_simp;exact⟨_,rfl,DR.refl _ _,rfl,⟨VJ.slots hJ.o.1 sn sn,hJ.o.2⟩⟩
   ·refine fP fun L a Bc hh=>?_;have h53:=rq (hh.d 7 53);have hJ:=hh.j;clear hh;go_simp;exact⟨_,rfl,DR.refl _ _,rfl,⟨VJ.slots hJ.o.1 sn sn,hJ.o.2⟩⟩
   intro L w4 val hL hJ hR hv;have h16:val 16=.int .i64 ri:=hv 10 16 ag;have h17:val 17=.int .i64 re:=hv 11 17 ag;have HR4:=Hd hR;obtain⟨g9,c9,e9,nz,bD,We,Xy,hv9⟩:=hJ.1.ex (hL 8 (by decide));have hv34:=hv9 (hL 9 (by decide));have hd34:DP 8 8 30 y 0 (val 51) w4:=hv 5 51 ag;have VY:=Hd hd34;have UZ:=Hd hv34;have uY:=Hd (And.intro nz bD);clear hv hL hJ hR hd34 hv34 nz bD We Xy hv9;simp only[regs.aG,List.map_cons,List.map_nil,h16,h17];simp only[Act.put,List.setIfInBounds_toArray,List.set_cons_zero,List.set_cons_succ];clear h16 h17
   skip
   rw[e9];clear e9;have Ye:Hid (ak w4 p (Vb 8 8 30 Ad x.t.length cd dm) 30):=Yf.o.stays (HR4.o.bel.block _ Yf.o.inside);have a4y:Hid (ak w4 r z5 30):=VA.o.stays (HR4.o.bel.block _ VA.o.inside);have gZ:Hid (Qz wB g b m s1 ⟨8,⟨8,30⟩,Ot p r⟩ y w4):=Fv.o.below HR4.o.bel;obtain⟨An,cn,mn,hvn,htn,hmn⟩:=(VY.o.2 rfl).ex
   have hcn:c9=(Vb 8 8 30 An y.t.length cn mn):=by
    have h1:=UZ.o.symm.trans hvn
    injection h1 with h1
    have h2:=congrArg Array.toList h1
    simpa using h2
   subst hcn;have HTN:=Hd htn;have HMN:=Hd hmn;clear hvn htn hmn VY UZ FP FR FC Yf VA Fv a3A VW kK;have q2:(re != re)=false:=by simp
   have q3:decide (re=re)=true:=by simp
   go_upto_region 13 with(first|(with_reducible refine gL ?_;first|(refine lH 30 _ rfl rfl _ 0 rfl ((Vb 8 8 30 An y.t.length cn mn)) uY.o.2.blk ((Vb 8 8 30 An y.t.length cn mn)) rfl _ underlying30 rfl ag ?_))|(with_reducible refine gS ?_;first|(refine ay 30 _ _ rfl rfl rfl _ 0 rfl ((Vb 8 8 30 An y.t.length cn mn)) rfl ((Vb 8 8 30 Ad x.t.length cd dm)) Ye.o.blk ((Vb 8 8 30 An y.t.length cn mn)) rfl (nE rfl) ag rfl ?_;intro w5 yA uX)))
   go_wp2_with (fail)
   go_roundw
   case rel=>
    refine⟨j+1,ik.o,by go_num,s1,y,⟨⟨An,cn,mn,Ye.o.wrote yA.o uX.o,HTN.o.wrote Ye.o (by decide) yA.o,HMN.o.wrote Ye.o.blk (by unfold kE;simp) yA.o⟩,a4y.o.stays (yA.o.far (by have:=qX.o;omega)),⟨gZ.o.at_.part (E':=Ot p r) (fun k _ hk=>yA.o.far fun e=>hk (.inl e)) (fun k hk=>?_),gZ.o.ft,yA.o.below gZ.o.bel HPG.o⟩,HPG.o,by rw[ES.o];exact qX.o⟩,QC.o,Wp.o⟩;have hk':=gZ.o.at_.old k hk;exact⟨by rw[yA.o.size];exact hk'.1,.inl hk⟩
   case measure=>have:=ik.o;simp[intOf];omega
  ·obtain rfl:j=L.length:=by omega
   have t4:decide (L.length<L.length)=false:=by simp
   clear hlt
   go_upto_region 14 with(fail)
   have FP:Hid (∀W,KX r wD W->az W p (Vb 8 8 30 Ad x.t.length cd dm)):=fun W hr=>by
    exact(BK.o.stays (hr.same p BK.o.inside (by have:=qX.o;omega))).blk
   refine wR (KX r) (fun L wx=>RV r z5 (Vb 8 8 30 Ad x.t.length cd dm) (L 3) wx) [60,61,6] (fun _=>KX.refl _ _) (fun _ _ _ h k=>h.trans k) (fun i=>match i with
    |0|2=>rp g 0
    |1=>rV (.agg ((Vb 8 8 30 Ad x.t.length cd dm)).toArray)
    |_=>ra) (KX.of_below bR.drew) (⟨fun _=>LG.o.blk.below' bR.drew,nofun⟩) ⟨?_,?_,?_,?_,trivial⟩ ?_
   any_goals (first|refine zp fun L a w1 hh=>?_|fail)
   have h9:=hh.p 9 g 0;rotate_left
   ·have h8:=hh.p 8 p 0;have hB:=Hd (FP.o _ hh.rel);have hJ:=Hd hh.st;exact aN 30 _ rfl p 0 (by simpa[go_sem]using h8) _ hB.o ((Vb 8 8 30 Ad x.t.length cd dm)) rfl _ underlying30 rfl ag ⟨_,rfl,KX.refl _ _,rfl,hJ.o⟩
   have h60:=rq (hh.d 0 60);rotate_left
   ·have h7:=hh.p 7 r 0;have h61:=rq (hh.d 1 61);have rZ:=hh.st.no hh.un;refine dB 30 _ _ rfl r 0 (by simpa[go_sem]using h7) (Vb 8 8 30 Ad x.t.length cd dm) (by simpa[go_sem]using h61) _ rZ (nE rfl) ag (by rfl) ?_;intro w9 nC gJ;exact⟨undef,rfl,KX.wrote nC,trivial,⟨nofun,fun _=>gJ⟩⟩
   any_goals (have hJ:=hh.j;clear hh;go_simp;exact⟨_,rfl,KX.refl _ _,rfl,hJ.o⟩)
   intro L w4 val hL hJ hR hv;have h60:val 60=.pointer (some ⟨g,0,none⟩):=hv 0 60 ag;have h6:val 6=.pointer (some ⟨g,0,none⟩):=hv 2 6 ag;have HR4:=Hd hR;have HV4:=Hd (hJ.yes (hL 3 (by decide)));clear hv hL hJ hR;simp only[regs.aG,List.map_cons,List.map_nil,h60,h6];simp only[Act.put,List.setIfInBounds_toArray,List.set_cons_zero,List.set_cons_succ];clear h60 h6
   skip
   go_wp2_with (fail);refine UD rfl rfl rfl HV4.o underlying30 rfl ag ?_;refine⟨g,b,m,s,.agg (Vb 8 8 30 Ad x.t.length cd dm).toArray,x,rfl,⟨Ji.o.at_.part (E':=fun _=>False) (fun k hk hn=>HR4.o.same k hk fun e=>hn (.inr e)) (fun k hk=>hk.elim),fun k hk=>?_,?_⟩,?_,HSX.o,?_⟩
   ·have h1:=Ji.o.ft k hk;have h2:=qX.o;have h3:=ES.o;have h4:=HRR.o;omega
   ·show Below _ _ _;rw[HRR.o];have h2:r<=wB.heap.size:=by have:=qX.o;have:=ES.o;omega
    exact I9.o.trans ((Ji.o.bel.mono h2).trans (HR4.o.aP nR (Nat.le_trans h2 Ji.o.bel.size)))
   ·exact(Fa.doc HDT.o HDM.o).kx LG.o (by decide) (by unfold kE;simp) HR4.o
   ·have:=HLX.o;rw[List.take_length]at this;exact Nat.le_trans this HF.o.2.2
end
section
open Go.RowKit fD fO aF Go.Maps
def Fg(i:Int)(b:Bool):dM:={ dM.o with k:=8,i:=i,on:=b }
theorem TY{i:Int}(hi:I64 i)(b:Bool):kX (Fg i b):=by
 refine⟨hi,?_,⟨?_,?_,?_⟩⟩
 ·show I64 0;exact⟨by decide,by decide⟩
 ·show(0:Nat)<4294967296
  decide
 ·intro z hz;cases hz
 ·show(0:Nat)<=300
  decide
theorem DN{t:T}{nd Bq:Int->Nd}(h:∀j,(Bq j).m=(nd j).m)(i:Int):aJ t Bq i=aJ t nd i:=by
 unfold aJ;simp only[h]
noncomputable def hidS (x:aK) (i:Int) (b:Bool):aK:=(bK 30 setSt x [Fg i b]).1
theorem qJ{x:aK}(hx:kM x){i:Int}(h:has x.t i=true)(b:Bool):bK 30 setSt x [Fg i b]=(hidS x i b,1,0)∧(hidS x i b).t=x.t∧(hidS x i b).nd=upd x.nd i { x.nd i with hi:=b }∧∀j,has x.t j=true->(hidS x i b).ws j=x.ws j:=by
 have hd:fG 30 x (Fg i b)=(⟨x.t,upd x.nd i { x.nd i with hi:=b },x.ws⟩,0):=by
  unfold fG;rw[if_neg (by show ¬(8:Int)=1;decide),if_neg (by show ¬(8:Int)=2;decide),if_neg (by show ¬(8:Int)=3;decide),if_pos (by show(4:Int)<=8∧(8:Int)<=8;decide)];unfold lI;rw[if_neg (by show ¬has x.t i=false;rw[h];decide),if_neg (by show ¬((bU Nd.plain (Fg i b)).chk≠0);cases b<;>exact not_not_intro rfl)];rfl
 have ha:aO 30 x [Fg i b]=(⟨x.t,upd x.nd i { x.nd i with hi:=b },x.ws⟩,1,0):=by
  rw[bY,hd,if_neg (by simp)];rfl
 have hm:∀j,(upd x.nd i { x.nd i with hi:=b } j).m=(x.nd j).m:=fun j=>by
  unfold upd;by_cases e:j=i
  ·rw[if_pos e,e]
  ·rw[if_neg e]
 have hs:∀j,has x.t j=true->aJ x.t (upd x.nd i { x.nd i with hi:=b }) j=some (x.ws j):=fun j hj=>by
  rw[DN hm];exact hx.set j hj (fun _ _ h=>h) (fun h=>h)
 have hst:setSt ⟨x.t,upd x.nd i { x.nd i with hi:=b },x.ws⟩=(⟨x.t,upd x.nd i { x.nd i with hi:=b },fun j=>(aJ x.t (upd x.nd i { x.nd i with hi:=b }) j).getD (x.ws j)⟩,0):=by
  unfold setSt;rw[if_pos fun j hj=>by rw[hs j hj];simp]
 have hap:bK 30 setSt x [Fg i b]=(⟨x.t,upd x.nd i { x.nd i with hi:=b },fun j=>(aJ x.t (upd x.nd i { x.nd i with hi:=b }) j).getD (x.ws j)⟩,1,0):=by
  unfold bK;rw[if_neg (by simp),ha,if_neg (by simp),hst,if_neg (by simp)];rfl
 unfold hidS;rw[hap];exact⟨rfl,rfl,rfl,fun j hj=>by show(aJ _ _ j).getD _=_;rw[hs j hj];rfl⟩
theorem Ho{α β:Type}{f g:α->Option β}:∀{l:List α},(∀x∈l,f x=g x)->l.filterMap f=l.filterMap g
 |[],_=>rfl
 |a::l,h=>by
  rw[List.filterMap_cons,List.filterMap_cons,h a List.mem_cons_self,Ho fun x hx=>h x (List.mem_cons_of_mem _ hx)]
theorem MI{n:Nd}(h:n.hi=true)(w:Mp)(d:Option Dn):Dn.step n w d=none:=by
 unfold Dn.step;cases d with
 |none=>rfl
 |some d=>
  rw[Option.bind_some,if_neg];unfold Dn.ok;rw[h];simp
theorem WR(n:Nd)(w:Mp):Dn.step n w none=none:=rfl
theorem PY{x:aK}(hx:kM x){i:Int}(h:has x.t i=true){j:Int}(hj:j=0∨j∈ids x.t):cO (hidS x i true) j=if j=i∨within x.t j i=true then none else cO x j:=by
 obtain⟨-,a1,a2,a3⟩:=qJ hx h true;have hn:∀k,k≠i->(hidS x i true).nd k=x.nd k:=fun k hk=>by rw[a2];unfold upd;rw[if_neg hk]
 have hi1:((hidS x i true).nd i).hi=true:=by rw[a2];unfold upd;rw[if_pos rfl]
 refine hx.ok.pY (P:=fun j=>cO (hidS x i true) j=if j=i∨within x.t j i=true then none else cO x j) ?_ (fun j hj ih=>?_) hj
 ·rw[pW];by_cases e:(0:Int)=i
  ·subst e;rw[MI hi1,if_pos (.inl rfl)]
  ·rw[hn 0 e,a3 0 (aj.2 (.inl rfl)),←pW,if_neg];rintro(e2|e2)
   ·exact e e2
   ·rw[gW hx.ok,if_neg (fun k=>k.2.2 rfl)]at e2;cases e2
 ·rw[kH (x:=hidS x i true) (by rw[a1];exact hx.ok) (by rw[a1];exact hj),a1];by_cases e:j=i
  ·subst e;rw[MI hi1,if_pos (.inl rfl)]
  ·have e4:=gW hx.ok j i;rw[if_pos ⟨aj.2 (.inr hj),h,hx.ok.vJ hj⟩]at e4;rw[ih,hn j e,a3 j (aj.2 (.inr hj)),e4,kH hx.ok hj];by_cases e2:par x.t j=i∨within x.t (par x.t j) i=true
   ·rw[if_pos e2,WR,if_pos (.inr (by rcases e2 with e2|e2<;>simp[e2]))]
   ·rw[if_neg e2,if_neg];rintro(e3|e3)
    ·exact e e3
    ·simp only[Bool.or_eq_true,decide_eq_true_eq]at e3;exact e2 e3
theorem GX{x:aK}{j:Int}{q:It}(h:dW x j=some q):q.i=j:=by
 unfold dW at h;cases hd:cO x j with
 |none=>rw[hd]at h;cases h
 |some d=>
  rw[hd,Option.bind_some]at h;split at h
  ·cases h
  ·injection h with h
   rw[←h]
def kept(t:T)(i:Int)(q:It):Bool:=!(decide (q.i=i)||within t q.i i)
theorem JW{x:aK}(hx:kM x){i:Int}(h:has x.t i=true):items (hidS x i true)=(items x).filter (kept x.t i):=by
 obtain⟨-,a1,a2,a3⟩:=qJ hx h true;unfold items;rw[List.filter_filterMap,a1];refine Ho fun j hj=>?_;have hj:=(iG hx.ok).1 hj;have hd:=PY hx h (aj.1 hj);by_cases e:j=i∨within x.t j i=true
 ·rw[if_pos e]at hd;have e1:dW (hidS x i true) j=none:=by unfold dW;rw[hd];rfl
  rw[e1];cases hq:dW x j with
  |none=>rfl
  |some q=>
   have hi:=GX hq
   have e2:kept x.t i q=false:=by
    unfold kept;rw[hi];rcases e with e|e<;>simp[e]
   rw[Option.filter_some,if_neg (by rw[e2];decide)]
 ·rw[if_neg e]at hd;have hji:j≠i:=fun k=>e (.inl k)
  have e1:dW (hidS x i true) j=dW x j:=by
   unfold dW;rw[hd,a3 j hj,a2];unfold upd;rw[if_neg hji]
  rw[e1];cases hq:dW x j with
  |none=>rfl
  |some q=>
   have hi:=GX hq
   have e2:kept x.t i q=true:=by
    unfold kept;rw[hi]
    have e3:within x.t j i=false:=by
     cases hw:within x.t j i with
     |false=>rfl
     |true=>exact absurd (.inr hw) e
    simp[e3,hji]
   rw[Option.filter_some,if_pos e2]
theorem PR{α:Type}(p:α->Bool){l:List α}{j:Nat}(hj:j<l.length)(h:p l[j]=true):(l.filter p)[((l.take j).filter p).length]?=some l[j]:=by
 have e:l.filter p=(l.take j).filter p++l[j]::(l.drop (j+1)).filter p:=by
  have e1:l=l.take j++l[j]::l.drop (j+1):=by rw[←List.drop_eq_getElem_cons hj,List.take_append_drop]
  conv=>lhs;rw[e1]
  rw[List.filter_append,List.filter_cons,if_pos h]
 rw[e,List.getElem?_append_right nR,Nat.sub_self];rfl
theorem Hr{α:Type}(p:α->Bool){l:List α}{j:Nat}(hj:j<l.length):((l.take (j+1)).filter p).length=((l.take j).filter p).length+if p l[j]=true then 1 else 0:=by
 rw[List.take_succ_eq_append_getElem hj,List.filter_append,List.length_append]
 congr 1
 by_cases h:p l[j]=true
 ·rw[List.filter_cons,if_pos h,if_pos h];rfl
 ·rw[List.filter_cons,if_neg h,if_neg h];rfl
end
section
open Go.RowKit fD fO aF Go.Maps
structure Zq(w:World)(P:Nat->Prop)(A:Option Addr)(l:List iM):Prop where
 row:aU 22 iM.cs w A l
 at_:∀q∈l,pq w q∧q.it.Ok∧(∀a,q.Ac=some a->q.it.c≠[]->P a.block)∧∀a,q.A=some a->q.it.lk.l≠[]->P a.block
 far:∀a,A=some a->l≠[]->P a.block
section
variable {w w':World}{P:Nat->Prop}{A:Option Addr}{l:List iM}
theorem Zq.of(h1:aU 22 iM.cs w' A l)(h2:∀q∈l,pq w' q∧q.it.Ok∧(∀a,q.Ac=some a->q.it.c≠[]->w.heap.size<=a.block)∧∀a,q.A=some a->q.it.lk.l≠[]->w.heap.size<=a.block)(h3:∀a,A=some a->l≠[]->w.heap.size<=a.block):Zq w' (fun k=>w.heap.size<=k∧k<w'.heap.size) A l:=
 ⟨h1,fun q hq=>by
  obtain⟨k1,k2,k3,k4⟩:=h2 q hq
  exact⟨k1,k2,fun a ea hne=>⟨k3 a ea hne,aU.blt k1.rD qg ea hne⟩,fun a ea hne=>⟨k4 a ea hne,Row.lt k1.px ea hne⟩⟩,fun a ea hne=>⟨h3 a ea hne,aU.blt h1 (fun _=>⟨_,_,rfl⟩) ea hne⟩⟩
theorem Zq.stays(h:Zq w P A l)(hb:∀k,P k->k<w.heap.size->w'.heap[k]?=w.heap[k]?):Zq w' P A l:=
 ⟨h.row.RI fun a ea hne=>hb _ (h.far a ea hne) (aU.blt h.row (fun _=>⟨_,_,rfl⟩) ea hne),fun q hq=>by
  obtain⟨h1,h2,h3,h4⟩:=h.at_ q hq
  exact⟨h1.stays (fun a ea hne=>hb _ (h3 a ea hne) (aU.blt h1.rD qg ea hne)) fun a ea hne=>hb _ (h4 a ea hne) (Row.lt h1.px ea hne),h2,h3,h4⟩,h.far⟩
theorem Zq.below(h:Zq w P A l)(hb:bz w w'):Zq w' P A l:=h.stays fun k _ hk=>hb.block k hk
end
theorem JY(v y z:Value)(w:World):(invoke (.fn (.method "Within") #[]) #[.iface 88 v,y,z]).run prog w=.ok (.enter 191 #[v,y,z]) w:=by kernel_rfl
theorem UB(i:Int)(w:World):(Instr.build 85 #[(0,.int .i64 8),(1,.int .i64 i),(6,.bool true)]).run prog w=.ok (.agg (gK.cs ⟨Fg i true,none,0⟩).toArray) w:=by kernel_rfl
theorem a4l(a:gK)(w:World):(Instr.buildSlice a1F 1 #[(0,.agg a.cs.toArray)]).run prog w=.ok (.slice (some ⟨w.heap.size,0,none⟩) 1 1) (w.alloc (.cells a.cs.toArray 85)):=by kernel_rfl
theorem PI{w w0:World}{g b m:Nat}{s:Sh}{E:bF}{x:aK}(hm:Qz w0 g b m s ⟨8,⟨8,30⟩,E⟩ x w)(hx:kM x)(hn:x.t.length<=120){i:Int}(hi:I64 i)(h:has x.t i=true)(t:Bool)(W:World)(hW:W=w.alloc (.cells (gK.cs ⟨Fg i t,none,0⟩).toArray 85)) :
  bz w W∧Calls prog 22 #[.pointer (some ⟨g,0,none⟩),.slice (some ⟨w.heap.size,0,none⟩) 1 1] W fun e w'=>∃s',e=.returned (.tuple #[.int .i64 1,.int .i64 0])∧Qz w0 g b m s' ⟨8,⟨8,30⟩,E⟩ (hidS x i t) w'∧Below w0.heap.size W w'∧∀k,k<W.heap.size->¬af b m s x.t k->¬af b m s' (hidS x i t).t k∧w'.heap[k]?=W.heap[k]?:=by
 subst hW;have HB:bz w (w.alloc (.cells (gK.cs ⟨Fg i t,none,0⟩).toArray 85)):=bR.alloc nR _;refine⟨HB,?_⟩;have hm2:=hm.below HB;have ho:=CO (w:=w) (S:=af b m s x.t) hm.at_.inside [⟨Fg i t,none,0⟩] (by intro q hq;rw[List.mem_singleton.1 hq];rfl);rw[show([⟨Fg i t,none,0⟩]:List gK).flatMap gK.cs=gK.cs ⟨Fg i t,none,0⟩ from by simp]at ho;have ha:=applied hm2.at_ hx [⟨Fg i t,none,0⟩] (some ⟨w.heap.size,0,none⟩) 1 ho (fun q hq=>by rw[List.mem_singleton.1 hq];exact TY hi t) (fun _=>⟨by simp,.inl (by simp;omega)⟩) (by simp)
 rw[show bK (⟨8,⟨8,30⟩,E⟩:ZZ).2.2 setSt x (([⟨Fg i t,none,0⟩]:List gK).map (·.o))=bK 30 setSt x [Fg i t] from rfl,(qJ hx h t).1]at ha;refine ha.mono ?_;unfold wX;rintro e w' ⟨s',rfl,hs,ht⟩;exact⟨s',rfl,hm2.turn hs ht,ht.aP hm2.bel.size hm2.ft,ht.far⟩
end
section
open Go.RowKit fD fO aF Go.Maps
end
section
open Go.RowKit fD fO aF Go.Maps
structure WJ(B:Nat)(pl:List Int)(i:Int)(lA lB lC lD:Bool)(vA vB vC vD:Value)(w:World):Prop where
 sz:B<=w.heap.size
 a:lA=true->lC=false->aV w B vA pl
 b:lB=true->lC=false->∃g,vB=.slice (some ⟨g,0,none⟩) 1 1∧az w g [.int .i64 i]
 c:lC=true->aV w B vC (pl++[i])
 d:lD=true->lC=true∧vD=vC
section
variable {B:Nat}{pl:List Int}{i:Int}{lA lB lC lD:Bool}{vA vB vC vD uA uB uC uD v9:Value}{w w':World}
theorem WJ.below(h:WJ B pl i lA lB lC lD vA vB vC vD w)(hb:bz w w'):WJ B pl i lA lB lC lD vA vB vC vD w':=⟨Nat.le_trans h.sz hb.size,fun e f=>ax.below (h.a e f) hb,fun e f=>by
 obtain⟨g,e1,e2⟩:=h.b e f
 exact⟨g,e1,e2.below' hb⟩,fun e=>ax.below (h.c e) hb,h.d⟩
theorem WJ.slots(h:WJ B pl i lA lB lC lD vA vB vC vD w)(e1:uA=vA)(e2:uB=vB)(e3:uC=vC)(e4:uD=vD):WJ B pl i lA lB lC lD uA uB uC uD w:=by rw[e1,e2,e3,e4];exact h
theorem WJ.run(h:WJ B pl i lA lB lC lD vA vB vC vD w)(hA:lA=true)(hB:lB=true)(hC:lC=false)(hn:pl.length<=100000):∃g v9 w9,vB=.slice (some ⟨g,0,none⟩) 1 1∧(Builtin.append_ #[bM,bM] bM #[vA,.slice (some ⟨g,0,none⟩) 1 1]).run prog w=.ok v9 w9∧aV w9 B v9 (pl++[i])∧Below B w w9:=by
 obtain⟨g,e,hb⟩:=h.b hB hC;obtain⟨v9,w9,h1,h2,h3,-⟩:=ax.app (P:=prog) (xs:=[i]) (c:=1) (g:=g) (o:=0) (ts:=bM) underlying35 kF rfl (by decide) (by decide) iD uq (h.a hA hC) (fun _=>yP iD (by simpa[ic]using hb)) (by simp;omega) h.sz;exact⟨g,v9,w9,e,h1,h2,bR.grown h3 h.sz fun k hk=>((h.a hA hC).block hk).1⟩
end
end
section
open Go.RowKit fD fO aF Go.Maps
abbrev pJ:TypeId:=48
abbrev DY:TypeId:=33
abbrev ZX:TypeId:=158
def DC(i:Int)(u b:Mp)(v:Value)(o:Nat)(n:Nd)(A:Option Addr)(c:Nat):List Value:=[.int .i64 i,.int .i64 u.a,.int .i64 u.b,.int .i64 u.c,.int .i64 u.d,.int .i64 u.e,.int .i64 u.f,.int .i64 b.a,.int .i64 b.b,.int .i64 b.c,.int .i64 b.d,.int .i64 b.e,.int .i64 b.f,v,.int .i64 (o:Nat)]++n.cs A c
structure DI where
 it:It
 n:Nd
 Ac:Option Addr
 cc:Nat
 A:Option Addr
 c:Nat
def DI.cs(q:DI):List Value:=DC q.it.i q.it.w q.it.b (.slice q.Ac q.it.c.length q.cc) q.it.o q.n q.A q.c
theorem DI.bV(q:DI):q.cs.length=35:=rfl
theorem DI.one(q:DI):q.cs.all (·.oneCell')=true:=rfl
def DI.zero:DI:=⟨⟨0,Mp.o,Mp.o,[],0,⟨0,0,0,0,0,0,[]⟩⟩,Nd.zero,none,0,none,0⟩
structure Lw(x B:Nat)(A W:World):Prop where
 os:W.os=A.os
 tape:W.tape=A.tape
 output:W.output=A.output
 size:A.heap.size<=W.heap.size
 same:∀k,k<B->k≠x->W.heap[k]?=A.heap[k]?
theorem Lw.of_below{x B:Nat}{A W:World}(h:bz A W)(hs:B<=A.heap.size):Lw x B A W:=⟨h.os,h.tape,h.output,h.size,fun k hk _=>h.block k (Nat.lt_of_lt_of_le hk hs)⟩
theorem Lw.tX{x B:Nat}{A W:World}{r:Option Nat}(h:A.grownBy W r)(hr:∀k,r=some k->B<=k)(hs:B<=A.heap.size):Lw x B A W:=⟨h.os,h.tape,h.output,h.size,fun k hk _=>h.block k (Nat.lt_of_lt_of_le hk hs) fun e=>by have:=hr k e.symm;omega⟩
structure OfK(w:World)(cs2:List Value)(v6:Value)(l:List Int)(o7 B:Nat)(W:World):Prop where
 bel:bz w W
 b2:az W w.heap.size cs2
 b4:az W (w.heap.size+1) DI.zero.cs
 own:aV W (w.heap.size+2) v6 l
 lt:w.heap.size+2<=o7∧o7<B∧B<=W.heap.size
 v6:∀g,v6.ownBlock=some g->g<o7
theorem OfK.step{w:World}{cs2:List Value}{v6:Value}{l:List Int}{o7 B:Nat}{W W':World}(h:OfK w cs2 v6 l o7 B W)(k:Lw o7 B W W'):OfK w cs2 v6 l o7 B W':=by
 have hl:=h.lt
 exact⟨⟨k.os.trans h.bel.os,k.tape.trans h.bel.tape,k.output.trans h.bel.output,Nat.le_trans h.bel.size k.size,fun j hj=>(k.same j (by omega) (by omega)).trans (h.bel.block j hj)⟩,h.b2.stays (k.same _ (by omega) (by omega)),h.b4.stays (k.same _ (by omega) (by omega)),
  ax.stays h.own fun g hg=>k.same g (by have:=h.v6 g hg;omega) (by have:=h.v6 g hg;omega),⟨hl.1,hl.2.1,Nat.le_trans hl.2.2 k.size⟩,h.v6⟩
theorem OfK.below{w:World}{cs2:List Value}{v6:Value}{l:List Int}{o7 B:Nat}{W W':World}(h:OfK w cs2 v6 l o7 B W)(hb:bz W W'):OfK w cs2 v6 l o7 B W':=h.step (Lw.of_below hb h.lt.2.2)
structure L9(w:World)(A:Option Addr)(l:List Cl):Prop where
 row:aU 10 Cl.cs w A l
 typ:∀a,A=some a->l≠[]->∃cs fz,w.heap[a.block]?=some (.cells cs ZX fz)
end
section
open Go.RowKit fD fO aF Go.Maps
theorem Xt:(prog.info? pJ).map (fun i=>(i.zero,i.size,i.bytes))=some (some (.agg DI.zero.cs.toArray),35,304):=by kernel_rfl
theorem L9.stays{w w':World}{A:Option Addr}{l:List Cl}(h:L9 w A l)(hb:∀a,A=some a->l≠[]->w'.heap[a.block]?=w.heap[a.block]?):L9 w' A l:=⟨h.row.RI hb,fun a ea hne=>by rw[hb a ea hne];exact h.typ a ea hne⟩
structure DQ(B:Nat)(w w':World):Prop where
 bel:Below B w w'
 same:∀(k:Nat) (cs:Array Value) (T:TypeId) (fz:Nat×Nat),w.heap[k]?=some (.cells cs T fz)->T≠pJ->w'.heap[k]?=w.heap[k]?
theorem DQ.refl(B:Nat)(w:World):DQ B w w:=⟨bR,fun _ _ _ _ _ _=>rfl⟩
theorem DQ.trans{B:Nat}{w w1 w2:World}(h:DQ B w w1)(k:DQ B w1 w2):DQ B w w2:=⟨h.bel.trans k.bel,fun j cs T fz h1 h2=>by
 have h3:=h.same j cs T fz h1 h2
 exact(k.same j cs T fz (h3.trans h1) h2).trans h3⟩
theorem DQ.below{B:Nat}{w w':World}(hb:bz w w')(hB:B<=w.heap.size):DQ B w w':=⟨hb.mono hB,fun k _ _ _ h _=>hb.block k (Array.getElem?_eq_some_iff.1 h).1⟩
theorem DQ.off{B:Nat}{w w':World}{r:Option Nat}(hb:Below B w w')(hg:∀k,k<w.heap.size->r≠some k->w'.heap[k]?=w.heap[k]?)(hr:∀k,r=some k->∃cs fz,w.heap[k]?=some (.cells cs pJ fz)):DQ B w w':=⟨hb,fun k cs T fz h hT=>hg k (Array.getElem?_eq_some_iff.1 h).1 fun e=>by
 obtain⟨cs',fz',h'⟩:=hr k e;have h1:=h.symm.trans h';simp only[Option.some.injEq,Obj.cells.injEq]at h1
 exact hT h1.2.1⟩
theorem L9.dq{B:Nat}{w w':World}{A:Option Addr}{l:List Cl}(h:L9 w A l)(hr:DQ B w w'):L9 w' A l:=h.stays fun a ea hne=>by
 obtain⟨cs,fz,h1⟩:=h.typ a ea hne;exact hr.same _ _ _ _ h1 (by decide)
theorem ny.dq{B:Nat}{w w':World}{A:Option Addr}{l:List Nat}(h:ny w A l)(hr:DQ B w w'):ny w' A l:=h.stays fun a ea hne=>by
 obtain⟨cs,fz,h1⟩:=h.typ a ea hne;exact hr.same _ _ _ _ h1 (by decide)
def QQ(w:World)(q:DI):Prop:=L9 w q.Ac q.it.c∧ny w q.A q.n.lk.l∧q.n.lk=q.it.lk
theorem QQ.dq{B:Nat}{w w':World}{q:DI}(h:QQ w q)(hr:DQ B w w'):QQ w' q:=⟨h.1.dq hr,h.2.1.dq hr,h.2.2⟩
structure DIs(w:World)(base:Nat)(v:Value)(l:List DI):Prop where
 own:ax pJ 35 DI.cs w base v l
 at_:∀q∈l,QQ w q
theorem DIs.below{w w':World}{base:Nat}{v:Value}{l:List DI}(h:DIs w base v l)(hb:bz w w'):DIs w' base v l:=⟨h.own.below hb,fun q hq=>(h.at_ q hq).dq (DQ.below hb nR)⟩
theorem DIs.app{w:World}{base:Nat}{v:Value}{l:List DI}(h:DIs w base v l)(q:DI){g c:Nat}(hx:aU 35 DI.cs w (some ⟨g,0,none⟩) [q])(hq:QQ w q)(hn:l.length<=2000)(hbase:base<=w.heap.size) :
  ∃v' w',(Builtin.append_ #[DY,DY] DY #[v,.slice (some ⟨g,0,none⟩) 1 c]).run prog w=.ok v' w'∧DIs w' base v' (l++[q])∧Below base w w':=by
 obtain⟨v',w',h1,h2,h3,-⟩:=ax.app (P:=prog) (xs:=[q]) (c:=c) (g:=g) (o:=0) underlying33 Xt rfl (by decide) (by decide) DI.bV (fun q u hu=>List.all_eq_true.1 (DI.one q) u hu) h.own (fun _=>hx) (by simp;omega) hbase;have hb:Below base w w':=bR.grown h3 hbase fun k hk=>(h.own.block hk).1
 have hr:DQ base w w':=DQ.off hb (fun k hk hn=>h3.block k hk (Ne.symm hn)) fun k hk=>by
  obtain⟨cur,h4⟩:=h.own.typed hk;exact⟨cur,_,h4⟩
 refine⟨v',w',h1,⟨h2,fun p hp=>?_⟩,hb⟩;rcases List.mem_append.1 hp with hp|hp
 ·exact(h.at_ p hp).dq hr
 ·rw[List.mem_singleton.1 hp];exact hq.dq hr
structure QJ(B:Nat)(iA iS:Bool)(vA vC:Value)(w:World):Prop where
 iF:B<=w.heap.size
 ex:iA=true->∃g cs,vA=.pointer (some ⟨g,0,none⟩)∧B<=g∧ak w g cs pJ∧cs.length=35∧(iS=true->vC=.agg cs.toArray)
section
variable {B:Nat}{iA iS:Bool}{vA vC uA uC:Value}{w w':World}
theorem QJ.slots(h:QJ B iA iS vA vC w)(e1:uA=vA)(e2:uC=vC):QJ B iA iS uA uC w:=by rw[e1,e2];exact h
theorem QJ.below(h:QJ B iA iS vA vC w)(hb:bz w w'):QJ B iA iS vA vC w':=⟨Nat.le_trans h.iF hb.size,fun e=>by
 obtain⟨g,cs,h1,h2,h3,h4⟩:=h.ex e
 exact⟨g,cs,h1,h2,h3.stays (hb.block _ h3.inside),h4⟩⟩
theorem QJ.told(h:QJ B iA iS vA vC w)(eS:iS=false)(e1:uA=vA):QJ B iA iS uA uC w:=⟨h.iF,fun e=>by
 obtain⟨g,cs,h1,h2,h3,h4,_⟩:=h.ex e
 exact⟨g,cs,e1.trans h1,h2,h3,h4,fun e=>by rw[eS]at e;cases e⟩⟩
theorem QJ.made(h:QJ B iA iS vA vC w)(eS:iS=false)(e1:uA=.pointer (some ⟨w.heap.size,0,none⟩)):QJ B true iS uA uC (w.alloc (.cells DI.zero.cs.toArray pJ)):=
 ⟨Nat.le_trans h.iF (by simp),fun _=>⟨w.heap.size,_,e1,h.iF,ak.new w DI.zero.cs pJ,rfl,fun e=>by rw[eS]at e;cases e⟩⟩
theorem QJ.put{cs':List Value}{g:Nat}{cs:List Value}(h:QJ B iA iS vA vC w)(e1:vA=.pointer (some ⟨g,0,none⟩))(hg:B<=g)(hb:ak w g cs pJ)(hW:Wrote g w w')(hB:az w' g cs')(hl:cs'.length=35)(ev:vC=.agg cs'.toArray):QJ B iA true vA vC w'∧DQ B w w':=
 ⟨⟨by rw[hW.size];exact h.iF,fun _=>⟨g,cs',e1,hg,hb.wrote hW hB,hl,fun _=>ev⟩⟩,DQ.off (r:=some g) (hW.below bR hg) (fun k _ hn=>hW.far fun e=>hn (by rw[e])) fun k hk=>by
  rw[←Option.some.inj hk]
  exact⟨_,_,hb⟩⟩
end
def V6(x:aK)(j:Int)(q:DI)(w:World):Prop:=∀d,cO x j=some d->q.it=⟨j,x.ws j,d.b,d.c.reverse,d.o,(x.nd j).lk⟩∧QQ w q
theorem V6.dq{B:Nat}{w w':World}{x:aK}{j:Int}{q:DI}(h:V6 x j q w)(hr:DQ B w w'):V6 x j q w':=fun d hd=>⟨(h d hd).1,(h d hd).2.dq hr⟩
end
section
open Go.RowKit fD fO aF Go.Maps
theorem Xi(a b u v:Int):(Bx.nrm ⟨0,0,a,b⟩).has u v=Bx.has ⟨0,0,a,b⟩ u v:=by
 unfold Bx.nrm;split
 ·rename_i h
  have h2:Bx.has ⟨0,0,a,b⟩ u v=false:=by
   unfold Bx.emp at h;unfold Bx.has;simp only[Bool.or_eq_true,decide_eq_true_eq]at h;rcases h with h|h
   ·by_cases h1:0<=u
    ·rw[show decide (u<a)=false from decide_eq_false (by omega)];simp
    ·rw[show decide (0<=u)=false from decide_eq_false h1];rfl
   ·by_cases h1:0<=v
    ·rw[show decide (v<b)=false from decide_eq_false (by omega)];simp
    ·rw[show decide (0<=v)=false from decide_eq_false h1];simp
  rw[h2];unfold Bx.has Bx.o;by_cases h1:0<=u
  ·rw[show decide (u<0)=false from decide_eq_false (by omega)];simp
  ·rw[show decide ((0:Int)<=u)=false from decide_eq_false h1];rfl
 ·rfl
end
section
open Go.RowKit aF xn Go.Shelf
attribute [local go_sem] Oper.semAt_some
theorem Jl{r:Option Nat}{P:Program}{ops:Array Oper}{rest:List Oper}{o:Oper}{a:Act}{Q:Exit->Act->World->Prop}{w:World}(hd:∀c,o.op≠.defer c)(hgd:Region.wanted o (yielded ops a.tmps)=true)
  (h:o.wp P a w (wpListIn { Fence.wide with round:=r } 0 P ops Q rest) Q):wpListIn { Fence.wide with round:=r } 0 P ops Q (o::rest) a w:=by
 unfold wpListIn;rw[if_pos hgd];refine⟨fun _ _=>trivial,?_⟩;unfold Oper.wp at h;rw[show({ Fence.wide with round:=r }:Fence).round=r from rfl,Oper.semAt_eq _ _ _ hd];generalize (execOp a.eval o).run P w=x at*;cases x with
 |ok y w'=>
  cases y<;>simp only[Oper.upon,Oper.uponIn]at h ⊢<;>first
   |exact h
   |exact⟨nofun,callsIn_wide.2 h⟩
   |exact⟨nofun,fun c cs _=>let ⟨v,w',r,s⟩:=h c cs;⟨v,w',r,stepsIn_wide.2 s⟩⟩
 |halt y w'=>cases y<;>simp only[Oper.upon,Oper.uponIn]at h ⊢<;>exact h
def OZ(l:List Int):Bool:=l.all fun n=>decide (-16384<=n)&&decide (n<=16383)
theorem Xf{l:List Int}{k:Nat}(h:k<l.length)(hb:l[k] < -16384∨16383<l[k]):OZ l=false:=by
 unfold OZ;rw[List.all_eq_false];exact⟨_,List.getElem_mem h,by rcases hb with hb|hb<;>simp<;>omega⟩
theorem SH{l:List Int}{k:Nat}(h:k<l.length)(ha:OZ (l.take k)=true)(hb:-16384<=l[k]∧l[k]<=16383):OZ (l.take (k+1))=true:=by
 unfold OZ at*;rw[List.take_succ_eq_append_getElem h,List.all_append,ha];simp[hb.1,hb.2]
theorem Xp(l:List Int)(A:Option Addr)(c:Nat)(w:World)(hr:Row eI w A l)(hl:l.length<=1000):Calls prog 62 #[.slice A l.length c] w (aY (.bool (OZ l)) w):=by
 have HR:=Hd hr;have HL:=Hd hl;clear hr hl;go_enter func62,ntmps62;go_wp2_with (fail)
 go_loopw [7] (fun i wr=>∃k:Nat,k<=l.length∧i=.int .i64 k∧Hid (OZ (l.take k)=true)∧Hid (bz w wr)) (fun i _=>l.length - (intOf i).toNat)
 case atStart=>exact⟨0,Nat.zero_le _,rfl,by show _=_;simp[OZ],bR⟩
 case round=>
  obtain⟨k,hk,rfl,HA,HB⟩:=hrel;generalize wr=wj at*;have hlb:(l.length:Int)<=1000:=by have:=HL.o;omega
  by_cases hlt:k<l.length
  ·have t1:decide (k<l.length)=true:=by simpa using hlt
   obtain⟨b,o,rA,kc⟩:=(HR.o.below HB.o).at_ hlt;have HBD:=Hd (Xf hlt);have QC:=Hd (SH hlt HA.o);have ik:=Hd hlt;unfold eI at kc;generalize l[k]=n at*;subst rA;by_cases h1:n < -16384
   ·have t2:decide (n < -16384)=true:=decide_eq_true h1;have HX:=Hd (HBD.o (.inl h1));clear h1;go_wp2_with (fail);go_ret;exact⟨by rw[HX.o];rfl,HB.o⟩
   ·have t2:decide (n < -16384)=false:=decide_eq_false h1;by_cases h2:16383<n
    ·have t3:decide (16383<n)=true:=decide_eq_true h2;have HX:=Hd (HBD.o (.inr h2));clear h1 h2;go_wp2_with (fail);go_ret;exact⟨by rw[HX.o];rfl,HB.o⟩
    ·have t3:decide (16383<n)=false:=decide_eq_false h2;have HX:=Hd (QC.o ⟨by omega,by omega⟩);clear h1 h2;go_wp2_with (fail)
     go_roundw
     case rel=>exact⟨k+1,ik.o,by go_num,HX.o,HB.o⟩
     case measure=>have:=ik.o;simp[intOf];omega
  ·obtain rfl:k=l.length:=by omega
   have t1:decide (l.length<l.length)=false:=by simp
   rw[List.take_length]at HA;clear hlt hk;go_wp2_with (fail);go_ret;exact⟨by rw[HA.o];rfl,HB.o⟩
theorem KP(A:Option Addr)(n c:Nat)(w:World):Calls prog 63 #[.slice A n c] w fun e w'=>e=.returned (.func (.func 86) #[] #[.pointer (some ⟨w.heap.size,0,none⟩)])∧w'=w.alloc (.cells #[.slice A n c] jS):=by
 go_enter func63,ntmps63;go_wp2_with (fail);go_ret;exact⟨rfl,rfl⟩
structure uP(bx:Nat)(A:Option Addr)(c:Nat)(l:List iM)(W:World):Prop where
 box:W.cell? ⟨bx,0,none⟩=some (.slice A l.length c)
 row:aU 22 iM.cs W A l
def oP(l:List iM):List (Array Value):=(List.range l.length).map fun j=>#[.int .i64 ((l.length:Int) - 1 - (j:Nat)),.agg ((l.map iM.cs).getD (l.length - 1 - j) []).toArray]
theorem jX(l:List iM):(oP l).length=l.length:=by simp[oP]
theorem Dp(l:List iM){j:Nat}(hj:j<(oP l).length):(oP l)[j]=#[.int .i64 ((l.length:Int) - 1 - (j:Nat)),.agg ((l.map iM.cs).getD (l.length - 1 - j) []).toArray]:=by simp[oP]
theorem KO{bx:Nat}{A:Option Addr}{c:Nat}{l:List iM}{W:World}(hl:l.length<=100000)(h:uP bx A c l W) :
  uK prog 86 #[.pointer (some ⟨bx,0,none⟩)] (oP l) (fun _=>Eq) (fun A' B=>uP bx A c l A'->uP bx A c l B) W:=by
 intro lp J Jx _ _ hY h0;have HY:=Hd hY;have HL:=Hd hl;have c0:=h.box;have HB:=Hd h;clear hY hl h;refine(callsIn_wide (n:=0)).1 (callsIn_of_wp func86 rfl trivial ?_ rfl);simp only[ntmps86,List.size_toArray,List.length_cons,List.length_nil,Nat.reduceAdd,Nat.reduceSub,Array.replicate_succ,Array.replicate_zero,List.push_toArray,List.append_toArray,List.nil_append,List.cons_append];have hlb:(l.length:Int)<=100000:=by have:=HL.o;omega
 gi_wp2_with (fail)
 gi_loopw [3] (fun x wr=>∃j:Nat,j<=l.length∧x=.int .i64 ((l.length:Int) - 1 - (j:Nat))∧Hid (J j wr)∧Hid (uP bx A c l wr)) (fun x _=>(intOf x+1).toNat)
 case atStart=>exact⟨0,Nat.zero_le _,by simp,h0,HB⟩
 case round=>
  obtain⟨j,hj,rfl,HJ,HK⟩:=hrel;by_cases hlt:j<l.length
  ·have hlt':j<(oP l).length:=by rw[jX];exact hlt
   obtain⟨fn,tmps,assign,body,hy,hR⟩:=HY.o j hlt' wr HJ.o;rw[Dp]at hy
   obtain⟨m,hm⟩:=aC (l.length - 1 - j)
   have e:(l.length:Int) - 1 - (j:Nat)=(m:Nat):=by omega
   have hml:m<l.length:=by omega
   have e2:((m:Nat):Int) - 1=(l.length:Int) - 1 - ((j+1:Nat):Int):=by omega
   obtain⟨g,o,rA,hc⟩:=HK.o.row (Nat.lt_of_le_of_lt (Nat.zero_le m) hml);rw[hm,List.getD_eq_getElem?_getD,List.getElem?_map,List.getElem?_eq_getElem hml,Option.map_some,Option.getD_some]at hy;have o6:Hid (wr.rangeAt g (o+m*22) (l[m].cs)):=fun i v hv=>hc m hml i v hv;have cb:=HK.o.box;subst rA;rw[e]at hy ⊢;generalize l[m]=q at*;have i2:g<wr.heap.size:=World.block_lt_of_cell? wr ⟨g,_,none⟩ (o6.o 0 (.int .i64 q.it.i) rfl);have hmb:((m:Nat):Int)<=100000:=by omega
   have HE2:=Hd e2;have HM:=Hd hm;have HR:=Hd hR;clear e e2 hm hR hc
   gi_wp2_with ((with_reducible show wpListIn _ _ _ _ _ (Oper.mk _ (Op.load 167 _) _ _ _ _::_) _ _);refine Jl (r:=none) (fun _ e=>nomatch e) rfl (wp_load_mid 167 _ rfl g (o+m*22) (by simp[go_sem]) q.cs _ o6.o underlying167 rfl ag ?_))
   refine⟨rfl,HR.o.mono ?_⟩;rintro e W3 ⟨-,(⟨rfl,hJ3,hk3⟩|⟨rfl,hJx3⟩)⟩
   ·have HB3:Hid (uP bx (some ⟨g,o,none⟩) c l W3):=hk3 HK.o;have uO:=Hd hJ3;clear hJ3 hk3 HJ HK o6
    gi_wp2_with (fail)
    go_roundw
    case rel=>exact⟨j+1,by omega,by rw[←HE2.o],uO,HB3⟩
    case measure=>simp[intOf]
   ·have uO:=Hd hJx3;clear hJx3 HJ HK o6
    gi_wp2_with (fail)
    refine bodyPost_ret (results_none rfl _ _ _) rfl ?_;exact⟨⟨_,rfl⟩,.inr ⟨j+1,by rw[jX];omega,uO.o⟩⟩
  ·have e:(l.length:Int) - 1 - (j:Nat)=-1:=by omega
   obtain rfl:j=l.length:=by omega
   have HJ2:Hid (J (oP l).length wr):=by rw[jX];exact HJ
   rw[e];clear e HJ HK
   gi_wp2_with (fail)
   go_end0
   exact⟨⟨_,rfl⟩,.inl HJ2.o⟩
end
end Go.Proofs.YthmegninhpihkaaGreat
