import Derived.Test.YtekdoeilpheklaaGreatWFlH
set_option maxHeartbeats 16000000
set_option maxRecDepth 100000
open Go.Proofs.Tryz
namespace Go.Proofs.YtekdoeilpheklaaGreat
section
open Go.RowKit fH fV aF Go.Maps
theorem Xa{P:Program}{fn:Func}{p q:Tmp}{ty:TypeId}{tmps:Array Value}{w:World}{g:Nat}{cs:List Value}{d:TypeDesc}{v:Value}{Q:Ending->World->Prop}(hfn:fn.results=#[.tmp q,.cell p ty])
  (hp:tmps.getD p undef=.pointer (some ⟨g,0,none⟩)) (hq:tmps.getD q undef=v) (hB:ax w g cs) (hu:P.underlying ty=some d) (hd:(match d with|.struct _|.array _ _=>true|_=>false)=true) (hi:(P.info? ty).map (·.size)=some cs.length)
  (h:Q (.returned (.tuple #[v,.agg cs.toArray])) w):bodyPost P fn Q Exit.ret { tmps:=tmps,defers:=[] } w:=by
 obtain⟨T,hg⟩:=hB;refine bodyPost_ret_by (v:=.tuple #[v,.agg cs.toArray]) ?_ rfl h;have hp':tmps[p]?.getD undef=.pointer (some ⟨g,0,none⟩):=by simpa using hp
 have hq':tmps[q]?.getD undef=v:=by simpa using hq
 simp[results,hfn,hp',hq',asAddr,run_loadVar_row w g T ty _ _ d hg hu hd (by simpa using hi)]
section
variable {w w':World}{g:Nat}{cs:List Value}{T:TypeId}
theorem xU.kx{v:Value}{n:Nd}(h:xU w v n)(hb:ax w g cs)(hc:kN cs)(hk:KX g w w'):xU w' v n:=by
 obtain⟨A,c,e,hr⟩:=h;refine⟨A,c,e,hr.stays fun a ea hne=>hk.same _ (Row.lt hr.row ea hne) fun e2=>?_⟩;obtain⟨b,off,e3,hcl⟩:=hr.row (List.length_pos_iff.2 hne);rw[ea]at e3;obtain rfl:=Option.some.inj e3;have h1:=hcl 0 (List.length_pos_iff.2 hne);obtain rfl:b=g:=e2;have h2:=hb.cell (off+0);rw[h1]at h2;exact hc _ (List.mem_of_getElem? h2.symm) _ rfl
theorem eP.kx{v:Value}{a b M:Int}{x:aO}(h:eP w v a b M x)(hb:ak w g cs T)(hT:T≠213)(hc:kN cs)(hk:KX g w w'):eP w' v a b M x:=by
 obtain⟨tv,m,e,h1,h2⟩:=h;refine⟨tv,m,e,h1.stays fun _ _ a _ hy ea=>hk.same _ (by obtain⟨cs,fz,h3⟩:=hy a ea;exact lt_of_block h3) (hy.dU ea hb hT),?_⟩;have hne:=h2.uK hb.blk;obtain⟨es,g1,g2,g3⟩:=h2.ex;refine⟨es,g1.stays (hk.same _ g1.inside (Ne.symm hne)),g2,fun i hi=>?_⟩;obtain⟨v,e,hv⟩:=g3 i hi;exact⟨v,e,hv.kx hb.blk hc hk⟩
end
def PX(p r:Nat):bJ:=fun k=>k=p∨k=r
abbrev z5:List Value:=Vf
structure PlD(w0:World)(p r g b m:Nat)(s:Sh)(x:aO)(w:World):Prop where
 blk:∃A c dm,ak w p (Vb 8 8 30 A x.t.length c dm) 30∧aP w (.slice A x.t.length c) x.t∧dP w dm (has x.t) x.nd
 res:ak w r z5 30
 my:Xp w0 g b m s ⟨8,⟨8,30⟩,PX p r⟩ x w
 pge:w0.heap.size<=p
 rlt:r<w0.heap.size
structure RV(r:Nat)(cs0 cs:List Value)(d:Bool)(w:World):Prop where
 no:d=false->ax w r cs0
 yes:d=true->ax w r cs
def Pv(w:World)(e:Ending)(w':World):Prop:=∃g b m s v y,e=.returned (.tuple #[.pointer (some ⟨g,0,none⟩),v])∧Xp w g b m s ⟨8,⟨8,30⟩,fun _=>False⟩ y w'∧eP w' v 8 8 30 y∧tN y∧y.t.length<=120
theorem Lh(A:Option Addr)(L:List vY)(c:Nat)(w:World)(h1:Nl w A L)(hf:fits L) :
  Calls prog 7 (Vn 8 8 A L.length c).toArray w (Pv w):=by
 have HT:=Hd h1;have HF:=Hd hf;have hlb:(L.length:Int)<=30:=by have:=hf.2.1;omega
 clear h1 hf;go_enter func7,ntmps7
 go_upto_region 1 with(fail)
 have ZP:Hid (ak (w.alloc (.cells Vf.toArray 30)) w.heap.size z5 30):=ak.new w z5 30;have HBA:Hid (Below w.heap.size w (w.alloc (.cells Vf.toArray 30))):=bR.alloc nR _;generalize (w.alloc (.cells Vf.toArray 30))=wA at*
 obtain⟨r,hr⟩:=aB w.heap.size
 rw[hr]at ZP HBA ⊢;have HRR:=Hd hr;clear hr;go_wp2_with (fail);refine(Wu 8 8 30 wA).mono ?_;rintro e wB ⟨v3,rfl,hd3,hb3⟩;obtain⟨A2,c2,m2,rfl,ht3,VP⟩:=hd3.ex;have GY:Hid (ak wB r z5 30):=ZP.o.stays (hb3.block _ ZP.o.inside);have wo:Hid (Below r w wB):=HBA.o.trans (hb3.mono (Nat.le_of_lt ZP.o.inside));have HT3:Hid (aP wB (.slice A2 aO.new.t.length c2) aO.new.t):=ht3;have uj:Hid (dP wB m2 (has aO.new.t) aO.new.nd):=VP;have HZ:Hid (ak (wB.alloc (.cells Vf.toArray 30)) wB.heap.size z5 30):=ak.new wB z5 30
 have HBZ:Hid (Below wB.heap.size wB (wB.alloc (.cells Vf.toArray 30))):=bR.alloc nR _;clear hd3 hb3 ht3 VP ZP HBA
 go_upto_region 2 with(first|(with_reducible refine gS ?_;first|(refine ay 30 _ _ rfl rfl rfl _ 0 rfl ((Vb 8 8 30 A2 aO.new.t.length c2 m2)) rfl (Vf) HZ.o.blk ((Vb 8 8 30 A2 aO.new.t.length c2 m2)) rfl (nE rfl) af rfl ?_;intro wC Yl xQ)))
 have NJ:Hid (ak wC wB.heap.size (Vb 8 8 30 A2 aO.new.t.length c2 m2) 30):=HZ.o.wrote Yl.o xQ.o;have GG:Hid (Below wB.heap.size wB wC):=Yl.o.below HBZ.o nR;have TQ:Hid (ak wC r z5 30):=GY.o.stays (GG.o.block _ GY.o.inside);have qJ:Hid (r<wB.heap.size):=GY.o.inside;have BV:Hid (aP wC (.slice A2 aO.new.t.length c2) aO.new.t):=HT3.o.below GG.o;have HMC:Hid (dP wC m2 (has aO.new.t) aO.new.nd):=uj.o.below GG.o;clear HZ HBZ Yl xQ GY HT3 uj
 obtain⟨p,hp⟩:=aB wB.heap.size
 have TR:=Hd hp;rw[hp]at NJ GG qJ ⊢;clear hp;have yO:=Hd (UO (w:=wC) ⟨8,⟨8,30⟩,PX p r⟩ (fun k hk=>hk.elim (fun e=>by rw[e];exact NJ.o.inside) fun e=>by rw[e];exact TQ.o.inside) ⟨show(1:Int)<=8 by decide,show(8:Int)<=4096 by decide⟩ ⟨show(1:Int)<=8 by decide,show(8:Int)<=4096 by decide⟩ ⟨show(1:Int)<=30 by decide,show(30:Int)<=65536 by decide⟩);go_wp2_with (fail);refine yO.o.mono ?_;unfold ZG;rintro e w2 ⟨g,b,m,s0,rfl,hs1,hb2,hf2,-⟩
 have HPL:Hid (PlD wB p r g b m s0 aO.new w2):=⟨⟨A2,c2,m2,NJ.o.stays (hb2.block _ NJ.o.inside),BV.o.below hb2,HMC.o.below hb2⟩,TQ.o.stays (hb2.block _ TQ.o.inside),⟨hs1,fun k hk=>by have h1:=hf2 k hk;have h2:=NJ.o.inside;rw[TR.o];omega,by show Below _ _ _;rw[TR.o];exact GG.o.trans (hb2.mono (Nat.le_of_lt NJ.o.inside))⟩,Nat.le_of_eq TR.o,by rw[TR.o];exact qJ.o⟩
 clear hs1 hb2 hf2 yO NJ GG TQ BV HMC
 go_upto_region 6 with(fail)
 go_loopw [36] (fun zD wr=>∃j:Nat,j<=L.length∧zD=.int .i64 j∧Hid (∃s x,PlD wB p r g b m s x wr∧tN x∧x.t.length<=total (L.take j))) (fun zD _=>L.length - (intOf zD).toNat)
 case atStart=>exact⟨0,Nat.zero_le _,rfl,s0,aO.new,HPL.o,aO.Ap,Nat.zero_le _⟩
 case round=>
  obtain⟨j,hj,rfl,HX⟩:=hrel;generalize wr=wD at*;obtain⟨s,x,hpl,hsx,hlx⟩:=HX.o;obtain⟨Ad,cd,dm,hpb,hdt,hdm⟩:=hpl.blk;have Yo:=Hd hpb;have HDT:=Hd hdt;have HDM:=Hd hdm;have SK:=Hd hpl.my;have NG:=Hd hpl.res;have HPG:Hid (wB.heap.size<=p):=hpl.pge;have HSX:=Hd hsx;have HLX:=Hd hlx;clear hpl hsx hlx HX hpb hdt hdm HPL;by_cases hlt:j<L.length
  ·have t4:decide (j<L.length)=true:=by simpa using hlt
   have fC:=Hd hlt
   have mV:Hid (Below w.heap.size w wD):=by
    rw[HRR.o];exact wo.o.trans (SK.o.bel.mono (by have:=qJ.o;have:=TR.o;omega))
   obtain⟨lb,lo,rA,hcell⟩:=(HT.o.below mV.o).row (by omega);subst rA
   obtain⟨q,hq⟩:∃q,q=L[j]'hlt:=⟨_,rfl⟩
   have hqc:wD.cell? ⟨lb,lo+j,none⟩=some (.slice q.A q.l.length q.c):=by
    have:=hcell j hlt 0 (.slice q.A q.l.length q.c) (by rw[hq];rfl)
    rwa [Nat.mul_one,Nat.add_zero]at this
   have vZ:Hid (q∈L):=by rw[hq];exact List.getElem_mem hlt
   have qI:Hid (L.take (j+1)=L.take j++[q]):=by rw[hq];exact List.take_succ_eq_append_getElem hlt
   have i0:=World.block_lt_of_cell? wD ⟨lb,_,none⟩ hqc
   have HQL:Hid (x.t.length+q.l.length<=total (L.take (j+1))∧total (L.take (j+1))<=120):=by
    refine⟨?_,Nat.le_trans (KI (j+1)) HF.o.2.2⟩;rw[qI.o,zK];have:=HLX.o;omega
   have a4e:Hid (∀o∈q.l,o.o.lk.l.length<=300):=HF.o.1 q vZ.o
   have Gu:Hid (q.l.length<=1024->Room 30 x q.l.length):=fun _=>by
    have:=HQL.o;exact⟨by omega,.inl (by omega)⟩
   have NK:Hid (BP wD q.A q.l):=(HT.o.below mV.o).ops q vZ.o;have dM:Hid (∀q'∈q.l,mD q'.o):=fun q' hq'=>(NK.o.px q' hq').2.ok (a4e.o q' hq');have HN:Hid (q.l.length<=100000):=by have:=HQL.o;show _<=_;omega
   have HA:=Hd (applied SK.o.at_ HSX.o q.l q.A q.c ((HT.o.ops q vZ.o).at_ mV.o fun k hk=>by have h1:=SK.o.ft k hk;have h2:=qJ.o;have h3:=TR.o;have h4:=HRR.o;omega) dM.o Gu.o (by have:=HN.o;omega))
   have HSN:Hid (tN (bY 30 setSt x (q.l.map (·.o))).1):=HSX.o.apply fun o ho'=>by
    obtain⟨q',h1,h2⟩:=List.mem_map.1 ho';rw[←h2];exact dM.o q' h1
   have HYL:Hid ((bY 30 setSt x (q.l.map (·.o))).1.t.length<=total (L.take (j+1))):=by
    have h1:=(Na (M:=30) (l:=q.l.map (·.o)) HSX.o.ok).1;rw[List.length_map]at h1;exact Nat.le_trans h1 HQL.o.1
   obtain⟨os,hos⟩:=aB (q.l.map (·.o))
   have HOS:=Hd hos;rw[hos]at HA HSN HYL
   obtain⟨⟨y,ri,re⟩,hR⟩:∃R,bY 30 setSt x os=R:=⟨_,rfl⟩
   have HRQ:=Hd hR;have HA2:Hid (Calls prog 18 #[.pointer (some ⟨g,0,none⟩),.slice q.A q.l.length q.c] wD (CB g b m ⟨8,⟨8,30⟩,PX p r⟩ s x (y,ri,re) wD)):=by rw[←hR];exact HA.o
   rw[hR]at HSN HYL;have HFP:Hid (¬ag b m s x.t p):=(SK.o.at_.old p (.inl rfl)).2.1;have HFR:Hid (¬ag b m s x.t r):=(SK.o.at_.old r (.inr rfl)).2.1;clear hcell hq hlt hos hR HA hj
   go_upto_region 8 with(fail)
   clear hqc i0;go_wp2_with (fail);refine HA2.o.mono ?_;unfold CB;rintro e w1 ⟨s1,rfl,hs1,ht1⟩;simp only at hs1 ht1 ⊢;have nK:=Hd hs1;have G8:Hid (Xp wB g b m s1 ⟨8,⟨8,30⟩,PX p r⟩ y w1):=SK.o.turn hs1 ht1;have ZT:Hid (ak w1 p (Vb 8 8 30 Ad x.t.length cd dm) 30):=Yo.o.stays (ht1.far p Yo.o.inside HFP.o).2;have XF:Hid (ak w1 r z5 30):=NG.o.stays (ht1.far r NG.o.inside HFR.o).2;have a4Y:Hid (aP w1 (.slice Ad x.t.length cd) x.t):=aP.turn SK.o.at_ ht1 HDT.o
   have X6:Hid (dP w1 dm (has x.t) x.nd):=dP.turn SK.o.at_ ht1 HDM.o (ai.2 (.inl rfl));have a6c:=Hd ((HT.o.ops q vZ.o));have FP:Hid (∀W,DR w1.heap.size w1 W->ax W p (Vb 8 8 30 Ad x.t.length cd dm)):=fun W hr=>ZT.o.blk.below' hr.bel
   have FR:Hid (∀W,DR w1.heap.size w1 W->Calls prog 24 #[.slice q.A q.l.length q.c] W (zu os W)):=fun W hr=>by
    have h1:=KZ q.l q.A q.c W (a6c.o.below (by
     show Below _ _ _;rw[HRR.o];have h2:r<=wB.heap.size:=by have:=qJ.o;have:=TR.o;omega
     exact wo.o.trans ((G8.o.bel.mono h2).trans (hr.bel.mono (Nat.le_trans h2 G8.o.bel.size))))) a4e.o HN.o
    rw[HOS.o]at h1;exact h1
   have FC:Hid (∀W,DR w1.heap.size w1 W->∀A8 c8 l8,yL W A8 l8->l8.map (·.o)=os->Calls prog 23 #[.agg (Vb 8 8 30 Ad x.t.length cd dm).toArray,.slice A8 (l8:List iV).length c8] W fun e w'=>∃v',e=.returned (.tuple #[v',.int .i64 ri,.int .i64 re])∧DP 8 8 30 y 0 v' w'∧bz W w'):=fun W hr A8 c8 l8 hod QT=>by
    have hlen:l8.length=q.l.length:=by
     have h1:=congrArg List.length (QT.trans HOS.o.symm)
     rwa [List.length_map,List.length_map]at h1
    have h1:=MG l8 A8 c8 8 8 30 (.agg (Vb 8 8 30 Ad x.t.length cd dm).toArray) x HSX.o W (GK.doc (a4Y.o.below hr.bel) (X6.o.below hr.bel)) hod (fun q' hq'=>by
     have h2:q'.o∈q.l.map (·.o):=by rw[HOS.o,←QT];exact List.mem_map_of_mem hq'
     obtain⟨q2,h3,h4⟩:=List.mem_map.1 h2;rw[←h4]
     exact dM.o q2 h3) (by (try show Below _ _ _);rw[hlen];exact Gu.o) (by rw[hlen];have:=HN.o;omega)
    rw[QT,HRQ.o]at h1;refine h1.mono ?_;unfold a2O;rintro e w' ⟨v',h2,h3,h4⟩;refine⟨v',h2,⟨?_,fun _=>h3⟩,h4⟩;obtain⟨A7,c7,m7,h5,-,-⟩:=h3.ex;rw[h5];exact TF _ _ _ _ _ _ _
   clear hs1 ht1 SK Yo NG HDT HDM HA2 HFP HFR
   go_upto_region 9 with(fail)
   generalize w1=wS at*
   refine Kr (DR wS.heap.size) (fun L V wx=>VJ wS.heap.size (L 8) (L 9) (V 15) (V 51) wx∧(L 9=true->L 5=true)∧(L 9=true->L 8=true)) [47,48,49,50,46,51,52,53,15,16,17] (fun _=>DR.refl _ _) (fun _ _ _ h k=>h.trans k) (fun i=>match i with
    |0=>rV (.agg ((Vb 8 8 30 Ad x.t.length cd dm)).toArray)
    |1=>rV (.slice q.A q.l.length q.c)
    |2=>a04 wS.heap.size os
    |3=>(⟨fun v wv=>∃v',v=.tuple #[v',.int .i64 ri,.int .i64 re]∧DP 8 8 30 y 0 v' wv,fun v q1 q2 h hb=>h.elim fun v' h=>⟨v',h.1,h.2.dr hb⟩⟩:regs.kD (DR wS.heap.size))
    |4=>(⟨fun v wv=>∃v',v=.tuple #[v',.int .i64 ri,.int .i64 re]∧DP 8 8 30 y 0 v' wv,fun v q1 q2 h hb=>h.elim fun v' h=>⟨v',h.1,h.2.dr hb⟩⟩:regs.kD (DR wS.heap.size))
    |5=>(⟨fun v wv=>DP 8 8 30 y 0 v wv,fun v q1 q2 h hb=>h.dr hb⟩:regs.kD (DR wS.heap.size))
    |6|10=>rV (.int .i64 ri)
    |7|11=>rV (.int .i64 re)
    |_=>ra) (DR.below bR.drew nR) (⟨VJ.start (Below.refl 0 _).drew.size,nofun,nofun⟩) ⟨?_,?_,?_,?_,?_,?_,?_,?_,?_,?_,?_,?_,trivial⟩ ?_
   ·refine fE fun L a CE hh=>?_;have h8:=hh.p 8 p 0;have hB:=Hd (FP.o _ hh.rel);have hJ:=Hd hh.st;exact aK 30 _ rfl p 0 (by simpa[go_sem]using h8) _ hB.o ((Vb 8 8 30 Ad x.t.length cd dm)) rfl _ underlying30 rfl af ⟨_,rfl,DR.refl _ _,rfl,⟨VJ.slots hJ.o.1 sn sn,hJ.o.2⟩⟩
   ·refine fE fun L a CE hh=>?_;have h12:=hh.o 12 (v:=.slice q.A q.l.length q.c) rfl;have hJ:=hh.j;clear hh;go_simp;exact⟨_,rfl,DR.refl _ _,rfl,⟨VJ.slots hJ.o.1 sn sn,hJ.o.2⟩⟩
   ·refine fE fun L a CE hh=>?_;have h48:=rq (hh.d 1 48);have hC:=Hd (FR.o CE hh.rel);have hbz:=Hd (show wS.heap.size<=CE.heap.size from hh.rel.bel.size);have hJ:=Hd hh.st;have hsz:=Hd hh.size;have hun:=Hd hh.un;clear hh;go_simp;refine hC.o.mono ?_;unfold zu;rintro e w9 ⟨A9,c9,l9,rfl,a5y,a5x,aS⟩;exact⟨_,rfl,DR.below aS hbz.o,⟨A9,c9,l9,rfl,a5y,a5x⟩,⟨VJ.slots (VJ.below hJ.o.1 aS) sn sn,hJ.o.2⟩⟩
   ·refine fE fun L a CE hh=>?_;have h47:=rq (hh.d 0 47)
    obtain⟨A8,c8,l8,e8,a3w,QT⟩:=(show ∃A c l9,(a.tmps.getD 49 undef)=.slice A (l9:List iV).length c∧yL CE A l9∧l9.map (·.o)=os from hh.d 2 49)
    have h49:a.tmps[49]?.getD undef=.slice A8 l8.length c8:=rq (e8);have hC:=Hd (FC.o CE hh.rel A8 c8 l8 a3w QT);have hbz:=Hd (show wS.heap.size<=CE.heap.size from hh.rel.bel.size);have hJ:=Hd hh.st;have hsz:=Hd hh.size;have hun:=Hd hh.un;clear hh e8 a3w QT;go_simp;refine hC.o.mono ?_;rintro e w9 ⟨v9,rfl,Tj,aS⟩;exact⟨_,rfl,DR.below aS hbz.o,⟨v9,rfl,Tj⟩,⟨VJ.slots (VJ.below hJ.o.1 aS) sn sn,hJ.o.2⟩⟩
   ·refine fE fun L a CE hh=>?_
    obtain⟨v8,e8,sV⟩:=(show ∃v',(a.tmps.getD 50 undef)=.tuple #[v',.int .i64 ri,.int .i64 re]∧DP 8 8 30 y 0 v' CE from hh.d 3 50)
    have h50:a.tmps[50]?.getD undef=.tuple #[v8,.int .i64 ri,.int .i64 re]:=rq (e8);have Kz:=Hd sV;have hJ:=Hd hh.st;have hsz:=Hd hh.size;have hun:=Hd hh.un;clear hh e8 sV;go_simp;exact⟨_,rfl,DR.refl _ _,⟨v8,rfl,Kz.o⟩,⟨VJ.slots hJ.o.1 sn sn,hJ.o.2⟩⟩
   ·refine fE fun L a CE hh=>?_
    obtain⟨v8,e8,sV⟩:=(show ∃v',(a.tmps.getD 46 undef)=.tuple #[v',.int .i64 ri,.int .i64 re]∧DP 8 8 30 y 0 v' CE from hh.d 4 46)
    have h46:a.tmps[46]?.getD undef=.tuple #[v8,.int .i64 ri,.int .i64 re]:=rq (e8);have Kz:=Hd sV;have Cc:=Hd (bI hh.st.2.1 hh.un);have hJ:=Hd hh.st;have hsz:=Hd hh.size;have hun:=Hd hh.un;clear hh e8 sV;go_simp;exact⟨_,rfl,DR.refl _ _,Kz.o,⟨VJ.told hJ.o.1 Cc.o sn,fun _=>rfl,hJ.o.2.2⟩⟩
   ·refine fE fun L a CE hh=>?_
    obtain⟨v8,e8,sV⟩:=(show ∃v',(a.tmps.getD 46 undef)=.tuple #[v',.int .i64 ri,.int .i64 re]∧DP 8 8 30 y 0 v' CE from hh.d 4 46)
    have h46:a.tmps[46]?.getD undef=.tuple #[v8,.int .i64 ri,.int .i64 re]:=rq (e8);have Kz:=Hd sV;have hJ:=Hd hh.st;have hsz:=Hd hh.size;have hun:=Hd hh.un;clear hh e8 sV;go_simp;exact⟨_,rfl,DR.refl _ _,rfl,⟨VJ.slots hJ.o.1 sn sn,hJ.o.2⟩⟩
   ·refine fE fun L a CE hh=>?_
    obtain⟨v8,e8,sV⟩:=(show ∃v',(a.tmps.getD 46 undef)=.tuple #[v',.int .i64 ri,.int .i64 re]∧DP 8 8 30 y 0 v' CE from hh.d 4 46)
    have h46:a.tmps[46]?.getD undef=.tuple #[v8,.int .i64 ri,.int .i64 re]:=rq (e8);have Kz:=Hd sV;have hJ:=Hd hh.st;have hsz:=Hd hh.size;have hun:=Hd hh.un;clear hh e8 sV;go_simp;exact⟨_,rfl,DR.refl _ _,rfl,⟨VJ.slots hJ.o.1 sn sn,hJ.o.2⟩⟩
   ·refine fE fun L a CE hh=>?_;have Cc:=Hd (bI hh.st.2.2 hh.un);have hbz:=Hd (show wS.heap.size<=CE.heap.size from hh.rel.bel.size);have hJ:=Hd hh.st;have hsz:=Hd hh.size;have hun:=Hd hh.un;clear hh;go_simp;exact⟨_,rfl,DR.below (bR.alloc nR _) hbz.o,trivial,⟨VJ.made hJ.o.1 Cc.o (bM.aY (by rw[hsz.o];simp)),hJ.o.2.1,fun _=>rfl⟩⟩
   ·refine fE fun L a CE hh=>?_;have hup:=hh.up 8 af;obtain⟨g9,c9,h9,jk,fA,Yh,Tq,-⟩:=hh.st.1.ex hup
    obtain⟨⟨WM,e8,Tt,QU,ho8⟩,hd8⟩:=(show DP 8 8 30 y 0 (a.tmps.getD 51 undef) CE from hh.d 5 51)
    have hJ:=Hd hh.st;have VN:=Hd (hh.up 5 af);refine dB 30 _ _ rfl g9 0 (by have h:=h9;unfold bM.sl at h;simpa[go_sem]using h) WM (by simpa[go_sem]using e8) _ fA.blk (by rw[Tt,Tq];decide) (by rw[Tt];kernel_rfl) ho8 ?_;intro w9 nD Di
    have VT:ax w9 g9 WM:=by
     have e:c9.take 0++WM++c9.drop (0+WM.length)=WM:=by rw[Tt,List.drop_of_length_le (by rw[Tq];decide)];simp
     rw[←e];exact Di
    have hP:=hJ.o.1.put h9 jk fA Yh nD VT QU Tt e8;exact⟨undef,rfl,hP.2,trivial,⟨hP.1,fun _=>VN.o,fun _=>hup⟩⟩
   ·refine fE fun L a CE hh=>?_;have h52:=rq (hh.d 6 52);have hJ:=hh.j;clear hh;go_simp;exact⟨_,rfl,DR.refl _ _,rfl,⟨VJ.slots hJ.o.1 sn sn,hJ.o.2⟩⟩
   ·refine fE fun L a CE hh=>?_;have h53:=rq (hh.d 7 53);have hJ:=hh.j;clear hh;go_simp;exact⟨_,rfl,DR.refl _ _,rfl,⟨VJ.slots hJ.o.1 sn sn,hJ.o.2⟩⟩
   intro L w4 val hL hJ hR hv;have h16:val 16=.int .i64 ri:=hv 10 16 af;have h17:val 17=.int .i64 re:=hv 11 17 af;have HR4:=Hd hR;obtain⟨g9,c9,e9,jk,aS,Yh,Tq,hv9⟩:=hJ.1.ex (hL 8 (by decide));have hv34:=hv9 (hL 9 (by decide));have hd34:DP 8 8 30 y 0 (val 51) w4:=hv 5 51 af;have X7:=Hd hd34;have Xv:=Hd hv34;have tX:=Hd (And.intro jk aS);clear hv hL hJ hR hd34 hv34 jk aS Yh Tq hv9;simp only[regs.aC,List.map_cons,List.map_nil,h16,h17];simp only[Act.put,List.setIfInBounds_toArray,List.set_cons_zero,List.set_cons_succ];clear h16 h17
   skip
   rw[e9];clear e9;have ZQ:Hid (ak w4 p (Vb 8 8 30 Ad x.t.length cd dm) 30):=ZT.o.stays (HR4.o.bel.block _ ZT.o.inside);have a5Y:Hid (ak w4 r z5 30):=XF.o.stays (HR4.o.bel.block _ XF.o.inside);have gZ:Hid (Xp wB g b m s1 ⟨8,⟨8,30⟩,PX p r⟩ y w4):=G8.o.below HR4.o.bel;obtain⟨An,cn,mn,hvn,htn,hmn⟩:=(X7.o.2 rfl).ex
   have hcn:c9=(Vb 8 8 30 An y.t.length cn mn):=by
    have h1:=Xv.o.symm.trans hvn
    injection h1 with h1
    have h2:=congrArg Array.toList h1
    simpa using h2
   subst hcn;have HTN:=Hd htn;have HMN:=Hd hmn;clear hvn htn hmn X7 Xv FP FR FC ZT XF G8 a4Y X6 nK;have q2:(re != re)=false:=by simp
   have q3:decide (re=re)=true:=by simp
   go_upto_region 13 with(first|(with_reducible refine gL ?_;first|(refine kH 30 _ rfl rfl _ 0 rfl ((Vb 8 8 30 An y.t.length cn mn)) tX.o.2.blk ((Vb 8 8 30 An y.t.length cn mn)) rfl _ underlying30 rfl af ?_))|(with_reducible refine gS ?_;first|(refine ay 30 _ _ rfl rfl rfl _ 0 rfl ((Vb 8 8 30 An y.t.length cn mn)) rfl ((Vb 8 8 30 Ad x.t.length cd dm)) ZQ.o.blk ((Vb 8 8 30 An y.t.length cn mn)) rfl (nE rfl) af rfl ?_;intro w5 zA uk)))
   go_wp2_with (fail)
   go_roundw
   case rel=>
    refine⟨j+1,fC.o,by go_num,s1,y,⟨⟨An,cn,mn,ZQ.o.wrote zA.o uk.o,HTN.o.wrote ZQ.o (by decide) zA.o,HMN.o.wrote ZQ.o.blk (by unfold kN;simp) zA.o⟩,a5Y.o.stays (zA.o.far (by have:=qJ.o;omega)),⟨gZ.o.at_.part (E':=PX p r) (fun k _ hk=>zA.o.far fun e=>hk (.inl e)) (fun k hk=>?_),gZ.o.ft,zA.o.below gZ.o.bel HPG.o⟩,HPG.o,by rw[TR.o];exact qJ.o⟩,HSN.o,HYL.o⟩;have hk':=gZ.o.at_.old k hk;exact⟨by rw[zA.o.size];exact hk'.1,.inl hk⟩
   case measure=>have:=fC.o;simp[intOf];omega
  ·obtain rfl:j=L.length:=by omega
   have t4:decide (L.length<L.length)=false:=by simp
   clear hlt
   go_upto_region 14 with(fail)
   have FP:Hid (∀W,KX r wD W->ax W p (Vb 8 8 30 Ad x.t.length cd dm)):=fun W hr=>by
    exact(Yo.o.stays (hr.same p Yo.o.inside (by have:=qJ.o;omega))).blk
   refine wR (KX r) (fun L wx=>RV r z5 (Vb 8 8 30 Ad x.t.length cd dm) (L 3) wx) [60,61,6] (fun _=>KX.refl _ _) (fun _ _ _ h k=>h.trans k) (fun i=>match i with
    |0|2=>rp g 0
    |1=>rV (.agg ((Vb 8 8 30 Ad x.t.length cd dm)).toArray)
    |_=>ra) (KX.of_below bR.drew) (⟨fun _=>NG.o.blk.below' bR.drew,nofun⟩) ⟨?_,?_,?_,?_,trivial⟩ ?_
   any_goals (first|refine zp fun L a w1 hh=>?_|fail)
   have h9:=hh.p 9 g 0;rotate_left
   ·have h8:=hh.p 8 p 0;have hB:=Hd (FP.o _ hh.rel);have hJ:=Hd hh.st;exact aK 30 _ rfl p 0 (by simpa[go_sem]using h8) _ hB.o ((Vb 8 8 30 Ad x.t.length cd dm)) rfl _ underlying30 rfl af ⟨_,rfl,KX.refl _ _,rfl,hJ.o⟩
   have h60:=rq (hh.d 0 60);rotate_left
   ·have h7:=hh.p 7 r 0;have h61:=rq (hh.d 1 61);have qV:=hh.st.no hh.un;refine dB 30 _ _ rfl r 0 (by simpa[go_sem]using h7) (Vb 8 8 30 Ad x.t.length cd dm) (by simpa[go_sem]using h61) _ qV (nE rfl) af (by rfl) ?_;intro w9 nD fA;exact⟨undef,rfl,KX.wrote nD,trivial,⟨nofun,fun _=>fA⟩⟩
   any_goals (have hJ:=hh.j;clear hh;go_simp;exact⟨_,rfl,KX.refl _ _,rfl,hJ.o⟩)
   intro L w4 val hL hJ hR hv;have h60:val 60=.pointer (some ⟨g,0,none⟩):=hv 0 60 af;have h6:val 6=.pointer (some ⟨g,0,none⟩):=hv 2 6 af;have HR4:=Hd hR;have HV4:=Hd (hJ.yes (hL 3 (by decide)));clear hv hL hJ hR;simp only[regs.aC,List.map_cons,List.map_nil,h60,h6];simp only[Act.put,List.setIfInBounds_toArray,List.set_cons_zero,List.set_cons_succ];clear h60 h6
   skip
   go_wp2_with (fail);refine Xa rfl rfl rfl HV4.o underlying30 rfl af ?_;refine⟨g,b,m,s,.agg (Vb 8 8 30 Ad x.t.length cd dm).toArray,x,rfl,⟨SK.o.at_.part (E':=fun _=>False) (fun k hk hn=>HR4.o.same k hk fun e=>hn (.inr e)) (fun k hk=>hk.elim),fun k hk=>?_,?_⟩,?_,HSX.o,?_⟩
   ·have h1:=SK.o.ft k hk;have h2:=qJ.o;have h3:=TR.o;have h4:=HRR.o;omega
   ·show Below _ _ _;rw[HRR.o];have h2:r<=wB.heap.size:=by have:=qJ.o;have:=TR.o;omega
    exact wo.o.trans ((SK.o.bel.mono h2).trans (HR4.o.aV nR (Nat.le_trans h2 SK.o.bel.size)))
   ·exact(GK.doc HDT.o HDM.o).kx NG.o (by decide) (by unfold kN;simp) HR4.o
   ·have:=HLX.o;rw[List.take_length]at this;exact Nat.le_trans this HF.o.2.2
end
section
open Go.RowKit fH fV aF Go.Maps
def fZ(t:T)(i:Int):List Int:=0::(line t i).reverse
theorem Ue(t:T):fZ t 0=[0]:=by unfold fZ;rw[lX];rfl
theorem zH{t:T}(ok:Ok t){i:Int}(hi:i∈ids t):fZ t i=fZ t (par t i)++[i]:=by
 unfold fZ;rw[dW ok hi,List.reverse_cons,List.cons_append]
def pK(n:Nd)(w:Mp)(d:Dn):Option Dn:=if n.hi=true∨¬w.back.2=0 then none else some (d.to n w)
def Dj(x:aO):List Int->Dn->Option Dn
 |[],d=>some d
 |j::l,d=>(pK (x.nd j) (x.ws j) d).bind (Dj x l)
theorem zn(x:aO):∀(l m:List Int) (d:Dn),Dj x (l++m) d=(Dj x l d).bind (Dj x m)
 |[],_,_=>rfl
 |j::l,m,d=>by
  rw[List.cons_append,Dj,Dj];cases pK (x.nd j) (x.ws j) d with
  |none=>rfl
  |some d=>rw[Option.bind_some,Option.bind_some,zn]
theorem by_zero(q:Nat):jv 0 q=0:=by
 unfold jv;simp
theorem step_seen(n:Nd)(w:Mp)(z:Option Dn):Dn.step n w (z.filter fun d=>decide (¬d.o=0))=(z.bind (pK n w)).filter fun d=>decide (¬d.o=0):=by
 cases z with
 |none=>rfl
 |some d=>
  rw[Option.bind_some];by_cases h0:d.o=0
  ·rw[Option.filter_some,if_neg (by simp[h0])];unfold pK;split
   ·rfl
   ·rw[Option.filter_some,if_neg]
    ·rfl
    ·unfold Dn.to;simp[h0,by_zero]
  ·rw[Option.filter_some,if_pos (by simp[h0])];unfold Dn.step pK;rw[Option.bind_some];unfold Dn.ok;by_cases h1:n.hi=true∨¬w.back.2=0
   ·rw[if_pos h1,if_neg]
    ·rfl
    ·rcases h1 with h1|h1<;>simp[h1]
   ·rw[if_neg h1,Option.filter_some]
    have h2:n.hi=false:=by
     cases h:n.hi with
     |false=>rfl
     |true=>exact absurd (.inl h) h1
    have h3:w.back.2=0:=Decidable.not_not.1 fun h=>h1 (.inr h);by_cases h4:jv d.o n.op.toNat=0
    ·rw[if_neg (by simp[h4]),if_neg (by unfold Dn.to;simp[h4])]
    ·rw[if_pos (by simp[h2,h3,h4]),if_pos (by unfold Dn.to;simp[h4])]
theorem Wl{x:aO}(ok:Ok x.t){i:Int}(hi:i=0∨i∈ids x.t):bU x i=(Dj x (fZ x.t i) Dn.top).filter fun d=>decide (¬d.o=0):=by
 refine ok.qA (P:=fun i=>bU x i=(Dj x (fZ x.t i) Dn.top).filter fun d=>decide (¬d.o=0)) ?_ (fun i hi ih=>?_) hi
 ·rw[vz,Ue];have h:=step_seen (x.nd 0) (x.ws 0) (some Dn.top);rw[Option.filter_some,if_pos (by decide),Option.bind_some]at h;rw[h,Dj];cases pK (x.nd 0) (x.ws 0) Dn.top with
  |none=>rfl
  |some d=>rfl
 ·rw[nG ok hi,ih,zH ok hi,zn,step_seen]
  congr 1
  cases Dj x (fZ x.t (par x.t i)) Dn.top with
  |none=>rfl
  |some d=>
   rw[Option.bind_some,Option.bind_some,Dj];cases pK (x.nd i) (x.ws i) d with
   |none=>rfl
   |some d=>rfl
end
section
open Go.RowKit fH fV aF Go.Maps
theorem a0L(i:Int)(w:World):(Instr.buildSlice bV 1 #[(0,.int .i64 i)]).run prog w=.ok (.slice (some ⟨w.heap.size,0,none⟩) 1 1) (w.alloc (.cells #[.int .i64 i] jC)):=by kernel_rfl
theorem N8{t:T}(ok:Ok t){i:Int}(hi:i=0∨i∈ids t):(fZ t i).length<=t.length+1:=by
 unfold fZ;rw[List.length_cons,List.length_reverse];have:=lY ok hi;unfold depth at this;omega
structure WJ(B:Nat)(pl:List Int)(i:Int)(lA lB lC lD:Bool)(vA vB vC vD:Value)(w:World):Prop where
 sz:B<=w.heap.size
 a:lA=true->lC=false->aU w B vA pl
 b:lB=true->lC=false->∃g,vB=.slice (some ⟨g,0,none⟩) 1 1∧ax w g [.int .i64 i]
 c:lC=true->aU w B vC (pl++[i])
 d:lD=true->lC=true∧vD=vC
section
variable {B:Nat}{pl:List Int}{i:Int}{lA lB lC lD:Bool}{vA vB vC vD uA uB uC uD v9:Value}{w w':World}
theorem WJ.below(h:WJ B pl i lA lB lC lD vA vB vC vD w)(hb:bz w w'):WJ B pl i lA lB lC lD vA vB vC vD w':=⟨Nat.le_trans h.sz hb.size,fun e f=>aj.below (h.a e f) hb,fun e f=>by
 obtain⟨g,e1,e2⟩:=h.b e f
 exact⟨g,e1,e2.below' hb⟩,fun e=>aj.below (h.c e) hb,h.d⟩
theorem WJ.slots(h:WJ B pl i lA lB lC lD vA vB vC vD w)(e1:uA=vA)(e2:uB=vB)(e3:uC=vC)(e4:uD=vD):WJ B pl i lA lB lC lD uA uB uC uD w:=by rw[e1,e2,e3,e4];exact h
theorem WJ.a5G(h:WJ B pl i lA lB lC lD vA vB vC vD w)(ho:aU w' w.heap.size v9 pl)(hb:bz w w')(e1:uA=v9)(e2:uB=vB)(e3:uC=vC)(e4:uD=vD):WJ B pl i true lB lC lD uA uB uC uD w':=by
 rw[e1,e2,e3,e4];have h':=h.below hb;exact⟨h'.sz,fun _ _=>aj.weaken ho h.sz,h'.b,h'.c,h'.d⟩
theorem WJ.a5F(h:WJ B pl i lA lB lC lD vA vB vC vD w)(e1:uA=vA)(e2:uB=.slice (some ⟨w.heap.size,0,none⟩) 1 1)(e3:uC=vC)(e4:uD=vD):WJ B pl i lA true lC lD uA uB uC uD (w.alloc (.cells #[.int .i64 i] jC)):=by
 rw[e1,e2,e3,e4];have h':=h.below (bR.alloc nR (.cells #[.int .i64 i] jC));exact⟨h'.sz,h'.a,fun _ _=>⟨_,rfl,az w [.int .i64 i] _⟩,h'.c,h'.d⟩
theorem WJ.run(h:WJ B pl i lA lB lC lD vA vB vC vD w)(hA:lA=true)(hB:lB=true)(hC:lC=false)(hn:pl.length<=100000):∃g v9 w9,vB=.slice (some ⟨g,0,none⟩) 1 1∧(Builtin.append_ #[bV,bV] bV #[vA,.slice (some ⟨g,0,none⟩) 1 1]).run prog w=.ok v9 w9∧aU w9 B v9 (pl++[i])∧Below B w w9:=by
 obtain⟨g,e,hb⟩:=h.b hB hC;obtain⟨v9,w9,h1,h2,h3,-⟩:=aj.app (P:=prog) (xs:=[i]) (c:=1) (g:=g) (o:=0) (ts:=bV) underlying116 kQ rfl (by decide) (by decide) iE uX (h.a hA hC) (fun _=>qg iE (by simpa[ic]using hb)) (by simp;omega) h.sz;exact⟨g,v9,w9,e,h1,h2,bR.grown h3 h.sz fun k hk=>((h.a hA hC).block hk).1⟩
theorem WJ.a5E(h:WJ B pl i lA lB lC lD vA vB vC vD w)(hD:lD=false)(ho:aU w' B v9 (pl++[i]))(hb:w.heap.size<=w'.heap.size)(e3:uC=v9):WJ B pl i lA lB true lD uA uB uC uD w':=by
 rw[e3,hD];exact⟨Nat.le_trans h.sz hb,(fun _ e=>nomatch e),(fun _ e=>nomatch e),fun _=>ho,fun e=>nomatch e⟩
theorem WJ.a5D(h:WJ B pl i lA lB lC lD vA vB vC vD w)(hC:lC=true)(e1:uA=vA)(e2:uB=vB)(e3:uC=vC)(e4:uD=vC):WJ B pl i lA lB lC true uA uB uC uD w:=by
 rw[e1,e2,e3,e4];exact⟨h.sz,h.a,h.b,h.c,fun _=>⟨hC,rfl⟩⟩
end
theorem Wi(wi aH M:Int)(tv:Value)(t:T)(m:Nat)(w:World)(ht:aP w tv t) :
  Calls prog 67 #[.agg #[.int .i64 wi,.int .i64 aH,.int .i64 M,tv,.map (some m)],.int .i64 0] w fun e w'=>∃v,e=.returned v∧aU w' w.heap.size v (fZ t 0)∧bz w w':=by
 rw[Ue];obtain⟨At,ct,rfl,hr,hy⟩:=ht;have HR:=Hd hr;have HY:=Hd hy;clear hr hy;have HB1:Hid (bz w (w.alloc (.cells (Vb wi aH M At t.length ct m).toArray 30))):=bR.alloc nR _;have jR:Hid (ax (w.alloc (.cells (Vb wi aH M At t.length ct m).toArray 30)) w.heap.size (Vb wi aH M At t.length ct m)):=az w (Vb wi aH M At t.length ct m) _;go_enter func67,ntmps67
 go_upto_region 1 with(fail)
 generalize (w.alloc (.cells (Vb wi aH M At t.length ct m).toArray 30))=w0 at*;have hbs:=a0L 0 w0;have HO:Hid (aU (w0.alloc (.cells #[.int .i64 0] jC)) w.heap.size (.slice (some ⟨w0.heap.size,0,none⟩) 1 1) [0]):=aj.lit iE w0 [0] HB1.o.size (by decide);have HB2:Hid (bz w (w0.alloc (.cells #[.int .i64 0] jC))):=HB1.o.alloc HB1.o.size _;go_wp2_with (fail);go_ret;exact⟨_,rfl,HO.o,HB2.o⟩
theorem a1D(wi aH M:Int)(tv:Value)(t:T)(m:Nat)(ok:Ok t)(hn:t.length<=1000)(nC:Int)(w:World)(ht:aP w tv t)(hi:nC∈ids t)
  (ih:∀W,aP W tv t->Calls prog 67 #[.agg #[.int .i64 wi,.int .i64 aH,.int .i64 M,tv,.map (some m)],.int .i64 (par t nC)] W fun e w'=>∃v,e=.returned v∧aU w' W.heap.size v (fZ t (par t nC))∧bz W w') :
  Calls prog 67 #[.agg #[.int .i64 wi,.int .i64 aH,.int .i64 M,tv,.map (some m)],.int .i64 nC] w fun e w'=>∃v,e=.returned v∧aU w' w.heap.size v (fZ t nC)∧bz w w':=by
 have hne:=ok.xe hi;have q:(nC==0)=false:=by simpa using hne
 have HP:=Hd (fun A c W hr=>a1E A t c nC W hr (by omega));have HIH:=Hd ih
 have HPN:Hid ((fZ t (par t nC)).length<=100000):=by
  have:=N8 ok (ok.fB hi);show _<=_;omega
 rw[zH ok hi];generalize fZ t (par t nC)=PL at*;generalize par t nC=pp at*;clear ih ok hi hne hn;obtain⟨At,ct,rfl,hr,hy⟩:=ht;have HR:=Hd hr;have HY:=Hd hy;clear hr hy;have HB1:Hid (bz w (w.alloc (.cells (Vb wi aH M At t.length ct m).toArray 30))):=bR.alloc nR _;have jR:Hid (ax (w.alloc (.cells (Vb wi aH M At t.length ct m).toArray 30)) w.heap.size (Vb wi aH M At t.length ct m)):=az w (Vb wi aH M At t.length ct m) _;go_enter func67,ntmps67
 go_upto_region 1 with(fail)
 generalize (w.alloc (.cells (Vb wi aH M At t.length ct m).toArray 30))=w0 at*;have FS:Hid (∀W,bz w0 W->ax W w.heap.size (Vb wi aH M At t.length ct m)):=fun W hb=>jR.o.below' hb;have FP:Hid (∀W,bz w0 W->Calls prog 93 #[.slice At t.length ct,.int .i64 nC] W (aJ (.int .i64 pp) W)):=fun W hb=>HP.o At ct W (aT.below HR.o (HB1.o.trans (hb.mono HB1.o.size)))
 have FW:Hid (∀W,bz w0 W->Calls prog 67 #[.agg (Vb wi aH M At t.length ct m).toArray,.int .i64 pp] W fun e w'=>∃v,e=.returned v∧aU w' W.heap.size v PL∧bz W w'):=fun W hb=>HIH.o W (aP.below ⟨At,ct,rfl,HR.o,HY.o⟩ (HB1.o.trans (hb.mono HB1.o.size)))
 go_upto_region 3 with(fail)
 refine Kr (Below w0.heap.size) (fun L V wx=>WJ w0.heap.size PL nC (L 5) (L 7) (L 8) (L 9) (V 13) (V 15) (V 16) (V 4) wx) [8,9,10,11,12,13,14,15,16,4] (fun _=>bR) (fun _ _ _ h k=>h.trans k) (fun i=>match i with
  |0=>rV (.agg ((Vb wi aH M At t.length ct m)).toArray)
  |1=>rp w.heap.size 3
  |2=>rV (.slice At t.length ct)
  |3|6=>rV (.int .i64 nC)
  |4=>rV (.int .i64 pp)
  |_=>ra) (bR.drew) (⟨nR,nofun,nofun,nofun,fun e=>nomatch e⟩) ⟨?_,?_,?_,?_,?_,?_,?_,?_,?_,?_,trivial⟩ ?_
 any_goals (first|refine fE fun L a w1 hh=>?_|fail)
 ·have h2:=hh.p 2 w.heap.size 0;have hB:=Hd (FS.o _ hh.rel);have hJ:=Hd hh.st;exact aK 30 _ rfl w.heap.size 0 (by simpa[go_sem]using h2) _ hB.o ((Vb wi aH M At t.length ct m)) rfl _ underlying30 rfl af ⟨_,rfl,bR,rfl,WJ.slots hJ.o sn sn sn sn⟩
 have h2:=hh.p 2 w.heap.size 0;have i0:=(FS.o _ hh.rel).inside;rotate_left;have h9:=rq (hh.d 1 9);have ⟨c0,i0⟩:=(FS.o _ hh.rel).ci 3 rfl;rotate_left;have h1:=hh.o 1 (v:=.int .i64 nC) rfl;rotate_left
 ·have h10:=rq (hh.d 2 10);have h11:=rq (hh.d 3 11);have hC:=Hd (FP.o _ hh.rel);have hJ:=Hd hh.st;have hsz:=Hd hh.size;clear hh;go_simp;refine hC.o.mono ?_;rintro e w9 ⟨rfl,aS⟩;exact⟨_,rfl,aS.mono hJ.o.sz,rfl,WJ.slots (hJ.o.below aS) sn sn sn sn⟩
 ·have h8:=rq (hh.d 0 8);have h12:=rq (hh.d 4 12);have hC:=Hd (FW.o w1 hh.rel);have hJ:=Hd hh.st;have hsz:=Hd hh.size;clear hh;go_simp;refine hC.o.mono ?_;rintro e w9 ⟨v9,rfl,LW,aS⟩;exact⟨_,rfl,aS.mono hJ.o.sz,trivial,WJ.a5G hJ.o LW aS (bM.aY (by rw[hsz.o];simp)) sn sn sn⟩
 have h1:=hh.o 1 (v:=.int .i64 nC) rfl;rotate_left
 ·have yx:=rq (hh.d 6 14);have hJ:=Hd hh.st;have hsz:=Hd hh.size;exact zF _ _ _ rfl (by simp[go_sem,yx]) (a0L nC w1) ⟨_,rfl,bR.alloc hJ.o.sz _,trivial,WJ.a5F hJ.o sn (bM.aY (by rw[hsz.o];simp)) sn sn⟩
 ·have hsz:=Hd hh.size;obtain⟨g9,v9,w9,e15,hrn,LW,aS⟩:=hh.st.run (hh.up 5 af) (hh.up 7 af) hh.un HPN.o;have h13:a.tmps[13]?.getD undef=bM.sl a 13:=by rw[←Array.getD_eq_getD_getElem?];rfl
  have h15:a.tmps[15]?.getD undef=.slice (some ⟨g9,0,none⟩) 1 1:=rq (e15);have hnd:L 9=false:=bI (fun e=>(hh.st.d e).1) hh.un;have hJ:=Hd hh.st;refine wu _ _ bV bV bV rfl rfl (by simpa[go_sem]using h13) (by simpa[go_sem]using h15) hrn ⟨v9,rfl,aS,trivial,WJ.a5E hJ.o hnd LW aS.size (bM.aY (by rw[hsz.o];simp))⟩
 ·have h16:a.tmps[16]?.getD undef=bM.sl a 16:=by rw[←Array.getD_eq_getD_getElem?];rfl
  have hup:=hh.up 8 af;have hJ:=Hd hh.st;have hsz:=Hd hh.size;clear hh;go_simp;exact⟨_,rfl,bR,trivial,WJ.a5D hJ.o hup sn sn sn (bM.aY (by rw[hsz.o];simp))⟩
 any_goals (have hJ:=hh.j;clear hh;go_simp;exact⟨_,rfl,bR,rfl,WJ.slots hJ.o sn sn sn sn⟩)
 intro L w4 val hL hJ hR hv;have HR4:=Hd hR;have hc:=hJ.c (hL 8 (by decide));obtain⟨-,hd⟩:=hJ.d (hL 9 (by decide));rw[←hd]at hc;have HC:=Hd hc;clear hv hL hJ hR hd hc;simp only[regs.aC,List.map_cons,List.map_nil];simp only[Act.put,List.setIfInBounds_toArray,List.set_cons_zero,List.set_cons_succ]
 skip
 go_wp2_with (fail);go_ret;exact⟨_,rfl,aj.weaken HC.o HB1.o.size,HB1.o.trans (HR4.o.mono HB1.o.size)⟩
theorem Wh(wi aH M:Int)(tv:Value)(t:T)(m:Nat)(ok:Ok t)(hn:t.length<=1000)(k:Nat):∀(i:Int) (w:World),aP w tv t->has t i=true->depth t i<=k ->
  Calls prog 67 #[.agg #[.int .i64 wi,.int .i64 aH,.int .i64 M,tv,.map (some m)],.int .i64 i] w fun e w'=>∃v,e=.returned v∧aU w' w.heap.size v (fZ t i)∧bz w w':=by
 induction k with
 |zero=>
  intro i w ht hh hd
  have h0:i=0:=by
   rcases ai.1 hh with e|e
   ·exact e
   ·rw[bP ok e]at hd;omega
  subst h0;exact Wi wi aH M tv t m w ht
 |succ k ih=>
  intro i w ht hh hd;by_cases h0:i=0
  ·subst h0;exact Wi wi aH M tv t m w ht
  have hi:=(ai.1 hh).resolve_left h0;rw[bP ok hi]at hd;exact a1D wi aH M tv t m ok hn i w ht hi fun W ht=>ih (par t i) W ht (ai.2 (ok.fB hi)) (by omega)
end
end Go.Proofs.YtekdoeilpheklaaGreat
