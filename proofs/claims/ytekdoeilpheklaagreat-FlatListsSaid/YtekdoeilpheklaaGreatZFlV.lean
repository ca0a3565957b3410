import Derived.Test.YtekdoeilpheklaaGreatZFlH
set_option maxHeartbeats 16000000
set_option maxRecDepth 100000
open Go.Proofs.Tryz
namespace Go.Proofs.YtekdoeilpheklaaGreat
section
open Go.RowKit fK fZ aB Go.Maps
theorem Wn{P:Program}{fn:Func}{p q:Tmp}{ty:TypeId}{tmps:Array Value}{w:World}{g:Nat}{cs:List Value}{d:TypeDesc}{v:Value}{Q:Ending->World->Prop}(hfn:fn.results=#[.tmp q,.cell p ty])
  (hp:tmps.getD p undef=.pointer (some ⟨g,0,none⟩)) (hq:tmps.getD q undef=v) (hB:ax w g cs) (hu:P.underlying ty=some d) (hd:(match d with|.struct _|.array _ _=>true|_=>false)=true) (hi:(P.info? ty).map (·.size)=some cs.length)
  (h:Q (.returned (.tuple #[v,.agg cs.toArray])) w):bodyPost P fn Q Exit.ret { tmps:=tmps,defers:=[] } w:=by
 obtain⟨T,hg⟩:=hB;refine bodyPost_ret_by (v:=.tuple #[v,.agg cs.toArray]) ?_ rfl h;have hp':tmps[p]?.getD undef=.pointer (some ⟨g,0,none⟩):=by simpa using hp
 have hq':tmps[q]?.getD undef=v:=by simpa using hq
 simp[results,hfn,hp',hq',asAddr,run_loadVar_row w g T ty _ _ d hg hu hd (by simpa using hi)]
section
variable {w w':World}{g:Nat}{cs:List Value}{T:TypeId}
theorem xA.kx{v:Value}{n:Nd}(h:xA w v n)(hb:ax w g cs)(hc:kG cs)(hk:KX g w w'):xA w' v n:=by
 obtain⟨A,c,e,hr⟩:=h;refine⟨A,c,e,hr.stays fun a ea hne=>hk.same _ (Row.lt hr.row ea hne) fun e2=>?_⟩;obtain⟨b,off,e3,hcl⟩:=hr.row (List.length_pos_iff.2 hne);rw[ea] at e3;obtain rfl:=Option.some.inj e3;have h1:=hcl 0 (List.length_pos_iff.2 hne);obtain rfl:b=g:=e2;have h2:=hb.cell (off+0);rw[h1] at h2;exact hc _ (List.mem_of_getElem? h2.symm) _ rfl
theorem eF.kx{v:Value}{a b M:Int}{x:aJ}(h:eF w v a b M x)(hb:ak w g cs T)(hT:T≠213)(hc:kG cs)(hk:KX g w w'):eF w' v a b M x:=by
 obtain⟨tv,m,e,h1,h2⟩:=h;refine⟨tv,m,e,h1.stays fun _ _ a _ hy ea=>hk.same _ (by obtain⟨cs,fz,h3⟩:=hy a ea;exact lt_of_block h3) (hy.dP ea hb hT),?_⟩;have hne:=h2.uj hb.blk;obtain⟨es,g1,g2,g3⟩:=h2.ex;refine⟨es,g1.stays (hk.same _ g1.inside (Ne.symm hne)),g2,fun i hi=>?_⟩;obtain⟨v,e,hv⟩:=g3 i hi;exact⟨v,e,hv.kx hb.blk hc hk⟩
end
def O8(p r:Nat):bF:=fun k=>k=p∨k=r
abbrev z5:List Value:=Vf
structure PlD(w0:World)(p r g b m:Nat)(s:Sh)(x:aJ)(w:World):Prop where
 blk:∃A c dm,ak w p (Vb 8 8 30 A x.t.length c dm) 30∧aK w (.slice A x.t.length c) x.t∧dL w dm (has x.t) x.nd
 res:ak w r z5 30
 my:WM w0 g b m s ⟨8,⟨8,30⟩,O8 p r⟩ x w
 pge:w0.heap.size<=p
 rlt:r<w0.heap.size
structure RV(r:Nat)(cs0 cs:List Value)(d:Bool)(w:World):Prop where
 no:d=false->ax w r cs0
 yes:d=true->ax w r cs
def OJ(w:World)(e:Ending)(w':World):Prop:=∃g b m s v y,e=.returned (.tuple #[.pointer (some ⟨g,0,none⟩),v])∧WM w g b m s ⟨8,⟨8,30⟩,fun _=>False⟩ y w'∧eF w' v 8 8 30 y∧sN y∧y.t.length<=120
theorem J9(A:Option Addr)(L:List vw)(c:Nat)(w:World)(h1:Md w A L)(hf:fits L) :
  Calls prog 7 (Vn 8 8 A L.length c).toArray w (OJ w):=by
 have HT:=Hd h1;have HF:=Hd hf;have hlb:(L.length:Int)<=30:=by have:=hf.2.1;omega
 clear h1 hf;go_enter func7,ntmps7
 go_upto_region 1 with (fail)
 have Zi:Hid (ak (w.alloc (.cells Vf.toArray 30)) w.heap.size z5 30):=ak.new w z5 30;have HBA:Hid (Below w.heap.size w (w.alloc (.cells Vf.toArray 30))):=bR.alloc nR _;generalize (w.alloc (.cells Vf.toArray 30))=wA at *
 obtain⟨r,hr⟩:∃r,w.heap.size=r:=⟨_,rfl⟩
 rw[hr] at Zi HBA ⊢;have HRR:=Hd hr;clear hr;go_wp2_with (fail);refine(VN 8 8 30 wA).mono ?_;rintro e wB ⟨v3,rfl,hd3,hb3⟩;obtain⟨A2,c2,m2,rfl,ht3,UO⟩:=hd3.ex;have SK:Hid (ak wB r z5 30):=Zi.o.stays (hb3.block _ Zi.o.inside);have DZ:Hid (Below r w wB):=HBA.o.trans (hb3.mono (Nat.le_of_lt Zi.o.inside));have HT3:Hid (aK wB (.slice A2 aJ.new.t.length c2) aJ.new.t):=ht3;have tu:Hid (dL wB m2 (has aJ.new.t) aJ.new.nd):=UO;have HZ:Hid (ak (wB.alloc (.cells Vf.toArray 30)) wB.heap.size z5 30):=ak.new wB z5 30
 have HBZ:Hid (Below wB.heap.size wB (wB.alloc (.cells Vf.toArray 30))):=bR.alloc nR _;clear hd3 hb3 ht3 UO Zi HBA
 go_upto_region 2 with (first|(with_reducible refine gS ?_;first|(refine au 30 _ _ rfl rfl rfl _ 0 rfl ((Vb 8 8 30 A2 aJ.new.t.length c2 m2)) rfl (Vf) HZ.o.blk ((Vb 8 8 30 A2 aJ.new.t.length c2 m2)) rfl (nE rfl) (by kernel_rfl) rfl ?_;intro wC XV xx)))
 have MR:Hid (ak wC wB.heap.size (Vb 8 8 30 A2 aJ.new.t.length c2 m2) 30):=HZ.o.wrote XV.o xx.o;have Fv:Hid (Below wB.heap.size wB wC):=XV.o.below HBZ.o nR;have SI:Hid (ak wC r z5 30):=SK.o.stays (Fv.o.block _ SK.o.inside);have qW:Hid (r<wB.heap.size):=SK.o.inside;have Bj:Hid (aK wC (.slice A2 aJ.new.t.length c2) aJ.new.t):=HT3.o.below Fv.o;have HMC:Hid (dL wC m2 (has aJ.new.t) aJ.new.nd):=tu.o.below Fv.o;clear HZ HBZ XV xx SK HT3 tu
 obtain⟨p,hp⟩:∃p,wB.heap.size=p:=⟨_,rfl⟩
 have SL:=Hd hp;rw[hp] at MR Fv qW ⊢;clear hp;have yw:=Hd (Uf (w:=wC) ⟨8,⟨8,30⟩,O8 p r⟩ (fun k hk=>hk.elim (fun e=>by rw[e];exact MR.o.inside) fun e=>by rw[e];exact SI.o.inside) ⟨show(1:Int)<=8 by decide,show(8:Int)<=4096 by decide⟩ ⟨show(1:Int)<=8 by decide,show(8:Int)<=4096 by decide⟩ ⟨show(1:Int)<=30 by decide,show(30:Int)<=65536 by decide⟩);go_wp2_with (fail);refine yw.o.mono ?_;unfold Y9;rintro e w2 ⟨g,b,m,s0,rfl,hs1,hb2,hf2,-⟩
 have HPL:Hid (PlD wB p r g b m s0 aJ.new w2):=⟨⟨A2,c2,m2,MR.o.stays (hb2.block _ MR.o.inside),Bj.o.below hb2,HMC.o.below hb2⟩,SI.o.stays (hb2.block _ SI.o.inside),⟨hs1,fun k hk=>by have h1:=hf2 k hk;have h2:=MR.o.inside;rw[SL.o];omega,by show Below _ _ _;rw[SL.o];exact Fv.o.trans (hb2.mono (Nat.le_of_lt MR.o.inside))⟩,Nat.le_of_eq SL.o,by rw[SL.o];exact qW.o⟩
 clear hs1 hb2 hf2 yw MR Fv SI Bj HMC
 go_upto_region 6 with (fail)
 go_loopw [36] (fun yV wr=>∃j:Nat,j<=L.length∧yV=.int .i64 j∧Hid (∃s x,PlD wB p r g b m s x wr∧sN x∧x.t.length<=total (L.take j))) (fun yV _=>L.length - (intOf yV).toNat)
 case atStart=>exact⟨0,Nat.zero_le _,rfl,s0,aJ.new,HPL.o,aJ.zO,Nat.zero_le _⟩
 case round=>
  obtain⟨j,hj,rfl,HX⟩:=hrel;generalize wr=wD at *;obtain⟨s,x,hpl,hsx,hlx⟩:=HX.o;obtain⟨Ad,cd,dm,hpb,hdt,hdm⟩:=hpl.blk;have XZ:=Hd hpb;have HDT:=Hd hdt;have HDM:=Hd hdm;have RF:=Hd hpl.my;have MP:=Hd hpl.res;have HPG:Hid (wB.heap.size<=p):=hpl.pge;have HSX:=Hd hsx;have HLX:=Hd hlx;clear hpl hsx hlx HX hpb hdt hdm HPL;by_cases hlt:j<L.length
  ·have t4:decide (j<L.length)=true:=by simpa using hlt
   have eU:=Hd hlt
   have mF:Hid (Below w.heap.size w wD):=by
    rw[HRR.o];exact DZ.o.trans (RF.o.bel.mono (by have:=qW.o;have:=SL.o;omega))
   obtain⟨lb,lo,rA,hcell⟩:=(HT.o.below mF.o).row (by omega);subst rA
   obtain⟨q,hq⟩:∃q,q=L[j]'hlt:=⟨_,rfl⟩
   have hqc:wD.cell? ⟨lb,lo+j,none⟩=some (.slice q.A q.l.length q.c):=by
    have:=hcell j hlt 0 (.slice q.A q.l.length q.c) (by rw[hq];rfl)
    rwa [Nat.mul_one,Nat.add_zero] at this
   have yT:Hid (q∈L):=by rw[hq];exact List.getElem_mem hlt
   have rD:Hid (L.take (j+1)=L.take j++[q]):=by rw[hq];exact List.take_succ_eq_append_getElem hlt
   have i0:=World.block_lt_of_cell? wD ⟨lb,_,none⟩ hqc
   have HQL:Hid (x.t.length+q.l.length<=total (L.take (j+1))∧total (L.take (j+1))<=120):=by
    refine⟨?_,Nat.le_trans (JQ (j+1)) HF.o.2.2⟩;rw[rD.o,y9];have:=HLX.o;omega
   have a3D:Hid (∀o∈q.l,o.o.lk.l.length<=300):=HF.o.1 q yT.o
   have Ff:Hid (q.l.length<=1024->Room 30 x q.l.length):=fun _=>by
    have:=HQL.o;exact⟨by omega,.inl (by omega)⟩
   have MS:Hid (Bg wD q.A q.l):=(HT.o.below mF.o).ops q yT.o;have dO:Hid (∀q'∈q.l,lV q'.o):=fun q' hq'=>(MS.o.px q' hq').2.ok (a3D.o q' hq');have HN:Hid (q.l.length<=100000):=by have:=HQL.o;show _<=_;omega
   have HA:=Hd (applied RF.o.at_ HSX.o q.l q.A q.c ((HT.o.ops q yT.o).at_ mF.o fun k hk=>by have h1:=RF.o.ft k hk;have h2:=qW.o;have h3:=SL.o;have h4:=HRR.o;omega) dO.o Ff.o (by have:=HN.o;omega))
   have HSN:Hid (sN (bU 30 setSt x (q.l.map (·.o))).1):=HSX.o.apply fun o ho'=>by
    obtain⟨q',h1,h2⟩:=List.mem_map.1 ho';rw[← h2];exact dO.o q' h1
   have HYL:Hid ((bU 30 setSt x (q.l.map (·.o))).1.t.length<=total (L.take (j+1))):=by
    have h1:=(LY (M:=30) (l:=q.l.map (·.o)) HSX.o.ok).1;rw[List.length_map] at h1;exact Nat.le_trans h1 HQL.o.1
   obtain⟨os,hos⟩:∃os,q.l.map (·.o)=os:=⟨_,rfl⟩
   have HOS:=Hd hos;rw[hos] at HA HSN HYL
   obtain⟨⟨y,ri,re⟩,hR⟩:∃R,bU 30 setSt x os=R:=⟨_,rfl⟩
   have HRQ:=Hd hR;have HA2:Hid (Calls prog 18 #[.pointer (some ⟨g,0,none⟩),.slice q.A q.l.length q.c] wD (BD g b m ⟨8,⟨8,30⟩,O8 p r⟩ s x (y,ri,re) wD)):=by rw[← hR];exact HA.o
   rw[hR] at HSN HYL;have HFP:Hid (¬af b m s x.t p):=(RF.o.at_.old p (.inl rfl)).2.1;have HFR:Hid (¬af b m s x.t r):=(RF.o.at_.old r (.inr rfl)).2.1;clear hcell hq hlt hos hR HA hj
   go_upto_region 8 with (fail)
   clear hqc i0;go_wp2_with (fail);refine HA2.o.mono ?_;unfold BD;rintro e w1 ⟨s1,rfl,hs1,ht1⟩;simp only at hs1 ht1 ⊢;have ny:=Hd hs1;have Gh:Hid (WM wB g b m s1 ⟨8,⟨8,30⟩,O8 p r⟩ y w1):=RF.o.turn hs1 ht1;have Zk:Hid (ak w1 p (Vb 8 8 30 Ad x.t.length cd dm) 30):=XZ.o.stays (ht1.far p XZ.o.inside HFP.o).2;have Xe:Hid (ak w1 r z5 30):=MP.o.stays (ht1.far r MP.o.inside HFR.o).2;have a4z:Hid (aK w1 (.slice Ad x.t.length cd) x.t):=aK.turn RF.o.at_ ht1 HDT.o
   have XD:Hid (dL w1 dm (has x.t) x.nd):=dL.turn RF.o.at_ ht1 HDM.o (ah.2 (.inl rfl));have a5E:=Hd ((HT.o.ops q yT.o));have FP:Hid (∀W,DR w1.heap.size w1 W->ax W p (Vb 8 8 30 Ad x.t.length cd dm)):=fun W hr=>Zk.o.blk.below' hr.bel
   have FR:Hid (∀W,DR w1.heap.size w1 W->Calls prog 24 #[.slice q.A q.l.length q.c] W (yS os W)):=fun W hr=>by
    have h1:=J4 q.l q.A q.c W (a5E.o.below (by
     show Below _ _ _;rw[HRR.o];have h2:r<=wB.heap.size:=by have:=qW.o;have:=SL.o;omega
     exact DZ.o.trans ((Gh.o.bel.mono h2).trans (hr.bel.mono (Nat.le_trans h2 Gh.o.bel.size))))) a3D.o HN.o
    rw[HOS.o] at h1;exact h1
   have FC:Hid (∀W,DR w1.heap.size w1 W->∀A8 c8 l8,yt W A8 l8->l8.map (·.o)=os->Calls prog 23 #[.agg (Vb 8 8 30 Ad x.t.length cd dm).toArray,.slice A8 (l8:List iO).length c8] W fun e w'=>∃v',e=.returned (.tuple #[v',.int .i64 ri,.int .i64 re])∧DP 8 8 30 y 0 v' w'∧bz W w'):=fun W hr A8 c8 l8 hod Qp=>by
    have hlen:l8.length=q.l.length:=by
     have h1:=congrArg List.length (Qp.trans HOS.o.symm)
     rwa [List.length_map,List.length_map] at h1
    have h1:=Lr l8 A8 c8 8 8 30 (.agg (Vb 8 8 30 Ad x.t.length cd dm).toArray) x HSX.o W (FN.doc (a4z.o.below hr.bel) (XD.o.below hr.bel)) hod (fun q' hq'=>by
     have h2:q'.o∈q.l.map (·.o):=by rw[HOS.o,← Qp];exact List.mem_map_of_mem hq'
     obtain⟨q2,h3,h4⟩:=List.mem_map.1 h2;rw[← h4]
     exact dO.o q2 h3) (by (try show Below _ _ _);rw[hlen];exact Ff.o) (by rw[hlen];have:=HN.o;omega)
    rw[Qp,HRQ.o] at h1;refine h1.mono ?_;unfold a2m;rintro e w' ⟨v',h2,h3,h4⟩;refine⟨v',h2,⟨?_,fun _=>h3⟩,h4⟩;obtain⟨A7,c7,m7,h5,-,-⟩:=h3.ex;rw[h5];exact SC _ _ _ _ _ _ _
   clear hs1 ht1 RF XZ MP HDT HDM HA2 HFP HFR
   go_upto_region 9 with (fail)
   generalize w1=wS at *
   refine JP (DR wS.heap.size) (fun L V wx=>VJ wS.heap.size (L 8) (L 9) (V 15) (V 51) wx∧(L 9=true->L 5=true)∧(L 9=true->L 8=true)) [47,48,49,50,46,51,52,53,15,16,17] (fun _=>DR.refl _ _) (fun _ _ _ h k=>h.trans k) (fun i=>match i with
    |0=>rV (.agg ((Vb 8 8 30 Ad x.t.length cd dm)).toArray)
    |1=>rV (.slice q.A q.l.length q.c)
    | 2=>a0G wS.heap.size os
    | 3=>(⟨fun v wv=>∃v',v=.tuple #[v',.int .i64 ri,.int .i64 re]∧DP 8 8 30 y 0 v' wv,fun v q1 q2 h hb=>h.elim fun v' h=>⟨v',h.1,h.2.dr hb⟩⟩:regs.jO (DR wS.heap.size))
    | 4=>(⟨fun v wv=>∃v',v=.tuple #[v',.int .i64 ri,.int .i64 re]∧DP 8 8 30 y 0 v' wv,fun v q1 q2 h hb=>h.elim fun v' h=>⟨v',h.1,h.2.dr hb⟩⟩:regs.jO (DR wS.heap.size))
    | 5=>(⟨fun v wv=>DP 8 8 30 y 0 v wv,fun v q1 q2 h hb=>h.dr hb⟩:regs.jO (DR wS.heap.size))
    |6|10=>rV (.int .i64 ri)
    |7|11=>rV (.int .i64 re)
    | _=>ra) (DR.below bR.drew nR) (⟨VJ.start (Below.refl 0 _).drew.size,nofun,nofun⟩) ⟨?_,?_,?_,?_,?_,?_,?_,?_,?_,?_,?_,?_,trivial⟩ ?_
   ·refine fC fun L a BF hh=>?_;have h8:=hh.p 8 p 0;have hB:=Hd (FP.o _ hh.rel);have hJ:=Hd hh.st;exact aI 30 _ rfl p 0 (by simpa[go_sem] using h8) _ hB.o ((Vb 8 8 30 Ad x.t.length cd dm)) rfl _ underlying30 rfl (by kernel_rfl) ⟨_,rfl,DR.refl _ _,rfl,⟨VJ.slots hJ.o.1 sn sn,hJ.o.2⟩⟩
   ·refine fC fun L a BF hh=>?_;have h12:=hh.o 12 (v:=.slice q.A q.l.length q.c) rfl;have hJ:=hh.j;clear hh;go_simp;exact⟨_,rfl,DR.refl _ _,rfl,⟨VJ.slots hJ.o.1 sn sn,hJ.o.2⟩⟩
   ·refine fC fun L a BF hh=>?_;have h48:=rq (hh.d 1 48);have hC:=Hd (FR.o BF hh.rel);have hbz:=Hd (show wS.heap.size<=BF.heap.size from hh.rel.bel.size);have hJ:=Hd hh.st;have hsz:=Hd hh.size;have hun:=Hd hh.un;clear hh;go_simp;refine hC.o.mono ?_;unfold yS;rintro e w9 ⟨A9,c9,l9,rfl,a4Z,a4Y,aU⟩;exact⟨_,rfl,DR.below aU hbz.o,⟨A9,c9,l9,rfl,a4Z,a4Y⟩,⟨VJ.slots (VJ.below hJ.o.1 aU) sn sn,hJ.o.2⟩⟩
   ·refine fC fun L a BF hh=>?_;have h47:=rq (hh.d 0 47)
    obtain⟨A8,c8,l8,e8,a2T,Qp⟩:=(show ∃A c l9,(a.tmps.getD 49 undef)=.slice A (l9:List iO).length c∧yt BF A l9∧l9.map (·.o)=os from hh.d 2 49)
    have h49:a.tmps[49]?.getD undef=.slice A8 l8.length c8:=rq (e8);have hC:=Hd (FC.o BF hh.rel A8 c8 l8 a2T Qp);have hbz:=Hd (show wS.heap.size<=BF.heap.size from hh.rel.bel.size);have hJ:=Hd hh.st;have hsz:=Hd hh.size;have hun:=Hd hh.un;clear hh e8 a2T Qp;go_simp;refine hC.o.mono ?_;rintro e w9 ⟨v9,rfl,Sl,aU⟩;exact⟨_,rfl,DR.below aU hbz.o,⟨v9,rfl,Sl⟩,⟨VJ.slots (VJ.below hJ.o.1 aU) sn sn,hJ.o.2⟩⟩
   ·refine fC fun L a BF hh=>?_
    obtain⟨v8,e8,sD⟩:=(show ∃v',(a.tmps.getD 50 undef)=.tuple #[v',.int .i64 ri,.int .i64 re]∧DP 8 8 30 y 0 v' BF from hh.d 3 50)
    have h50:a.tmps[50]?.getD undef=.tuple #[v8,.int .i64 ri,.int .i64 re]:=rq (e8);have JE:=Hd sD;have hJ:=Hd hh.st;have hsz:=Hd hh.size;have hun:=Hd hh.un;clear hh e8 sD;go_simp;exact⟨_,rfl,DR.refl _ _,⟨v8,rfl,JE.o⟩,⟨VJ.slots hJ.o.1 sn sn,hJ.o.2⟩⟩
   ·refine fC fun L a BF hh=>?_
    obtain⟨v8,e8,sD⟩:=(show ∃v',(a.tmps.getD 46 undef)=.tuple #[v',.int .i64 ri,.int .i64 re]∧DP 8 8 30 y 0 v' BF from hh.d 4 46)
    have h46:a.tmps[46]?.getD undef=.tuple #[v8,.int .i64 ri,.int .i64 re]:=rq (e8);have JE:=Hd sD;have MZ:=Hd (bQ hh.st.2.1 hh.un);have hJ:=Hd hh.st;have hsz:=Hd hh.size;have hun:=Hd hh.un;clear hh e8 sD;go_simp;exact⟨_,rfl,DR.refl _ _,JE.o,⟨VJ.told hJ.o.1 MZ.o sn,fun _=>rfl,hJ.o.2.2⟩⟩
   ·refine fC fun L a BF hh=>?_
    obtain⟨v8,e8,sD⟩:=(show ∃v',(a.tmps.getD 46 undef)=.tuple #[v',.int .i64 ri,.int .i64 re]∧DP 8 8 30 y 0 v' BF from hh.d 4 46)
    have h46:a.tmps[46]?.getD undef=.tuple #[v8,.int .i64 ri,.int .i64 re]:=rq (e8);have JE:=Hd sD;have hJ:=Hd hh.st;have hsz:=Hd hh.size;have hun:=Hd hh.un;clear hh e8 sD;go_simp;exact⟨_,rfl,DR.refl _ _,rfl,⟨VJ.slots hJ.o.1 sn sn,hJ.o.2⟩⟩
   ·refine fC fun L a BF hh=>?_
    obtain⟨v8,e8,sD⟩:=(show ∃v',(a.tmps.getD 46 undef)=.tuple #[v',.int .i64 ri,.int .i64 re]∧DP 8 8 30 y 0 v' BF from hh.d 4 46)
    have h46:a.tmps[46]?.getD undef=.tuple #[v8,.int .i64 ri,.int .i64 re]:=rq (e8);have JE:=Hd sD;have hJ:=Hd hh.st;have hsz:=Hd hh.size;have hun:=Hd hh.un;clear hh e8 sD;go_simp;exact⟨_,rfl,DR.refl _ _,rfl,⟨VJ.slots hJ.o.1 sn sn,hJ.o.2⟩⟩
   ·refine fC fun L a BF hh=>?_;have MZ:=Hd (bQ hh.st.2.2 hh.un);have hbz:=Hd (show wS.heap.size<=BF.heap.size from hh.rel.bel.size);have hJ:=Hd hh.st;have hsz:=Hd hh.size;have hun:=Hd hh.un;clear hh;go_simp;exact⟨_,rfl,DR.below (bR.alloc nR _) hbz.o,trivial,⟨VJ.made hJ.o.1 MZ.o (bI.aW (by rw[hsz.o];simp)),hJ.o.2.1,fun _=>rfl⟩⟩
   ·refine fC fun L a BF hh=>?_;have hup:=hh.up 8 (by kernel_rfl);obtain⟨g9,c9,h9,kK,fV,XP,Su,-⟩:=hh.st.1.ex hup
    obtain⟨⟨VZ,e8,Sv,Qq,ho8⟩,hd8⟩:=(show DP 8 8 30 y 0 (a.tmps.getD 51 undef) BF from hh.d 5 51)
    have hJ:=Hd hh.st;have UM:=Hd (hh.up 5 (by kernel_rfl));refine dn 30 _ _ rfl g9 0 (by have h:=h9;unfold bI.sl at h;simpa[go_sem] using h) VZ (by simpa[go_sem] using e8) _ fV.blk (by rw[Sv,Su];decide) (by rw[Sv];kernel_rfl) ho8 ?_;intro w9 mV Cc
    have UW:ax w9 g9 VZ:=by
     have e:c9.take 0++VZ++c9.drop (0+VZ.length)=VZ:=by rw[Sv,List.drop_of_length_le (by rw[Su];decide)];simp
     rw[← e];exact Cc
    have hP:=hJ.o.1.put h9 kK fV XP mV UW Qq Sv e8;exact⟨undef,rfl,hP.2,trivial,⟨hP.1,fun _=>UM.o,fun _=>hup⟩⟩
   ·refine fC fun L a BF hh=>?_;have h52:=rq (hh.d 6 52);have hJ:=hh.j;clear hh;go_simp;exact⟨_,rfl,DR.refl _ _,rfl,⟨VJ.slots hJ.o.1 sn sn,hJ.o.2⟩⟩
   ·refine fC fun L a BF hh=>?_;have h53:=rq (hh.d 7 53);have hJ:=hh.j;clear hh;go_simp;exact⟨_,rfl,DR.refl _ _,rfl,⟨VJ.slots hJ.o.1 sn sn,hJ.o.2⟩⟩
   intro L w4 val hL hJ hR hv;have h16:val 16=.int .i64 ri:=hv 10 16 (by kernel_rfl);have h17:val 17=.int .i64 re:=hv 11 17 (by kernel_rfl);have HR4:=Hd hR;obtain⟨g9,c9,e9,kK,aU,XP,Su,hv9⟩:=hJ.1.ex (hL 8 (by decide));have hv34:=hv9 (hL 9 (by decide));have hd34:DP 8 8 30 y 0 (val 51) w4:=hv 5 51 (by kernel_rfl);have XE:=Hd hd34;have WS:=Hd hv34;have sS:=Hd (And.intro kK aU);clear hv hL hJ hR hd34 hv34 kK aU XP Su hv9;simp only[regs.aA,List.map_cons,List.map_nil,h16,h17];simp only[Act.put,List.setIfInBounds_toArray,List.set_cons_zero,List.set_cons_succ];clear h16 h17
   skip
   rw[e9];clear e9;have Zj:Hid (ak w4 p (Vb 8 8 30 Ad x.t.length cd dm) 30):=Zk.o.stays (HR4.o.bel.block _ Zk.o.inside);have a5A:Hid (ak w4 r z5 30):=Xe.o.stays (HR4.o.bel.block _ Xe.o.inside);have gV:Hid (WM wB g b m s1 ⟨8,⟨8,30⟩,O8 p r⟩ y w4):=Gh.o.below HR4.o.bel;obtain⟨An,cn,mn,hvn,htn,hmn⟩:=(XE.o.2 rfl).ex
   have hcn:c9=(Vb 8 8 30 An y.t.length cn mn):=by
    have h1:=WS.o.symm.trans hvn
    injection h1 with h1
    have h2:=congrArg Array.toList h1
    simpa using h2
   subst hcn;have HTN:=Hd htn;have HMN:=Hd hmn;clear hvn htn hmn XE WS FP FR FC Zk Xe Gh a4z XD ny;have q2:(re != re)=false:=by simp
   have q3:decide (re=re)=true:=by simp
   go_upto_region 13 with (first|(with_reducible refine gL ?_;first|(refine jZ 30 _ rfl rfl _ 0 rfl ((Vb 8 8 30 An y.t.length cn mn)) sS.o.2.blk ((Vb 8 8 30 An y.t.length cn mn)) rfl _ underlying30 rfl (by kernel_rfl) ?_))|(with_reducible refine gS ?_;first|(refine au 30 _ _ rfl rfl rfl _ 0 rfl ((Vb 8 8 30 An y.t.length cn mn)) rfl ((Vb 8 8 30 Ad x.t.length cd dm)) Zj.o.blk ((Vb 8 8 30 An y.t.length cn mn)) rfl (nE rfl) (by kernel_rfl) rfl ?_;intro w5 xg qU)))
   go_wp2_with (fail)
   go_roundw
   case rel=>
    refine⟨j+1,eU.o,by go_num,s1,y,⟨⟨An,cn,mn,Zj.o.wrote xg.o qU.o,HTN.o.wrote Zj.o (by decide) xg.o,HMN.o.wrote Zj.o.blk (by unfold kG;simp) xg.o⟩,a5A.o.stays (xg.o.far (by have:=qW.o;omega)),⟨gV.o.at_.part (E':=O8 p r) (fun k _ hk=>xg.o.far fun e=>hk (.inl e)) (fun k hk=>?_),gV.o.ft,xg.o.below gV.o.bel HPG.o⟩,HPG.o,by rw[SL.o];exact qW.o⟩,HSN.o,HYL.o⟩;have hk':=gV.o.at_.old k hk;exact⟨by rw[xg.o.size];exact hk'.1,.inl hk⟩
   case measure=>have:=eU.o;simp[intOf];omega
  ·obtain rfl:j=L.length:=by omega
   have t4:decide (L.length<L.length)=false:=by simp
   clear hlt
   go_upto_region 14 with (fail)
   have FP:Hid (∀W,KX r wD W->ax W p (Vb 8 8 30 Ad x.t.length cd dm)):=fun W hr=>by
    exact(XZ.o.stays (hr.same p XZ.o.inside (by have:=qW.o;omega))).blk
   refine wR (KX r) (fun L wx=>RV r z5 (Vb 8 8 30 Ad x.t.length cd dm) (L 3) wx) [60,61,6] (fun _=>KX.refl _ _) (fun _ _ _ h k=>h.trans k) (fun i=>match i with
    |0|2=>rp g 0
    |1=>rV (.agg ((Vb 8 8 30 Ad x.t.length cd dm)).toArray)
    | _=>ra) (KX.of_below bR.drew) (⟨fun _=>MP.o.blk.below' bR.drew,nofun⟩) ⟨?_,?_,?_,?_,trivial⟩ ?_
   any_goals (first|refine zp fun L a w1 hh=>?_|fail)
   have h9:=hh.p 9 g 0;rotate_left
   ·have h8:=hh.p 8 p 0;have hB:=Hd (FP.o _ hh.rel);have hJ:=Hd hh.st;exact aI 30 _ rfl p 0 (by simpa[go_sem] using h8) _ hB.o ((Vb 8 8 30 Ad x.t.length cd dm)) rfl _ underlying30 rfl (by kernel_rfl) ⟨_,rfl,KX.refl _ _,rfl,hJ.o⟩
   have h60:=rq (hh.d 0 60);rotate_left
   ·have h7:=hh.p 7 r 0;have h61:=rq (hh.d 1 61);have qH:=hh.st.no hh.un;refine dn 30 _ _ rfl r 0 (by simpa[go_sem] using h7) (Vb 8 8 30 Ad x.t.length cd dm) (by simpa[go_sem] using h61) _ qH (nE rfl) (by kernel_rfl) (by rfl) ?_;intro w9 mV fV;exact⟨undef,rfl,KX.wrote mV,trivial,⟨nofun,fun _=>fV⟩⟩
   any_goals (have hJ:=hh.j;clear hh;go_simp;exact⟨_,rfl,KX.refl _ _,rfl,hJ.o⟩)
   intro L w4 val hL hJ hR hv;have h60:val 60=.pointer (some ⟨g,0,none⟩):=hv 0 60 (by kernel_rfl);have h6:val 6=.pointer (some ⟨g,0,none⟩):=hv 2 6 (by kernel_rfl);have HR4:=Hd hR;have HV4:=Hd (hJ.yes (hL 3 (by decide)));clear hv hL hJ hR;simp only[regs.aA,List.map_cons,List.map_nil,h60,h6];simp only[Act.put,List.setIfInBounds_toArray,List.set_cons_zero,List.set_cons_succ];clear h60 h6
   skip
   go_wp2_with (fail);refine Wn rfl rfl rfl HV4.o underlying30 rfl (by kernel_rfl) ?_;refine⟨g,b,m,s,.agg (Vb 8 8 30 Ad x.t.length cd dm).toArray,x,rfl,⟨RF.o.at_.part (E':=fun _=>False) (fun k hk hn=>HR4.o.same k hk fun e=>hn (.inr e)) (fun k hk=>hk.elim),fun k hk=>?_,?_⟩,?_,HSX.o,?_⟩
   ·have h1:=RF.o.ft k hk;have h2:=qW.o;have h3:=SL.o;have h4:=HRR.o;omega
   ·show Below _ _ _;rw[HRR.o];have h2:r<=wB.heap.size:=by have:=qW.o;have:=SL.o;omega
    exact DZ.o.trans ((RF.o.bel.mono h2).trans (HR4.o.aP nR (Nat.le_trans h2 RF.o.bel.size)))
   ·exact(FN.doc HDT.o HDM.o).kx MP.o (by decide) (by unfold kG;simp) HR4.o
   ·have:=HLX.o;rw[List.take_length] at this;exact Nat.le_trans this HF.o.2.2
end
section
open Go.RowKit fK fZ aB Go.Maps
def fO(t:T)(i:Int):List Int:=0::(line t i).reverse
theorem Ti(t:T):fO t 0=[0]:=by unfold fO;rw[lM];rfl
theorem yZ{t:T}(ok:Ok t){i:Int}(hi:i∈ids t):fO t i=fO t (par t i)++[i]:=by
 unfold fO;rw[dR ok hi,List.reverse_cons,List.cons_append]
def o5(n:Nd)(w:Mp)(d:Dn):Option Dn:=if n.hi=true∨¬w.back.2=0 then none else some (d.to n w)
def Ce(x:aJ):List Int->Dn->Option Dn
 | [],d=>some d
 | j::l,d=>(o5 (x.nd j) (x.ws j) d).bind (Ce x l)
theorem yO(x:aJ):∀(l m:List Int) (d:Dn),Ce x (l++m) d=(Ce x l d).bind (Ce x m)
 | [],_,_=>rfl
 | j::l,m,d=>by
  rw[List.cons_append,Ce,Ce];cases o5 (x.nd j) (x.ws j) d with
  | none=>rfl
  | some d=>rw[Option.bind_some,Option.bind_some,yO]
theorem by_zero(q:Nat):jH 0 q=0:=by
 unfold jH;simp
theorem step_seen(n:Nd)(w:Mp)(z:Option Dn):Dn.step n w (z.filter fun d=>decide (¬d.o=0))=(z.bind (o5 n w)).filter fun d=>decide (¬d.o=0):=by
 cases z with
 | none=>rfl
 | some d=>
  rw[Option.bind_some];by_cases h0:d.o=0
  ·rw[Option.filter_some,if_neg (by simp[h0])];unfold o5;split
   ·rfl
   ·rw[Option.filter_some,if_neg]
    ·rfl
    ·unfold Dn.to;simp[h0,by_zero]
  ·rw[Option.filter_some,if_pos (by simp[h0])];unfold Dn.step o5;rw[Option.bind_some];unfold Dn.ok;by_cases h1:n.hi=true∨¬w.back.2=0
   ·rw[if_pos h1,if_neg]
    ·rfl
    ·rcases h1 with h1|h1<;>simp[h1]
   ·rw[if_neg h1,Option.filter_some]
    have h2:n.hi=false:=by
     cases h:n.hi with
     | false=>rfl
     | true=>exact absurd (.inl h) h1
    have h3:w.back.2=0:=Decidable.not_not.1 fun h=>h1 (.inr h);by_cases h4:jH d.o n.op.toNat=0
    ·rw[if_neg (by simp[h4]),if_neg (by unfold Dn.to;simp[h4])]
    ·rw[if_pos (by simp[h2,h3,h4]),if_pos (by unfold Dn.to;simp[h4])]
theorem VG{x:aJ}(ok:Ok x.t){i:Int}(hi:i=0∨i∈ids x.t):bK x i=(Ce x (fO x.t i) Dn.top).filter fun d=>decide (¬d.o=0):=by
 refine ok.pW (P:=fun i=>bK x i=(Ce x (fO x.t i) Dn.top).filter fun d=>decide (¬d.o=0)) ?_ (fun i hi ih=>?_) hi
 ·rw[uJ,Ti];have h:=step_seen (x.nd 0) (x.ws 0) (some Dn.top);rw[Option.filter_some,if_pos (by decide),Option.bind_some] at h;rw[h,Ce];cases o5 (x.nd 0) (x.ws 0) Dn.top with
  | none=>rfl
  | some d=>rfl
 ·rw[mW ok hi,ih,yZ ok hi,yO,step_seen]
  congr 1
  cases Ce x (fO x.t (par x.t i)) Dn.top with
  | none=>rfl
  | some d=>
   rw[Option.bind_some,Option.bind_some,Ce];cases o5 (x.nd i) (x.ws i) d with
   | none=>rfl
   | some d=>rfl
end
section
open Go.RowKit fK fZ aB Go.Maps
theorem a0p(i:Int)(w:World):(Instr.buildSlice bM 1 #[(0,.int .i64 i)]).run prog w=.ok (.slice (some ⟨w.heap.size,0,none⟩) 1 1) (w.alloc (.cells #[.int .i64 i] jm)):=by kernel_rfl
theorem Ns{t:T}(ok:Ok t){i:Int}(hi:i=0∨i∈ids t):(fO t i).length<=t.length+1:=by
 unfold fO;rw[List.length_cons,List.length_reverse];have:=lN ok hi;unfold depth at this;omega
structure WJ(B:Nat)(pl:List Int)(i:Int)(lA lB lC lD:Bool)(vA vB vC vD:Value)(w:World):Prop where
 sz:B<=w.heap.size
 a:lA=true->lC=false->aO w B vA pl
 b:lB=true->lC=false->∃g,vB=.slice (some ⟨g,0,none⟩) 1 1∧ax w g [.int .i64 i]
 c:lC=true->aO w B vC (pl++[i])
 d:lD=true->lC=true∧vD=vC
section
variable {B:Nat}{pl:List Int}{i:Int}{lA lB lC lD:Bool}{vA vB vC vD uA uB uC uD v9:Value}{w w':World}
theorem WJ.below(h:WJ B pl i lA lB lC lD vA vB vC vD w)(hb:bz w w'):WJ B pl i lA lB lC lD vA vB vC vD w':=⟨Nat.le_trans h.sz hb.size,fun e f=>ai.below (h.a e f) hb,fun e f=>by
 obtain⟨g,e1,e2⟩:=h.b e f
 exact⟨g,e1,e2.below' hb⟩,fun e=>ai.below (h.c e) hb,h.d⟩
theorem WJ.slots(h:WJ B pl i lA lB lC lD vA vB vC vD w)(e1:uA=vA)(e2:uB=vB)(e3:uC=vC)(e4:uD=vD):WJ B pl i lA lB lC lD uA uB uC uD w:=by rw[e1,e2,e3,e4];exact h
theorem WJ.a5j(h:WJ B pl i lA lB lC lD vA vB vC vD w)(ho:aO w' w.heap.size v9 pl)(hb:bz w w')(e1:uA=v9)(e2:uB=vB)(e3:uC=vC)(e4:uD=vD):WJ B pl i true lB lC lD uA uB uC uD w':=by
 rw[e1,e2,e3,e4];have h':=h.below hb;exact⟨h'.sz,fun _ _=>ai.weaken ho h.sz,h'.b,h'.c,h'.d⟩
theorem WJ.a5i(h:WJ B pl i lA lB lC lD vA vB vC vD w)(e1:uA=vA)(e2:uB=.slice (some ⟨w.heap.size,0,none⟩) 1 1)(e3:uC=vC)(e4:uD=vD):WJ B pl i lA true lC lD uA uB uC uD (w.alloc (.cells #[.int .i64 i] jm)):=by
 rw[e1,e2,e3,e4];have h':=h.below (bR.alloc nR (.cells #[.int .i64 i] jm));exact⟨h'.sz,h'.a,fun _ _=>⟨_,rfl,ay w [.int .i64 i] _⟩,h'.c,h'.d⟩
theorem WJ.run(h:WJ B pl i lA lB lC lD vA vB vC vD w)(hA:lA=true)(hB:lB=true)(hC:lC=false)(hn:pl.length<=100000):∃g v9 w9,vB=.slice (some ⟨g,0,none⟩) 1 1∧(Builtin.append_ #[bM,bM] bM #[vA,.slice (some ⟨g,0,none⟩) 1 1]).run prog w=.ok v9 w9∧aO w9 B v9 (pl++[i])∧Below B w w9:=by
 obtain⟨g,e,hb⟩:=h.b hB hC;obtain⟨v9,w9,h1,h2,h3,-⟩:=ai.app (P:=prog) (xs:=[i]) (c:=1) (g:=g) (o:=0) (ts:=bM) underlying116 kJ rfl (by decide) (by decide) ig uz (h.a hA hC) (fun _=>pJ ig (by simpa[ic] using hb)) (by simp;omega) h.sz;exact⟨g,v9,w9,e,h1,h2,bR.grown h3 h.sz fun k hk=>((h.a hA hC).block hk).1⟩
theorem WJ.a5h(h:WJ B pl i lA lB lC lD vA vB vC vD w)(hD:lD=false)(ho:aO w' B v9 (pl++[i]))(hb:w.heap.size<=w'.heap.size)(e3:uC=v9):WJ B pl i lA lB true lD uA uB uC uD w':=by
 rw[e3,hD];exact⟨Nat.le_trans h.sz hb,(fun _ e=>nomatch e),(fun _ e=>nomatch e),fun _=>ho,fun e=>nomatch e⟩
theorem WJ.a5g(h:WJ B pl i lA lB lC lD vA vB vC vD w)(hC:lC=true)(e1:uA=vA)(e2:uB=vB)(e3:uC=vC)(e4:uD=vC):WJ B pl i lA lB lC true uA uB uC uD w:=by
 rw[e1,e2,e3,e4];exact⟨h.sz,h.a,h.b,h.c,fun _=>⟨hC,rfl⟩⟩
end
theorem VE(wi aF M:Int)(tv:Value)(t:T)(m:Nat)(w:World)(ht:aK w tv t) :
  Calls prog 67 #[.agg #[.int .i64 wi,.int .i64 aF,.int .i64 M,tv,.map (some m)],.int .i64 0] w fun e w'=>∃v,e=.returned v∧aO w' w.heap.size v (fO t 0)∧bz w w':=by
 rw[Ti];obtain⟨At,ct,rfl,hr,hy⟩:=ht;have HR:=Hd hr;have HY:=Hd hy;clear hr hy;have HB1:Hid (bz w (w.alloc (.cells (Vb wi aF M At t.length ct m).toArray 30))):=bR.alloc nR _;have jJ:Hid (ax (w.alloc (.cells (Vb wi aF M At t.length ct m).toArray 30)) w.heap.size (Vb wi aF M At t.length ct m)):=ay w (Vb wi aF M At t.length ct m) _;go_enter func67,ntmps67
 go_upto_region 1 with (fail)
 generalize (w.alloc (.cells (Vb wi aF M At t.length ct m).toArray 30))=w0 at *;have hbs:=a0p 0 w0;have HO:Hid (aO (w0.alloc (.cells #[.int .i64 0] jm)) w.heap.size (.slice (some ⟨w0.heap.size,0,none⟩) 1 1) [0]):=ai.lit ig w0 [0] HB1.o.size (by decide);have HB2:Hid (bz w (w0.alloc (.cells #[.int .i64 0] jm))):=HB1.o.alloc HB1.o.size _;go_wp2_with (fail);go_ret;exact⟨_,rfl,HO.o,HB2.o⟩
theorem a1d(wi aF M:Int)(tv:Value)(t:T)(m:Nat)(ok:Ok t)(hn:t.length<=1000)(mQ:Int)(w:World)(ht:aK w tv t)(hi:mQ∈ids t)
  (ih:∀W,aK W tv t->Calls prog 67 #[.agg #[.int .i64 wi,.int .i64 aF,.int .i64 M,tv,.map (some m)],.int .i64 (par t mQ)] W fun e w'=>∃v,e=.returned v∧aO w' W.heap.size v (fO t (par t mQ))∧bz W w') :
  Calls prog 67 #[.agg #[.int .i64 wi,.int .i64 aF,.int .i64 M,tv,.map (some m)],.int .i64 mQ] w fun e w'=>∃v,e=.returned v∧aO w' w.heap.size v (fO t mQ)∧bz w w':=by
 have hne:=ok.vV hi;have q:(mQ==0)=false:=by simpa using hne
 have HP:=Hd (fun A c W hr=>a1e A t c mQ W hr (by omega));have HIH:=Hd ih
 have HPN:Hid ((fO t (par t mQ)).length<=100000):=by
  have:=Ns ok (ok.eX hi);show _<=_;omega
 rw[yZ ok hi];generalize fO t (par t mQ)=PL at *;generalize par t mQ=pp at *;clear ih ok hi hne hn;obtain⟨At,ct,rfl,hr,hy⟩:=ht;have HR:=Hd hr;have HY:=Hd hy;clear hr hy;have HB1:Hid (bz w (w.alloc (.cells (Vb wi aF M At t.length ct m).toArray 30))):=bR.alloc nR _;have jJ:Hid (ax (w.alloc (.cells (Vb wi aF M At t.length ct m).toArray 30)) w.heap.size (Vb wi aF M At t.length ct m)):=ay w (Vb wi aF M At t.length ct m) _;go_enter func67,ntmps67
 go_upto_region 1 with (fail)
 generalize (w.alloc (.cells (Vb wi aF M At t.length ct m).toArray 30))=w0 at *;have FS:Hid (∀W,bz w0 W->ax W w.heap.size (Vb wi aF M At t.length ct m)):=fun W hb=>jJ.o.below' hb;have FP:Hid (∀W,bz w0 W->Calls prog 93 #[.slice At t.length ct,.int .i64 mQ] W fun e w'=>e=.returned (.int .i64 pp)∧bz W w'):=fun W hb=>HP.o At ct W (aS.below HR.o (HB1.o.trans (hb.mono HB1.o.size)))
 have FW:Hid (∀W,bz w0 W->Calls prog 67 #[.agg (Vb wi aF M At t.length ct m).toArray,.int .i64 pp] W fun e w'=>∃v,e=.returned v∧aO w' W.heap.size v PL∧bz W w'):=fun W hb=>HIH.o W (aK.below ⟨At,ct,rfl,HR.o,HY.o⟩ (HB1.o.trans (hb.mono HB1.o.size)))
 go_upto_region 3 with (fail)
 refine JP (Below w0.heap.size) (fun L V wx=>WJ w0.heap.size PL mQ (L 5) (L 7) (L 8) (L 9) (V 13) (V 15) (V 16) (V 4) wx) [8,9,10,11,12,13,14,15,16,4] (fun _=>bR) (fun _ _ _ h k=>h.trans k) (fun i=>match i with
  |0=>rV (.agg ((Vb wi aF M At t.length ct m)).toArray)
  |1=>rp w.heap.size 3
  |2=>rV (.slice At t.length ct)
  |3|6=>rV (.int .i64 mQ)
  |4=>rV (.int .i64 pp)
  | _=>ra) (bR.drew) (⟨nR,nofun,nofun,nofun,fun e=>nomatch e⟩) ⟨?_,?_,?_,?_,?_,?_,?_,?_,?_,?_,trivial⟩ ?_
 any_goals (first|refine fC fun L a w1 hh=>?_|fail)
 ·have h2:=hh.p 2 w.heap.size 0;have hB:=Hd (FS.o _ hh.rel);have hJ:=Hd hh.st;exact aI 30 _ rfl w.heap.size 0 (by simpa[go_sem] using h2) _ hB.o ((Vb wi aF M At t.length ct m)) rfl _ underlying30 rfl (by kernel_rfl) ⟨_,rfl,bR,rfl,WJ.slots hJ.o sn sn sn sn⟩
 have h2:=hh.p 2 w.heap.size 0;have i0:=(FS.o _ hh.rel).inside;rotate_left;have h9:=rq (hh.d 1 9);have ⟨c0,i0⟩:=(FS.o _ hh.rel).ci 3 rfl;rotate_left;have h1:=hh.o 1 (v:=.int .i64 mQ) rfl;rotate_left
 ·have h10:=rq (hh.d 2 10);have h11:=rq (hh.d 3 11);have hC:=Hd (FP.o _ hh.rel);have hJ:=Hd hh.st;have hsz:=Hd hh.size;clear hh;go_simp;refine hC.o.mono ?_;rintro e w9 ⟨rfl,aU⟩;exact⟨_,rfl,aU.mono hJ.o.sz,rfl,WJ.slots (hJ.o.below aU) sn sn sn sn⟩
 ·have h8:=rq (hh.d 0 8);have h12:=rq (hh.d 4 12);have hC:=Hd (FW.o w1 hh.rel);have hJ:=Hd hh.st;have hsz:=Hd hh.size;clear hh;go_simp;refine hC.o.mono ?_;rintro e w9 ⟨v9,rfl,KQ,aU⟩;exact⟨_,rfl,aU.mono hJ.o.sz,trivial,WJ.a5j hJ.o KQ aU (bI.aW (by rw[hsz.o];simp)) sn sn sn⟩
 have h1:=hh.o 1 (v:=.int .i64 mQ) rfl;rotate_left
 ·have yh:=rq (hh.d 6 14);have hJ:=Hd hh.st;have hsz:=Hd hh.size;exact yX _ _ _ rfl (by simp[go_sem,yh]) (a0p mQ w1) ⟨_,rfl,bR.alloc hJ.o.sz _,trivial,WJ.a5i hJ.o sn (bI.aW (by rw[hsz.o];simp)) sn sn⟩
 ·have hsz:=Hd hh.size;obtain⟨g9,v9,w9,e15,hrn,KQ,aU⟩:=hh.st.run (hh.up 5 (by kernel_rfl)) (hh.up 7 (by kernel_rfl)) hh.un HPN.o;have h13:a.tmps[13]?.getD undef=bI.sl a 13:=by rw[← Array.getD_eq_getD_getElem?];rfl
  have h15:a.tmps[15]?.getD undef=.slice (some ⟨g9,0,none⟩) 1 1:=rq (e15);have hnd:L 9=false:=bQ (fun e=>(hh.st.d e).1) hh.un;have hJ:=Hd hh.st;refine vG _ _ bM bM bM rfl rfl (by simpa[go_sem] using h13) (by simpa[go_sem] using h15) hrn ⟨v9,rfl,aU,trivial,WJ.a5h hJ.o hnd KQ aU.size (bI.aW (by rw[hsz.o];simp))⟩
 ·have h16:a.tmps[16]?.getD undef=bI.sl a 16:=by rw[← Array.getD_eq_getD_getElem?];rfl
  have hup:=hh.up 8 (by kernel_rfl);have hJ:=Hd hh.st;have hsz:=Hd hh.size;clear hh;go_simp;exact⟨_,rfl,bR,trivial,WJ.a5g hJ.o hup sn sn sn (bI.aW (by rw[hsz.o];simp))⟩
 any_goals (have hJ:=hh.j;clear hh;go_simp;exact⟨_,rfl,bR,rfl,WJ.slots hJ.o sn sn sn sn⟩)
 intro L w4 val hL hJ hR hv;have HR4:=Hd hR;have hc:=hJ.c (hL 8 (by decide));obtain⟨-,hd⟩:=hJ.d (hL 9 (by decide));rw[← hd] at hc;have HC:=Hd hc;clear hv hL hJ hR hd hc;simp only[regs.aA,List.map_cons,List.map_nil];simp only[Act.put,List.setIfInBounds_toArray,List.set_cons_zero,List.set_cons_succ]
 skip
 go_wp2_with (fail);go_ret;exact⟨_,rfl,ai.weaken HC.o HB1.o.size,HB1.o.trans (HR4.o.mono HB1.o.size)⟩
theorem VD(wi aF M:Int)(tv:Value)(t:T)(m:Nat)(ok:Ok t)(hn:t.length<=1000)(k:Nat):∀(i:Int) (w:World),aK w tv t->has t i=true->depth t i<=k ->
  Calls prog 67 #[.agg #[.int .i64 wi,.int .i64 aF,.int .i64 M,tv,.map (some m)],.int .i64 i] w fun e w'=>∃v,e=.returned v∧aO w' w.heap.size v (fO t i)∧bz w w':=by
 induction k with
 | zero=>
  intro i w ht hh hd
  have h0:i=0:=by
   rcases ah.1 hh with e|e
   ·exact e
   ·rw[bH ok e] at hd;omega
  subst h0;exact VE wi aF M tv t m w ht
 | succ k ih=>
  intro i w ht hh hd;by_cases h0:i=0
  ·subst h0;exact VE wi aF M tv t m w ht
  have hi:=(ah.1 hh).resolve_left h0;rw[bH ok hi] at hd;exact a1d wi aF M tv t m ok hn i w ht hi fun W ht=>ih (par t i) W ht (ah.2 (ok.eX hi)) (by omega)
end
end Go.Proofs.YtekdoeilpheklaaGreat
