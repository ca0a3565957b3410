import Derived.Test.YthmegninhpihkaaGreatZHtE
set_option maxHeartbeats 16000000
set_option maxRecDepth 100000
open Go.Proofs.Tryz
namespace Go.Proofs.YthmegninhpihkaaGreat
section
open Go.RowKit fB fK aF Go.Maps
def Z2:List Value:=[.int .i64 0,.int .i64 0]
theorem JN.miss{B g:Nat}{zs cs:List Value}{iA iS:Bool}{v:Value}{w w':World}(h:JN B [] zs cs iA iS v w)(hne:iA=true->v≠.pointer (some ⟨g,0,none⟩))(hW:Wrote g w w'):JN B [] zs cs iA iS v w':=
 ⟨⟨trivial,by rw[hW.size];exact h.1.2.1,fun _ hp=>nomatch hp⟩,fun e=>by
  obtain⟨k,e1,hg,hB⟩:=h.2.1 e
  exact⟨k,e1,hg,hW.blk (fun e2=>hne e (by rw[e1,e2])) hB⟩,h.2.2⟩
structure J3(B:Nat)(c0 c1 c2:List Value)(a0 a1 a2 s0 s1 s2:Bool)(v0 v1 v2:Value)(w:World):Prop where
 x0:JN B [] Z2 c0 a0 s0 v0 w
 x1:JN B [] Z2 c1 a1 s1 v1 w
 x2:JN B [] Z2 c2 a2 s2 v2 w
 n01:a0=true->a1=true->v0≠v1
 n12:a1=true->a2=true->v1≠v2
 n20:a2=true->a0=true->v2≠v0
section
variable {B g:Nat}{c0 c1 c2:List Value}{a0 a1 a2 s0 s1 s2:Bool}{v0 v1 v2 u0 u1 u2:Value}{w w':World}{T:TypeId}
theorem J3.QP(h:J3 B c0 c1 c2 a0 a1 a2 s0 s1 s2 v0 v1 v2 w):J3 B c1 c2 c0 a1 a2 a0 s1 s2 s0 v1 v2 v0 w:=⟨h.x1,h.x2,h.x0,h.n12,h.n20,h.n01⟩
theorem J3.slots(h:J3 B c0 c1 c2 a0 a1 a2 s0 s1 s2 v0 v1 v2 w)(e0:u0=v0)(e1:u1=v1)(e2:u2=v2):J3 B c0 c1 c2 a0 a1 a2 s0 s1 s2 u0 u1 u2 w:=by rw[e0,e1,e2];exact h
theorem J3.below(h:J3 B c0 c1 c2 a0 a1 a2 s0 s1 s2 v0 v1 v2 w)(hb:bz w w'):J3 B c0 c1 c2 a0 a1 a2 s0 s1 s2 v0 v1 v2 w':=⟨h.x0.below hb,h.x1.below hb,h.x2.below hb,h.n01,h.n12,h.n20⟩
theorem JN.away{cs:List Value}{iA iS:Bool}{v:Value}(h:JN B [] Z2 cs iA iS v w)(e:iA=true):v≠.pointer (some ⟨w.heap.size,0,none⟩):=by
 obtain⟨k,e1,-,hB⟩:=h.2.1 e;have:=hB.inside;rw[e1];intro e
 injection e with e
 injection e with e
 injection e with e
 omega
theorem J3.new(h:J3 B c0 c1 c2 a0 a1 a2 s0 s1 s2 v0 v1 v2 w)(eA:a0=false)(e0:u0=.pointer (some ⟨w.heap.size,0,none⟩))(e1:u1=v1)(e2:u2=v2):J3 B c0 c1 c2 true a1 a2 s0 s1 s2 u0 u1 u2 (w.alloc (.cells Z2.toArray T)):=by
 rw[e1,e2];have hb:bz w (w.alloc (.cells Z2.toArray T)):=bR.alloc nR _;exact⟨h.x0.new eA e0,h.x1.below hb,h.x2.below hb,fun _ k=>by rw[e0];exact Ne.symm (h.x1.away k),h.n12,fun k _=>by rw[e0];exact h.x2.away k⟩
theorem J3.put(h:J3 B c0 c1 c2 a0 a1 a2 s0 s1 s2 v0 v1 v2 w)(eA:a0=true)(eS:s0=false)(ev:v0=.pointer (some ⟨g,0,none⟩))(hW:Wrote g w w')(hB:az w' g c0):J3 B c0 c1 c2 a0 a1 a2 true s1 s2 v0 v1 v2 w'∧Below B w w':=by
 obtain⟨h1,h2⟩:=h.x0.Ou eA eS ev hW hB rfl;exact⟨⟨h1,h.x1.miss (fun k=>by rw[←ev];exact Ne.symm (h.n01 eA k)) hW,h.x2.miss (fun k=>by rw[←ev];exact h.n20 k eA) hW,h.n01,h.n12,h.n20⟩,h2⟩
end
theorem uu(x e:Int)(w:World):(Instr.build 126 #[(0,.int .i64 x),(1,.int .i64 e)]).run prog w=.ok (.agg #[.int .i64 x,.int .i64 e]) w:=by kernel_rfl
theorem Zf(x y e1 e2:Int)(w:World):(Instr.buildSlice 172 2 #[(0,.agg #[.int .i64 x,.int .i64 e1]),(1,.agg #[.int .i64 y,.int .i64 e2])]).run prog w=.ok (.slice (some ⟨w.heap.size,0,none⟩) 2 2) (w.alloc (.cells (qX x y e1 e2).toArray 126)):=by kernel_rfl
def xH(m:Mp)(ok:Bool)(X Y:Int):Value:=if ok=true∧m.back.2=0 then .tuple (Vw (xE m.back.1 X Y).1 (xE m.back.1 X Y).2).toArray else .tuple Vs.toArray
def WQ(p:Pt):Prop:=(-1152921504606846976<=p.x∧p.x<=1152921504606846976)∧(-1152921504606846976<=p.y∧p.y<=1152921504606846976)
theorem MH{n:Int}(h:-9223372036854775808<=n∧n<=9223372036854775808):-1152921504606846976<=kG n 65536∧kG n 65536<=1152921504606846976:=by
 unfold kG;split<;>omega
theorem vS{b:Mp}(hb:b.right=true){x y:Int}(hx:-32768<=x∧x<=32767)(hy:-32768<=y∧y<=32767):WQ (b.from_ (pW x y)):=by
 obtain⟨hr,hx,hy⟩:=vY hb hx hy;obtain⟨ra,rb,rc,rd,re,rf⟩:=lH hr;have bu:-3221225472<=(pW x y).x - b.e∧(pW x y).x - b.e<=3221225472:=by omega
 have bv:-3221225472<=(pW x y).y - b.f∧(pW x y).y - b.f<=3221225472:=by omega
 have p1:=dX ra.1 ra.2 bu.1 bu.2;have p2:=dX rc.1 rc.2 bv.1 bv.2;have p3:=dX rb.1 rb.2 bu.1 bu.2;have p4:=dX rd.1 rd.2 bv.1 bv.2;exact⟨MH (by omega),MH (by omega)⟩
theorem CX{W:World}{g b9 m:Nat}{s:Sh}{Z:ZZ}{x:aN}(i X Y:Int)(h:au W g b9 m s Z x)(hx:oZ x)(hi:I64 i)(hX:mZ X)(hY:mZ Y) :
  Calls prog 15 (Vt g i X Y).toArray W (aX (xH (fD x i) (has x.t i) X Y) W):=by
 have Zn:=Hd (BU h i hi)
 have HR:Hid (has x.t i=true->(fD x i).right=true):=fun hh=>by
  unfold fD;rw[if_pos hh];exact ku hx.ok (fun i=>(hx.good i) |> fun h=>(jD h).1) (aj.1 hh) _ (hx.set i hh (fun _ _ h=>h) (fun h=>h))
 have Q4:=Hd (And.intro hX hY);generalize fD x i=u at*;generalize has x.t i=ok at*
 obtain⟨R,hR⟩:=aC u.back
 obtain⟨b,er⟩:=R
 have Fz:Hid (ok=true->er=0->b.right=true):=fun h1 h2=>by
  have h3:=zV (HR.o h1) (by (try show Below _ _ _);rw[hR];exact h2);rw[hR]at h3;exact h3
 have yE:Hid (∀w:World,Calls prog 36 #[.agg u.cs.toArray] w (aX (.tuple #[.agg b.cs.toArray,.int .i64 er]) w)):=fun w=>by
  have h:=MW u w;rw[hR]at h;exact h
 have IZ:Hid (xH u ok X Y=if ok=true∧er=0 then .tuple (Vw (xE b X Y).1 (xE b X Y).2).toArray else .tuple Vs.toArray):=by show _=_;unfold xH;rw[hR]
 clear h hx hi hX hY hR HR;go_enter func15,ntmps15;go_wp2_with (fail);refine Zn.o.mono ?_;rintro e w1 ⟨rfl,hb1⟩;have HB1:=Hd hb1;have HZ1:Hid (az (w1.alloc (.cells Vd.toArray 67)) w1.heap.size Vd):=aA w1 Vd _;have DK:Hid (bz w1 (w1.alloc (.cells Vd.toArray 67))):=bR.alloc nR _;clear hb1 Zn
 go_upto_region 2 with(first|(with_reducible refine gS ?_;first|(refine ay 67 _ _ rfl rfl rfl _ 0 rfl (u.cs) rfl (Vd) HZ1.o (u.cs) rfl (nE rfl) ag rfl ?_;intro w2 HW2 dn)))
 have HB2:Hid (bz W w2):=HB1.o.trans ((HW2.o.below DK.o nR).mono HB1.o.size);have i2:=dn.o.inside;clear HZ1 DK HW2 HB1;go_wp2_with (first|(with_reducible refine gL ?_;first|(refine wt 67 0 rfl rfl rfl dn.o (u.cs) rfl underlying67 rfl ?_)));refine(yE.o w2).mono ?_;rintro e w5 ⟨rfl,hb5⟩;have gI:Hid (bz W w5):=HB2.o.trans (hb5.mono HB2.o.size);have HZ5:Hid (az (w5.alloc (.cells Vd.toArray 117)) w5.heap.size Vd):=aA w5 Vd _
 have DK:Hid (Below w5.heap.size w5 (w5.alloc (.cells Vd.toArray 117))):=bR.alloc nR _;clear hb5 yE HB2 dn i2
 go_upto_region 3 with(first|(with_reducible refine gS ?_;first|(refine ay 117 _ _ rfl rfl rfl _ 0 rfl (b.cs) rfl (Vd) HZ5.o (b.cs) rfl (nE rfl) ag rfl ?_;intro w3 HW3 dL)))
 have HB3:Hid (bz W w3):=gI.o.trans ((HW3.o.below DK.o nR).mono gI.o.size)
 obtain⟨kb,hkb⟩:∃k,w5.heap.size=k:=⟨_,rfl⟩
 rw[hkb]at dL ⊢;clear HZ5 DK HW3 gI hkb;cases ok with
 |false=>
  have HV:Hid (xH u false X Y=.tuple Vs.toArray):=IZ.o.trans (if_neg (by simp));go_wp2_with (fail)
  go_ret3
  exact⟨by rw[HV.o];rfl,HB3.o⟩
 |true=>
 by_cases h0:er=0
 ·have t0:(er != 0)=false:=by simp[h0]
  have HV:Hid (xH u true X Y=.tuple (Vw (xE b X Y).1 (xE b X Y).2).toArray):=IZ.o.trans (if_pos ⟨rfl,h0⟩);have Ri:=Hd (Fz.o rfl h0);clear IZ Fz h0;have FB:Hid (∀W,bz w3 W->az W kb b.cs):=fun W hb=>dL.o.below' hb
  obtain⟨p0,hp0⟩:∃p,b.from_ (pW 0 0)=p:=⟨_,rfl⟩
  obtain⟨p1,hp1⟩:∃p,b.from_ (pW 1 0)=p:=⟨_,rfl⟩
  obtain⟨p2,hp2⟩:∃p,b.from_ (pW 0 1)=p:=⟨_,rfl⟩
  have HT0:Hid (∀w:World,Calls prog 37 #[.agg b.cs.toArray,.agg (pW 0 0).cs.toArray] w (aX (.agg p0.cs.toArray) w)):=fun w=>hp0 ▸ yh b (pW 0 0) w (vY Ri.o (by decide) (by decide));have HT1:Hid (∀w:World,Calls prog 37 #[.agg b.cs.toArray,.agg (pW 1 0).cs.toArray] w (aX (.agg p1.cs.toArray) w)):=fun w=>hp1 ▸ yh b (pW 1 0) w (vY Ri.o (by decide) (by decide))
  have HT2:Hid (∀w:World,Calls prog 37 #[.agg b.cs.toArray,.agg (pW 0 1).cs.toArray] w (aX (.agg p2.cs.toArray) w)):=fun w=>hp2 ▸ yh b (pW 0 1) w (vY Ri.o (by decide) (by decide))
  have EU:Hid ((p1.x - p0.x=b.a∧p1.y - p0.y=b.b)∧(p2.x - p0.x=b.c∧p2.y - p0.y=b.d)∧(xE b X Y).1=(p0.x+(b.a*X+b.c*Y)) / 65536∧(xE b X Y).2=(p0.y+(b.b*X+b.d*Y)) / 65536):=by
   have e1:=zL b 1 0;have e2:=zL b 0 1;have e3:=zL b X Y;rw[hp0,hp1]at e1;rw[hp0,hp2]at e2;rw[hp0]at e3;unfold xE;rw[e3.1,e3.2];simp only[Int.mul_one,Int.mul_zero,Int.add_zero,Int.zero_add]at e1 e2;refine⟨⟨by omega,by omega⟩,⟨by omega,by omega⟩,rfl,rfl⟩
  have BN:Hid (WQ p0∧WQ p1∧WQ p2∧(jw b.a∧jw b.b)∧jw b.c∧jw b.d):=by
   obtain⟨r1,r2,r3,r4,-,-⟩:=lH Ri.o;refine⟨hp0 ▸ vS Ri.o (by decide) (by decide),hp1 ▸ vS Ri.o (by decide) (by decide),hp2 ▸ vS Ri.o (by decide) (by decide),⟨?_,?_⟩,?_,?_⟩<;>(unfold jw;omega)
  clear hp0 hp1 hp2 Ri
  go_upto_region 5 with(fail)
  refine QO (Below w3.heap.size) (fun L V wx=>J3 w3.heap.size p0.cs p1.cs p2.cs (L 9) (L 10) (L 11) (L 12) (L 13) (L 14) (V 14) (V 15) (V 16) wx) [34,35,36,37,38,39,40,41,42,14,15,16] (fun _=>bR) (fun _ _ _ h k=>h.trans k) (fun i=>match i with
   |0|3|6=>rV (.agg (b.cs).toArray)
   |1=>rV (.agg ((pW 0 0).cs).toArray)
   |2=>rV (.agg (p0.cs).toArray)
   |4=>rV (.agg ((pW 1 0).cs).toArray)
   |5=>rV (.agg (p1.cs).toArray)
   |7=>rV (.agg ((pW 0 1).cs).toArray)
   |8=>rV (.agg (p2.cs).toArray)
   |_=>ra) (bR.drew) (⟨JN.start (old:=[]) trivial,JN.start (old:=[]) trivial,JN.start (old:=[]) trivial,nofun,nofun,nofun⟩) ⟨?_,?_,?_,?_,?_,?_,?_,?_,?_,?_,?_,?_,?_,?_,?_,trivial⟩ ?_
  any_goals (first|refine fM fun L a w1 hh=>?_|fail)
  ·have h12:=hh.p 12 kb 0;have hB:=Hd (FB.o _ hh.rel);have hJ:=Hd hh.st;exact aK 117 _ rfl kb 0 (by simpa[go_sem]using h12) _ hB.o (b.cs) rfl _ underlying117 rfl ag ⟨_,rfl,bR,rfl,J3.slots hJ.o sn sn sn⟩
  ·have hC:=Hd (oP 0 0 w1 (by constructor<;>decide) (by constructor<;>decide));have hJ:=hh.j;clear hh;go_simp;refine hC.o.mono ?_;rintro e w9 ⟨rfl,bC⟩;exact⟨_,rfl,bC.mono hJ.o.x0.1.2.1,rfl,J3.slots (J3.below hJ.o bC) sn sn sn⟩
  ·have We:=rq (hh.d 0 34);have h35:=rq (hh.d 1 35);have hC:=Hd (HT0.o w1);have hJ:=hh.j;clear hh;go_simp;refine hC.o.mono ?_;rintro e w9 ⟨rfl,bC⟩;exact⟨_,rfl,bC.mono hJ.o.x0.1.2.1,rfl,J3.slots (J3.below hJ.o bC) sn sn sn⟩
  ·have h12:=hh.p 12 kb 0;have hB:=Hd (FB.o _ hh.rel);have hJ:=Hd hh.st;exact aK 117 _ rfl kb 0 (by simpa[go_sem]using h12) _ hB.o (b.cs) rfl _ underlying117 rfl ag ⟨_,rfl,bR,rfl,J3.slots hJ.o sn sn sn⟩
  ·have hC:=Hd (oP 1 0 w1 (by constructor<;>decide) (by constructor<;>decide));have hJ:=hh.j;clear hh;go_simp;refine hC.o.mono ?_;rintro e w9 ⟨rfl,bC⟩;exact⟨_,rfl,bC.mono hJ.o.x0.1.2.1,rfl,J3.slots (J3.below hJ.o bC) sn sn sn⟩
  ·have h37:=rq (hh.d 3 37);have h38:=rq (hh.d 4 38);have hC:=Hd (HT1.o w1);have hJ:=hh.j;clear hh;go_simp;refine hC.o.mono ?_;rintro e w9 ⟨rfl,bC⟩;exact⟨_,rfl,bC.mono hJ.o.x0.1.2.1,rfl,J3.slots (J3.below hJ.o bC) sn sn sn⟩
  ·have h12:=hh.p 12 kb 0;have hB:=Hd (FB.o _ hh.rel);have hJ:=Hd hh.st;exact aK 117 _ rfl kb 0 (by simpa[go_sem]using h12) _ hB.o (b.cs) rfl _ underlying117 rfl ag ⟨_,rfl,bR,rfl,J3.slots hJ.o sn sn sn⟩
  ·have hC:=Hd (oP 0 1 w1 (by constructor<;>decide) (by constructor<;>decide));have hJ:=hh.j;clear hh;go_simp;refine hC.o.mono ?_;rintro e w9 ⟨rfl,bC⟩;exact⟨_,rfl,bC.mono hJ.o.x0.1.2.1,rfl,J3.slots (J3.below hJ.o bC) sn sn sn⟩
  ·have V8:=rq (hh.d 6 40);have V7:=rq (hh.d 7 41);have hC:=Hd (HT2.o w1);have hJ:=hh.j;clear hh;go_simp;refine hC.o.mono ?_;rintro e w9 ⟨rfl,bC⟩;exact⟨_,rfl,bC.mono hJ.o.x0.1.2.1,rfl,J3.slots (J3.below hJ.o bC) sn sn sn⟩
  ·have hJ:=Hd hh.st;have hsz:=Hd hh.size;have hun:=Hd hh.un;clear hh;go_simp;exact⟨_,rfl,bR.alloc hJ.o.x0.1.2.1 _,trivial,(J3.new (hJ.o) hun.o (bM.bI (by rw[hsz.o];simp)) sn sn)⟩
  ·have hJ:=Hd hh.st;have hsz:=Hd hh.size;have hun:=Hd hh.un;clear hh;go_simp;exact⟨_,rfl,bR.alloc hJ.o.x0.1.2.1 _,trivial,(J3.new (hJ.o.QP) hun.o (bM.bI (by rw[hsz.o];simp)) sn sn).QP.QP⟩
  ·have hJ:=Hd hh.st;have hsz:=Hd hh.size;have hun:=Hd hh.un;clear hh;go_simp;exact⟨_,rfl,bR.alloc hJ.o.x0.1.2.1 _,trivial,(J3.new (hJ.o.QP.QP) hun.o (bM.bI (by rw[hsz.o];simp)) sn sn).QP⟩
  ·have V9:=rq (hh.d 2 36);have hup:=hh.up 9 ag;obtain⟨g9,vO,nD,gG⟩:=hh.st.x0.2.1 hup;have xK:a.tmps[14]?.getD undef=.pointer (some ⟨g9,0,none⟩):=rq (vO);rw[hh.un]at gG;have hJ:=Hd hh.st;have hun:=Hd hh.un;refine dw 121 _ _ rfl g9 0 (by simpa[go_sem]using xK) (p0.cs) (by simpa[go_sem]using V9) _ gG (nE rfl) ag (by rfl) ?_;intro w9 nG BD;have hP:=J3.put (hJ.o) hup hun.o vO nG BD;exact⟨undef,rfl,hP.2,trivial,hP.1⟩
  ·have TY:=rq (hh.d 5 39);have hup:=hh.up 10 ag;obtain⟨g9,vO,nD,gG⟩:=hh.st.x1.2.1 hup;have h15:a.tmps[15]?.getD undef=.pointer (some ⟨g9,0,none⟩):=rq (vO);rw[hh.un]at gG;have hJ:=Hd hh.st;have hun:=Hd hh.un;refine dw 121 _ _ rfl g9 0 (by simpa[go_sem]using h15) (p1.cs) (by simpa[go_sem]using TY) _ gG (nE rfl) ag (by rfl) ?_;intro w9 nG BD;have hP:=J3.put (hJ.o.QP) hup hun.o vO nG BD;exact⟨undef,rfl,hP.2,trivial,hP.1.QP.QP⟩
  ·have h42:=rq (hh.d 8 42);have hup:=hh.up 11 ag;obtain⟨g9,vO,nD,gG⟩:=hh.st.x2.2.1 hup;have h16:a.tmps[16]?.getD undef=.pointer (some ⟨g9,0,none⟩):=rq (vO);rw[hh.un]at gG;have hJ:=Hd hh.st;have hun:=Hd hh.un;refine dw 121 _ _ rfl g9 0 (by simpa[go_sem]using h16) (p2.cs) (by simpa[go_sem]using h42) _ gG (nE rfl) ag (by rfl) ?_;intro w9 nG BD;have hP:=J3.put (hJ.o.QP.QP) hup hun.o vO nG BD;exact⟨undef,rfl,hP.2,trivial,hP.1.QP⟩
  intro L w4 val hL hJ hR hv;have HR4:=Hd hR;obtain⟨g0,e14,-,hb0⟩:=hJ.x0.2.1 (hL 9 (by decide));rw[hL 12 (by decide)]at hb0;have HG0:Hid (az w4 g0 p0.cs):=hb0;obtain⟨g1,e15,-,hb1⟩:=hJ.x1.2.1 (hL 10 (by decide));rw[hL 13 (by decide)]at hb1;have HG1:Hid (az w4 g1 p1.cs):=hb1;obtain⟨g2,e16,-,hb2⟩:=hJ.x2.2.1 (hL 11 (by decide));rw[hL 14 (by decide)]at hb2;have HG2:Hid (az w4 g2 p2.cs):=hb2;clear hv hL hJ hR hb0 hb1 hb2;simp only[regs.aG,List.map_cons,List.map_nil];simp only[Act.put,List.setIfInBounds_toArray,List.set_cons_zero,List.set_cons_succ]
  skip
  rw[e14];clear e14;rw[e15];clear e15;rw[e16];clear e16;have Yh:Hid (az (w4.alloc (.cells (qX X Y b.a b.c).toArray 126)) w4.heap.size (qX X Y b.a b.c)):=aA w4 (qX X Y b.a b.c) _;have a1c:=Hd (zI p0.x X Y b.a b.c Q4.o.1 Q4.o.2 (by have:=BN.o.1.1;omega) BN.o.2.2.2.1.1 BN.o.2.2.2.2.1 w4.heap.size 2 _ Yh.o);rw[←EU.o.2.2.1]at a1c;have d1:=EU.o.1.1;have d2:=EU.o.2.1.1;have v1:wrap64 b.a=b.a:=IntWalk.wrap64_in _ (by have:=BN.o.2.2.2.1.1;unfold jw at this;omega)
  have v2:wrap64 b.c=b.c:=IntWalk.wrap64_in _ (by have:=BN.o.2.2.2.2.1;unfold jw at this;omega);obtain⟨⟨a0,a1⟩,-,ai⟩:=HG0.o.c2;obtain⟨⟨b0,b1⟩,-,bi⟩:=HG1.o.c2;obtain⟨⟨c0,c1⟩,-,ci⟩:=HG2.o.c2
  go_wp2_with (first|((with_reducible show wpList _ _ _ (Oper.mk (some 51) (Op.build _ _) _ _ _ _::_) _ _);refine eY _ _ rfl rfl (by simp[go_sem,v1]) (uu X b.a _) ?_)|((with_reducible show wpList _ _ _ (Oper.mk (some 58) (Op.build _ _) _ _ _ _::_) _ _);refine eY _ _ rfl rfl (by simp[go_sem,v2]) (uu Y b.c _) ?_)|((with_reducible refine gB ?_);refine jO _ _ _ rfl rfl (by simp[go_sem]) (Zf X Y b.a b.c _) ?_));refine a1c.o.mono ?_;rintro e w6 ⟨rfl,hb⟩
  have hb:bz w4 w6:=(bR.alloc nR _).trans (hb.mono (by simp));have sF:Hid (bz W w6):=HB3.o.trans ((HR4.o.trans (hb.mono HR4.o.size)).mono HB3.o.size);have HG0:=Hd (HG0.o.below' hb);have HG1:=Hd (HG1.o.below' hb);have HG2:=Hd (HG2.o.below' hb);clear hb d1 d2 v1 v2 a0 a1 ai b0 b1 bi c0 c1 ci Yh a1c HB3;have Dz:Hid (az (w6.alloc (.cells (qX X Y b.b b.d).toArray 126)) w6.heap.size (qX X Y b.b b.d)):=aA w6 (qX X Y b.b b.d) _
  have a1b:=Hd (zI p0.y X Y b.b b.d Q4.o.1 Q4.o.2 (by have:=BN.o.1.2;omega) BN.o.2.2.2.1.2 BN.o.2.2.2.2.2 w6.heap.size 2 _ Dz.o);rw[←EU.o.2.2.2]at a1b;have d1:=EU.o.1.2;have d2:=EU.o.2.1.2;have v1:wrap64 b.b=b.b:=IntWalk.wrap64_in _ (by have:=BN.o.2.2.2.1.2;unfold jw at this;omega);have v2:wrap64 b.d=b.d:=IntWalk.wrap64_in _ (by have:=BN.o.2.2.2.2.2;unfold jw at this;omega);obtain⟨⟨a0,a1⟩,-,ai⟩:=HG0.o.c2;obtain⟨⟨b0,b1⟩,-,bi⟩:=HG1.o.c2;obtain⟨⟨c0,c1⟩,-,ci⟩:=HG2.o.c2
  go_wp2_with (first|((with_reducible show wpList _ _ _ (Oper.mk (some 69) (Op.build _ _) _ _ _ _::_) _ _);refine eY _ _ rfl rfl (by simp[go_sem,v1]) (uu X b.b _) ?_)|((with_reducible show wpList _ _ _ (Oper.mk (some 76) (Op.build _ _) _ _ _ _::_) _ _);refine eY _ _ rfl rfl (by simp[go_sem,v2]) (uu Y b.d _) ?_)|((with_reducible refine gB ?_);refine jO _ _ _ rfl rfl (by simp[go_sem]) (Zf X Y b.b b.d _) ?_));refine a1b.o.mono ?_;rintro e w7 ⟨rfl,hb⟩
  have hb:bz w6 w7:=(bR.alloc nR _).trans (hb.mono (by simp));have sO:Hid (bz W w7):=sF.o.trans (hb.mono sF.o.size);clear hb d1 d2 v1 v2 a0 a1 ai b0 b1 bi c0 c1 ci Dz a1b;go_wp2_with (fail)
  go_ret3
  exact⟨by rw[HV.o];rfl,sO.o⟩
 ·have t0:(er != 0)=true:=by simp[h0]
  have HV:Hid (xH u true X Y=.tuple Vs.toArray):=IZ.o.trans (if_neg (fun e=>h0 e.2));clear h0;go_wp2_with (fail)
  go_ret3
  exact⟨by rw[HV.o];rfl,HB3.o⟩
end
section
open Go.RowKit fB fK aF Go.Maps
def hl1:dP:={ dP.o with k:=7,lk:=⟨1,3,3,0,0,0,[]⟩ }
def hl2:dP:={ dP.o with k:=1,i:=4 }
def hl3:dP:={ dP.o with k:=7,i:=4,lk:=⟨1,2,1,255,0,0,[]⟩ }
def J8:T:=[(4,0)]
theorem Y4{o:dP}(h:o∈[hl1,hl2,hl3]):lU o∧o.lk.l=[]:=by
 simp only[List.mem_cons,List.not_mem_nil,or_false]at h;rcases h with rfl|rfl|rfl<;>exact⟨⟨⟨by decide,by decide⟩,⟨by decide,by decide⟩,⟨by decide,(by intro z hz;cases hz),by decide⟩⟩,rfl⟩
def hlN:Int->Nd:=upd (upd (upd (fun _=>Nd.plain) 0 (bT Nd.plain hl1)) 4 Nd.plain) 4 (bT Nd.plain hl3)
theorem TS:aO 9 aN.new [hl1,hl2,hl3]=(⟨J8,hlN,upd (fun _=>Mp.one) 4 Mp.o⟩,3,0):=by
 have e1:fG 9 aN.new hl1=(⟨[],upd (fun _=>Nd.plain) 0 (bT Nd.plain hl1),fun _=>Mp.one⟩,0):=rfl;have e2:fG 9 ⟨[],upd (fun _=>Nd.plain) 0 (bT Nd.plain hl1),fun _=>Mp.one⟩ hl2=(⟨J8,upd (upd (fun _=>Nd.plain) 0 (bT Nd.plain hl1)) 4 Nd.plain,upd (fun _=>Mp.one) 4 Mp.o⟩,0):=rfl;have e3:fG 9 ⟨J8,upd (upd (fun _=>Nd.plain) 0 (bT Nd.plain hl1)) 4 Nd.plain,upd (fun _=>Mp.one) 4 Mp.o⟩ hl3=(⟨J8,hlN,upd (fun _=>Mp.one) 4 Mp.o⟩,0):=rfl;rw[cZ,e1];simp only[ne_eq,not_true_eq_false,if_false];rw[cZ,e2];simp only[ne_eq,not_true_eq_false,if_false];rw[cZ,e3]
 simp only[ne_eq,not_true_eq_false,if_false];rfl
theorem TR:4∈ids J8:=by decide
theorem TP:Ok J8:=(qN JI 4 0 0).1
theorem Hf:aQ J8 hlN 4=some Mp.one:=by
 rw[kP TP _ TR,show par J8 4=0 from by decide,jP]
 decide
noncomputable def zH:aN:=(bW 9 setSt aN.new [hl1,hl2,hl3]).1
theorem a0p:(setSt ⟨J8,hlN,upd (fun _=>Mp.one) 4 Mp.o⟩).2=0:=by
 unfold setSt;rw[if_pos fun i hi=>?_];rcases aj.1 hi with rfl|e
 ·show aQ J8 hlN 0≠none;rw[jP];simp
 ·obtain rfl:i=4:=by simpa[J8,ids]using e
  show aQ J8 hlN 4≠none;rw[Hf];simp
theorem zF:bW 9 setSt aN.new [hl1,hl2,hl3]=(zH,3,0):=by
 have h:(bW 9 setSt aN.new [hl1,hl2,hl3]).2=(3,0):=by
  unfold bW;rw[if_neg (by decide),TS,if_neg (by simp),if_neg (by rw[a0p];simp)];rfl
 unfold zH;rw[←h]
theorem lM:oZ zH:=by
 have:=aN.zk.apply (M:=9) (l:=[hl1,hl2,hl3]) fun o ho=>(Y4 ho).1;rw[zF]at this;exact this
theorem iR:zH.t=J8∧zH.nd=hlN:=by
 have h:=UC (by rw[zF]:(bW 9 setSt aN.new [hl1,hl2,hl3]).2.2=0);rw[TS]at h;exact⟨h.1,h.2.1⟩
theorem zG:zH.ws 0=Mp.one∧zH.ws 4=Mp.one:=by
 have h0:=lM.set 0 (by rw[iR.1];decide) (fun _ _ h=>h) (fun h=>h);have h4:=lM.set 4 (by rw[iR.1];decide) (fun _ _ h=>h) (fun h=>h);rw[iR.1,iR.2]at h0 h4;rw[jP]at h0;rw[Hf]at h4;exact⟨(Option.some.inj h0).symm,(Option.some.inj h4).symm⟩
theorem TQ:items zH=[⟨0,Mp.one,Mp.one,[],255,⟨1,3,3,0,0,0,[]⟩⟩,⟨4,Mp.one,Mp.one,[],255,⟨1,2,1,255,0,0,[]⟩⟩]:=by
 have d0:dO zH 0=some ⟨Mp.one,255,[]⟩:=by
  rw[Ag,zG.1,iR.2]
  decide
 have d4:dO zH 4=some ⟨Mp.one,255,[]⟩:=by
  rw[pV (by rw[iR.1];exact TP) (by rw[iR.1];exact TR),iR.1,show par J8 4=0 from by decide,d0,zG.2,iR.2]
  decide
 have i0:iQ zH 0=some ⟨0,Mp.one,Mp.one,[],255,⟨1,3,3,0,0,0,[]⟩⟩:=by
  unfold iQ;rw[d0,zG.1,iR.2];rfl
 have i4:iQ zH 4=some ⟨4,Mp.one,Mp.one,[],255,⟨1,2,1,255,0,0,[]⟩⟩:=by
  unfold iQ;rw[d4,zG.2,iR.2];rfl
 unfold items;rw[iR.1,show aF.walk J8 0=[0,4] from by decide];simp[i0,i4]
theorem yl:hits (items zH) 1 0=[4,0]∧hits (items zH) 2 0=[0]∧hits (items zH) 3 0=[]:=by
 rw[TQ]
 decide
theorem a0q:xH (fD zH 4) (has zH.t 4) 1 0=.tuple #[.int .i64 1,.int .i64 0,.bool true]:=by
 have e:fD zH 4=Mp.one:=by
  unfold fD;rw[iR.1,if_pos (by decide),zG.2]
 rw[e,iR.1];unfold xH;rw[if_pos ⟨by decide,by decide⟩,show xE Mp.one.back.1 1 0=(1,0) from by decide]
end
section
open Go.RowKit fB fK aF Go.Maps
theorem Qi(w:World):(Instr.build 85 #[(0,.int .i64 7),(8,.agg #[.int .i64 1,.int .i64 3,.int .i64 3,.int .u32 0,.int .i64 0,.int .i64 0,.slice none 0 0])]).run prog w=.ok (.agg (hl1.cs none 0).toArray) w:=by kernel_rfl
theorem Qh(w:World):(Instr.build 85 #[(0,.int .i64 1),(1,.int .i64 4)]).run prog w=.ok (.agg (hl2.cs none 0).toArray) w:=by kernel_rfl
theorem Qg(w:World):(Instr.build 85 #[(0,.int .i64 7),(1,.int .i64 4),(8,.agg #[.int .i64 1,.int .i64 2,.int .i64 1,.int .u32 255,.int .i64 0,.int .i64 0,.slice none 0 0])]).run prog w=.ok (.agg (hl3.cs none 0).toArray) w:=by kernel_rfl
theorem a0o:Xx (hits (items zH) 1 0)=.tuple #[.int .i64 4,.bool true]∧Xx (hits (items zH) 2 0)=.tuple #[.int .i64 0,.bool true]∧Xx (hits (items zH) 3 0)=.tuple #[.int .i64 0,.bool false]:=by
 rw[yl.1,yl.2.1,yl.2.2];exact⟨rfl,rfl,rfl⟩
def hlZ:ZZ:=⟨8,⟨8,9⟩,fun _=>False⟩
theorem TN:∀q∈[oN hl1,oN hl2,oN hl3],lU q.o∧q.o.lk.l=[]:=by
 intro q hq;simp only[List.mem_cons,List.not_mem_nil,or_false]at hq;rcases hq with rfl|rfl|rfl<;>exact Y4 (by simp[oN])
theorem gQ(w:World):Calls prog 8 #[] w (aX (.bool true) w):=by
 go_enter func8,ntmps8;go_wp2_with (fail);refine(SI (w:=w) hlZ (fun _ e=>e.elim) ⟨by decide,by decide⟩ ⟨by decide,by decide⟩ ⟨by decide,by decide⟩).mono ?_;rintro e w1 ⟨g,b,m,s,rfl,hs1,hb1,hf1,hg1⟩
 have FQ:Hid (UQ w g b m s hlZ aN.new w1):=⟨hs1,hf1,hb1⟩
 clear hs1 hb1 hf1 hg1;go_wp2_with (fail);refine(zT 3 3 0 w1).mono ?_;rintro e w2 ⟨rfl,hb2⟩;unfold Jg;have LK:=Hd (FQ.o.below hb2);clear hb2 FQ;go_wp2_with (first|((with_reducible show wpList _ _ _ (Oper.mk (some 25) (Op.build _ _) _ _ _ _::_) _ _);refine eY _ _ rfl rfl (by simp[go_sem]) (Qi _) ?_)|((with_reducible show wpList _ _ _ (Oper.mk (some 26) (Op.build _ _) _ _ _ _::_) _ _);refine eY _ _ rfl rfl (by simp[go_sem]) (Qh _) ?_));refine(zT 2 1 255 w2).mono ?_;rintro e w3 ⟨rfl,hb3⟩;unfold Jg;have gX:=Hd (LK.o.below hb3)
 clear hb3 LK;go_wp2_with (first|((with_reducible show wpList _ _ _ (Oper.mk (some 28) (Op.build _ _) _ _ _ _::_) _ _);refine eY _ _ rfl rfl (by simp[go_sem]) (Qg _) ?_)|((with_reducible refine gB ?_);refine jO _ _ _ rfl rfl (by simp[go_sem]) (a0K hl1 hl2 hl3 _) ?_));have FD:=Hd (OW (w:=w3) (S:=af b m s aN.new.t) gX.o.at_.inside [oN hl1,oN hl2,oN hl3] (fun q hq=>(TN q hq).2));rw[show[oN hl1,oN hl2,oN hl3].flatMap iT.cs=(oN hl1).cs++((oN hl2).cs++(oN hl3).cs) from by simp]at FD
 have gI:Hid (Below w3.heap.size w3 (w3.alloc (.cells ((oN hl1).cs++((oN hl2).cs++(oN hl3).cs)).toArray 85))):=bR.alloc nR _;generalize (w3.alloc (.cells ((oN hl1).cs++((oN hl2).cs++(oN hl3).cs)).toArray 85))=w5 at*;have rC:=Hd (gX.o.below gI.o);generalize w3.heap.size=k5 at*;have HAP:=Hd (applied rC.o.at_ aN.zk [oN hl1,oN hl2,oN hl3] (some ⟨k5,0,none⟩) 3 FD.o (fun q hq=>(TN q hq).1) (a1B rfl (by decide) (by simp)) (by simp));rw[show bW hlZ.2.2 setSt aN.new ([oN hl1,oN hl2,oN hl3].map (·.o))=(zH,3,0) from zF]at HAP
 unfold Bg at HAP;refine HAP.o.mono ?_;rintro e w6 ⟨s6,rfl,hs6,Ha⟩;have EX:=Hd (rC.o.turn hs6 Ha);have BO:Hid (zH.t.length<=900):=by show _<=_;rw[iR.1];decide
 clear hs6 Ha HAP rC FD gI gX;have HA6:=Hd (EI 1 0 EX.o.at_ lM BO.o);rw[a0o.1]at HA6;go_wp2_with (fail);refine HA6.o.mono ?_;rintro e w7 ⟨rfl,hb⟩;have IY:=Hd (EX.o.below hb);clear hb HA6 EX;have HA7:=Hd (EI 2 0 IY.o.at_ lM BO.o);rw[a0o.2.1]at HA7;go_wp2_with (fail);refine HA7.o.mono ?_;rintro e w8 ⟨rfl,hb⟩;have HM8:=Hd (IY.o.below hb);clear hb HA7 IY;have HA8:=Hd (EI 3 0 HM8.o.at_ lM BO.o);rw[a0o.2.2]at HA8;go_wp2_with (fail);refine HA8.o.mono ?_;rintro e w9 ⟨rfl,hb⟩;have FN:=Hd (HM8.o.below hb);clear hb HA8 HM8
 have HAL:=Hd (UG 1 0 FN.o.at_ lM BO.o);rw[yl.1]at HAL;go_wp2_with (fail);refine HAL.o.mono ?_;rintro e w10 ⟨v,rfl,ho,hb⟩;have LM:=Hd (FN.o.below hb);obtain⟨A,c,rfl,-,-,hr⟩:=ax.row ho ig;have HR:=Hd hr;have HLO:=Hd (CX 4 1 0 LM.o.at_ lM (by constructor<;>decide) (by constructor<;>decide) (by constructor<;>decide));rw[a0q]at HLO;clear hb ho hr HAL FN;go_wp2_with (fail);refine HLO.o.mono ?_;rintro e Ci ⟨rfl,hb⟩;have a01:=Hd (LM.o.below hb)
 obtain⟨g0,o0,rA,hc⟩:=(aW.below HR.o hb) (by simp)
 have c0:Ci.cell? ⟨g0,o0,none⟩=some (.int .i64 4):=hc 0 (by simp) 0 _ rfl;have i0:=World.block_lt_of_cell? Ci _ c0;subst rA;clear hb hc HR HLO LM;go_wp2_with (fail);go_ret;exact⟨rfl,a01.o.bel⟩
end
section
open Go.RowKit fB fK aF Go.Maps
theorem PH(A:Option Addr)(TL:List uQ)(c:Nat)(i:Int)(bb:Int×Int)(w:World)(h1:Lj w A TL)(_:TL.length*24<=140737488351232)(hi1:-9223372036854775808<=i)(hi2:i<=9223372036854775807) :
  Calls prog 4 #[.slice A TL.length c,.int .i64 i,.agg #[.int .i64 bb.1,.int .i64 bb.2]] w (aX (.bool true) w):=by
 obtain⟨X,Y⟩:=bb;simp only
 have HI:Hid (I64 i):=⟨hi1,hi2⟩
 have HT:=Hd h1;have HB0:Hid (bz w (w.alloc (.cells #[.int .i64 X,.int .i64 Y] 55))):=bR.alloc nR _;have mV:Hid (az (w.alloc (.cells #[.int .i64 X,.int .i64 Y] 55)) w.heap.size [.int .i64 X,.int .i64 Y]):=aA w [.int .i64 X,.int .i64 Y] _;clear h1 hi1 hi2;go_enter func4,ntmps4
 go_upto_region 1 with(fail)
 generalize (w.alloc (.cells #[.int .i64 X,.int .i64 Y] 55))=w0 at*;have a0:w0.cell? ⟨w.heap.size,0,none⟩=some (.int .i64 X):=mV.o.cell 0;have a1:w0.cell? ⟨w.heap.size,1,none⟩=some (.int .i64 Y):=mV.o.cell 1;have ai:=mV.o.inside
 go_quiet (fail)
 have HB1:Hid (bz w (w0.drewN nq)):=HB0.o.trans (dV.below ⟨_,rfl⟩ _);generalize (w0.drewN nq)=w1 at*;have iJ:=Hd (size_law TL A c w1 (HT.o.below HB1.o));clear a0 a1 ai HB0 mV;go_wp2_with (fail);refine iJ.o.mono ?_;unfold Zk;rintro e wa ⟨n,rfl,hn,a3R,hb1⟩;have iM:=Hd (HB1.o.trans (hb1.mono HB1.o.size));have Wv:=Hd hn;clear hb1 hn iJ a3R HB1;by_cases q0:n<0
 ·have t0:decide (n<0)=true:=decide_eq_true q0;clear q0;go_wp2_with (fail);refine(gQ _).mono ?_;rintro e wz ⟨rfl,hbz⟩;have iL:Hid (bz w wz):=(iM.o).trans (hbz.mono (iM.o).size);clear hbz;go_wp2_with (fail);go_ret;exact⟨rfl,iL.o⟩
 have t0:decide (n<0)=false:=decide_eq_false q0;by_cases q1:X < -16384
 ·have t1:decide (X < -16384)=true:=decide_eq_true q1;clear q1;go_wp2_with (fail);refine(gQ _).mono ?_;rintro e wz ⟨rfl,hbz⟩;have iL:Hid (bz w wz):=(iM.o).trans (hbz.mono (iM.o).size);clear hbz;go_wp2_with (fail);go_ret;exact⟨rfl,iL.o⟩
 have t1:decide (X < -16384)=false:=decide_eq_false q1;by_cases q3:Y < -16384
 ·have t3:decide (Y < -16384)=true:=decide_eq_true q3;clear q3;go_wp2_with (fail);refine(gQ _).mono ?_;rintro e wz ⟨rfl,hbz⟩;have iL:Hid (bz w wz):=(iM.o).trans (hbz.mono (iM.o).size);clear hbz;go_wp2_with (fail);go_ret;exact⟨rfl,iL.o⟩
 have t3:decide (Y < -16384)=false:=decide_eq_false q3;by_cases q2:16383<X
 ·have t2:decide (16383<X)=true:=decide_eq_true q2;clear q2;go_wp2_with (fail);refine(gQ _).mono ?_;rintro e wz ⟨rfl,hbz⟩;have iL:Hid (bz w wz):=(iM.o).trans (hbz.mono (iM.o).size);clear hbz;go_wp2_with (fail);go_ret;exact⟨rfl,iL.o⟩
 have t2:decide (16383<X)=false:=decide_eq_false q2;by_cases q4:16383<Y
 ·have t4:decide (16383<Y)=true:=decide_eq_true q4;clear q4;go_wp2_with (fail);refine(gQ _).mono ?_;rintro e wz ⟨rfl,hbz⟩;have iL:Hid (bz w wz):=(iM.o).trans (hbz.mono (iM.o).size);clear hbz;go_wp2_with (fail);go_ret;exact⟨rfl,iL.o⟩
 have t4:decide (16383<Y)=false:=decide_eq_false q4;have HF:Hid (fits TL):=Wv.o.1 (by omega)
 have Q4:Hid (mZ X∧mZ Y):=⟨⟨by omega,by omega⟩,by omega,by omega⟩
 clear q0 q1 q2 q3 q4 Wv;go_wp2_with (fail);refine(JH A TL c wa (HT.o.below iM.o) HF.o).mono ?_;unfold NW;rintro e wb ⟨g,b9,m,s,v,x,rfl,hm,hd,hx,hxl⟩;obtain⟨Ad,cd,dm,rfl,hdt,hdm⟩:=hd.ex;have VT:=Hd hdt;have WC:=Hd hdm;have HMb:=Hd hm;have HX:=Hd hx;have HXT:Hid (x.t.length<=900):=by show _<=_;omega
 clear hm hd hx hxl HT HF t0 t1 t2 t3 t4 hdt hdm;have HZb:Hid (az (wb.alloc (.cells Vf.toArray 30)) wb.heap.size Vf):=aA wb Vf _;have xC:Hid (Below wb.heap.size wb (wb.alloc (.cells Vf.toArray 30))):=bR.alloc nR _
 go_upto_region 5 with(first|(with_reducible refine gS ?_;first|(refine ay 30 _ _ rfl rfl rfl _ 0 rfl ((Vb 8 8 30 Ad x.t.length cd dm)) rfl (Vf) HZb.o ((Vb 8 8 30 Ad x.t.length cd dm)) rfl (nE rfl) ag rfl ?_;intro wc HWc HKc)))
 have Yz:Hid (Below wb.heap.size wb wc):=HWc.o.below xC.o nR;have HMc:=Hd (HMb.o.below Yz.o);have VT:=Hd (VT.o.below Yz.o);have WC:=Hd (WC.o.below Yz.o);have YA:=Hd (iM.o.trans (HMc.o.bel.mono iM.o.size))
 obtain⟨kd,hkd⟩:∃k,wb.heap.size=k:=⟨_,rfl⟩
 rw[hkd]at HKc ⊢;have HLC:=Hd (CX i X Y HMc.o.at_ HX.o HI.o Q4.o.1 Q4.o.2)
 have HWV:Hid (has x.t i=true->dN x.t x.nd i=(x.ws i,true)∧(x.ws i).right=true):=fun hj=>by
  have h1:=HX.o.set i hj (fun _ _ h=>h) (fun h=>h);have h2:=BV HX.o.ok (fun i=>(jD (HX.o.good i)).1) (aj.1 hj);rw[h1]at h2;refine⟨?_,ku HX.o.ok (fun i=>(jD (HX.o.good i)).1) (aj.1 hj) _ h1⟩;by_cases h3:(dN x.t x.nd i).2=true
  ·rw[if_pos h3]at h2
   injection h2 with h2
   rw[h2,←h3]
  ·rw[if_neg h3]at h2;cases h2
 clear HZb xC HWc HMb Yz iM hkd;go_wp2_with (fail);refine HLC.o.mono ?_;rintro e we ⟨rfl,hbe⟩;have HBe:=Hd (YA.o.trans (hbe.mono YA.o.size));have HKe:=Hd (HKc.o.below' hbe);have VT:=Hd (VT.o.below hbe);have WC:=Hd (WC.o.below hbe);have HHS:=Hd (P6 Ad x.t cd i we VT.o.ZQ (by have:=HXT.o;omega));have c3:=HKe.o.c 3 rfl;have k3:=HKe.o.inside;cases hh:has x.t i with
 |false=>
  have HV:Hid (xH (fD x i) (has x.t i) X Y=.tuple Vs.toArray):=by show _=_;unfold xH;rw[if_neg (by simp[hh])]
  rw[hh]at HHS HV;rw[HV.o];clear hbe HLC YA HKc HWV hh;go_wp2_with (fail);refine HHS.o.mono ?_;rintro e wf ⟨rfl,hbf⟩;have HBf:=Hd (HBe.o.trans (hbf.mono HBe.o.size));clear hbf c3 k3 HHS;go_wp2_with (fail);refine(gQ _).mono ?_;rintro e wz ⟨rfl,hbz⟩;have iL:Hid (bz w wz):=(HBf.o).trans (hbz.mono (HBf.o).size);clear hbz;go_wp2_with (fail);go_ret;exact⟨rfl,iL.o⟩
 |true=>
  obtain⟨hw1,hw2⟩:=HWV.o hh;have HW1:=Hd (Aa 8 8 30 (.slice Ad x.t.length cd) x.t dm x.nd HX.o.ok (by have:=HXT.o;omega) (depth x.t i) i);rw[hw1]at HW1;have HIV:=Hd (fun W=>a0f (x.ws i) W hw2)
  obtain⟨b,er,hR⟩:∃b er,(x.ws i).back=(b,er):=⟨_,_,rfl⟩
  rw[hR]at HIV
  have HV:Hid (xH (fD x i) (has x.t i) X Y=if er=0 then .tuple (Vw (xE b X Y).1 (xE b X Y).2).toArray else .tuple Vs.toArray):=by
   show _=_;unfold xH fD;rw[hh,if_pos rfl,hR];simp only[true_and]
  have Ri:Hid (er=0->b.right=true):=fun h=>by
   have h3:=zV hw2 (by (try show Below _ _ _);rw[hR];exact h);rw[hR]at h3;exact h3
  have WA:=Hd hh
  obtain⟨p,q,k9,hvv,hy9,PE⟩:∃p q k9,(if er=0 then Value.tuple (Vw (xE b X Y).1 (xE b X Y).2).toArray else .tuple Vs.toArray)=.tuple #[.int .i64 p,.int .i64 q,.bool k9]∧(er=0->p=(xE b X Y).1∧q=(xE b X Y).2∧k9=true)∧(er≠0->p=0∧q=0∧k9=false):=by
   by_cases h:er=0
   ·exact⟨_,_,_,if_pos h,fun _=>⟨rfl,rfl,rfl⟩,fun k=>absurd h k⟩
   ·exact⟨_,_,_,if_neg h,fun k=>absurd k h,fun _=>⟨rfl,rfl,rfl⟩⟩
  rw[hh]at HHS HV;rw[HV.o,hvv];have HY9:=Hd hy9;have HN9:=Hd PE;generalize x.ws i=u at*;clear hbe HLC YA HKc HWV hh hw1 hw2 hR hvv hy9 PE HV;go_wp2_with (fail);refine HHS.o.mono ?_;rintro e wf ⟨rfl,hbf⟩;have HBf:=Hd (HBe.o.trans (hbf.mono HBe.o.size));have HKf:=Hd (HKe.o.below' hbf);have HW2:=Hd (HW1.o wf (VT.o.below hbf) (WC.o.below hbf) WA.o nR);have k3:=HKf.o.inside;clear hbf c3 HHS HW1 HBe HKe VT WC
  go_wp2_with (first|(with_reducible refine gL ?_;first|(refine wt 30 0 rfl rfl rfl HKf.o ((Vb 8 8 30 Ad x.t.length cd dm)) rfl underlying30 rfl ?_)));refine HW2.o.mono ?_;rintro e wg ⟨rfl,hbg⟩;have HBg:=Hd (HBf.o.trans (hbg.mono HBf.o.size));have HZg:Hid (az (wg.alloc (.cells Vd.toArray 37)) wg.heap.size Vd):=aA wg Vd _;have DK:Hid (bz wg (wg.alloc (.cells Vd.toArray 37))):=bR.alloc nR _;clear hbg HW2 HBf HKf k3
  go_upto_region 11 with(first|(with_reducible refine gS ?_;first|(refine ay 37 _ _ rfl rfl rfl _ 0 rfl (u.cs) rfl (Vd) HZg.o (u.cs) rfl (nE rfl) ag rfl ?_;intro wh HWh HKh)))
  have HBh:=Hd (HBg.o.trans ((HWh.o.below DK.o nR).mono HBg.o.size));have k4:=HKh.o.inside;clear HZg DK HWh HBg;go_wp2_with (first|(with_reducible refine gL ?_;first|(refine wt 37 0 rfl rfl rfl HKh.o (u.cs) rfl underlying37 rfl ?_)));refine(HIV.o wh).mono ?_;rintro e wi ⟨rfl,hbi⟩;have HBi:=Hd (HBh.o.trans (hbi.mono HBh.o.size));have HZi:Hid (az (wi.alloc (.cells Vd.toArray 38)) wi.heap.size Vd):=aA wi Vd _;have DK:Hid (bz wi (wi.alloc (.cells Vd.toArray 38))):=bR.alloc nR _;clear hbi HIV HBh HKh k4
  unfold Mp.v
  go_upto_region 12 with(first|(with_reducible refine gS ?_;first|(refine ay 38 _ _ rfl rfl rfl _ 0 rfl (b.cs) rfl (Vd) HZi.o (b.cs) rfl (nE rfl) ag rfl ?_;intro wj HWj HKj)))
  have HBj:=Hd (HBi.o.trans ((HWj.o.below DK.o nR).mono HBi.o.size));have k5:=HKj.o.inside;clear HZi DK HWj HBi;by_cases h0:er=0
  ·have t0:(er != 0)=false:=by simp[h0]
   obtain⟨rfl,rfl,rfl⟩:=HY9.o h0;have HPL:=Hd (Kv b X Y wj (Ri.o h0) (by have:=Q4.o.1;unfold mZ at this;omega) (by have:=Q4.o.2;unfold mZ at this;omega));clear h0 HY9 HN9 Ri;generalize (xE b X Y).1=p at*;generalize (xE b X Y).2=q at*;go_wp2_with (first|(with_reducible refine gL ?_;first|(refine wt 38 0 rfl rfl rfl HKj.o (b.cs) rfl underlying38 rfl ?_)));refine HPL.o.mono ?_;rintro e wk ⟨rfl,hbk⟩;have HBk:=Hd (HBj.o.trans (hbk.mono HBj.o.size));clear hbk HPL k5;go_wp2_with (fail);refine(gQ wk).mono ?_;rintro e wz ⟨rfl,hbz⟩
   have iL:Hid (bz w wz):=(HBk.o).trans (hbz.mono (HBk.o).size);clear hbz;go_wp2_with (fail);go_ret;exact⟨rfl,iL.o⟩
  ·have t0:(er != 0)=true:=by simp[h0]
   obtain⟨rfl,rfl,rfl⟩:=HN9.o h0;clear h0 HY9 HN9 Ri k5;go_wp2_with (fail);refine(gQ wj).mono ?_;rintro e wz ⟨rfl,hbz⟩;have iL:Hid (bz w wz):=(HBj.o).trans (hbz.mono (HBj.o).size);clear hbz;go_wp2_with (fail);go_ret;exact⟨rfl,iL.o⟩
end
end Go.Proofs.YthmegninhpihkaaGreat
