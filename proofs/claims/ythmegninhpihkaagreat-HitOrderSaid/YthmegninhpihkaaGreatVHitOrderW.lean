import Derived.Test.YthmegninhpihkaaGreatVHtE
set_option maxHeartbeats 16000000
set_option maxRecDepth 100000
open Go.Proofs.Tryz
namespace Go.Proofs.YthmegninhpihkaaGreat
section
open Go.RowKit fG gm aF Go.Maps
def Z2:List Value:=[.int .i64 0,.int .i64 0]
theorem JN.miss{B g:Nat}{zs cs:List Value}{iA iS:Bool}{v:Value}{w w':World}(h:JN B [] zs cs iA iS v w)(hne:iA=true->v≠.pointer (some ⟨g,0,none⟩))(hW:Wrote g w w'):JN B [] zs cs iA iS v w':=
 ⟨⟨trivial,by rw[hW.size];exact h.1.2.1,fun _ hp=>nomatch hp⟩,fun e=>by
  obtain⟨k,e1,hg,hB⟩:=h.2.1 e
  exact⟨k,e1,hg,hW.blk (fun e2=>hne e (by rw[e1,e2])) hB⟩,h.2.2⟩
structure J3(B:Nat)(c0 c1 c2:List Value)(a0 a1 a2 s0 s1 s2:Bool)(v0 v1 v2:Value)(w:World):Prop where
 x0:JN B [] Z2 c0 a0 s0 v0 w
 x1:JN B [] Z2 c1 a1 s1 v1 w
 x2:JN B [] Z2 c2 a2 s2 v2 w
 n01:a0=true->a1=true->v0≠v1
 n12:a1=true->a2=true->v1≠v2
 n20:a2=true->a0=true->v2≠v0
section
variable {B g:Nat}{c0 c1 c2:List Value}{a0 a1 a2 s0 s1 s2:Bool}{v0 v1 v2 u0 u1 u2:Value}{w w':World}{T:TypeId}
theorem J3.QD(h:J3 B c0 c1 c2 a0 a1 a2 s0 s1 s2 v0 v1 v2 w):J3 B c1 c2 c0 a1 a2 a0 s1 s2 s0 v1 v2 v0 w:=⟨h.x1,h.x2,h.x0,h.n12,h.n20,h.n01⟩
theorem J3.slots(h:J3 B c0 c1 c2 a0 a1 a2 s0 s1 s2 v0 v1 v2 w)(e0:u0=v0)(e1:u1=v1)(e2:u2=v2):J3 B c0 c1 c2 a0 a1 a2 s0 s1 s2 u0 u1 u2 w:=by rw[e0,e1,e2];exact h
theorem J3.below(h:J3 B c0 c1 c2 a0 a1 a2 s0 s1 s2 v0 v1 v2 w)(hb:bz w w'):J3 B c0 c1 c2 a0 a1 a2 s0 s1 s2 v0 v1 v2 w':=⟨h.x0.below hb,h.x1.below hb,h.x2.below hb,h.n01,h.n12,h.n20⟩
theorem JN.away{cs:List Value}{iA iS:Bool}{v:Value}(h:JN B [] Z2 cs iA iS v w)(e:iA=true):v≠.pointer (some ⟨w.heap.size,0,none⟩):=by
 obtain⟨k,e1,-,hB⟩:=h.2.1 e;have:=hB.inside;rw[e1];intro e
 injection e with e
 injection e with e
 injection e with e
 omega
theorem J3.new(h:J3 B c0 c1 c2 a0 a1 a2 s0 s1 s2 v0 v1 v2 w)(eA:a0=false)(e0:u0=.pointer (some ⟨w.heap.size,0,none⟩))(e1:u1=v1)(e2:u2=v2):J3 B c0 c1 c2 true a1 a2 s0 s1 s2 u0 u1 u2 (w.alloc (.cells Z2.toArray T)):=by
 rw[e1,e2];have hb:bz w (w.alloc (.cells Z2.toArray T)):=bR.alloc nR _;exact⟨h.x0.new eA e0,h.x1.below hb,h.x2.below hb,fun _ k=>by rw[e0];exact Ne.symm (h.x1.away k),h.n12,fun k _=>by rw[e0];exact h.x2.away k⟩
theorem J3.put(h:J3 B c0 c1 c2 a0 a1 a2 s0 s1 s2 v0 v1 v2 w)(eA:a0=true)(eS:s0=false)(ev:v0=.pointer (some ⟨g,0,none⟩))(hW:Wrote g w w')(hB:az w' g c0):J3 B c0 c1 c2 a0 a1 a2 true s1 s2 v0 v1 v2 w'∧Below B w w':=by
 obtain⟨h1,h2⟩:=h.x0.Og eA eS ev hW hB rfl;exact⟨⟨h1,h.x1.miss (fun k=>by rw[←ev];exact Ne.symm (h.n01 eA k)) hW,h.x2.miss (fun k=>by rw[←ev];exact h.n20 k eA) hW,h.n01,h.n12,h.n20⟩,h2⟩
end
theorem uu(x e:Int)(w:World):(Instr.build 126 #[(0,.int .i64 x),(1,.int .i64 e)]).run prog w=.ok (.agg #[.int .i64 x,.int .i64 e]) w:=by kernel_rfl
theorem Y7(x y e1 e2:Int)(w:World):(Instr.buildSlice 172 2 #[(0,.agg #[.int .i64 x,.int .i64 e1]),(1,.agg #[.int .i64 y,.int .i64 e2])]).run prog w=.ok (.slice (some ⟨w.heap.size,0,none⟩) 2 2) (w.alloc (.cells (qX x y e1 e2).toArray 126)):=by kernel_rfl
def Gx(m:Mp)(ok:Bool)(X Y:Int):Value:=if ok=true∧m.back.2=0 then .tuple #[.int .i64 (Me m.back.1 X Y).1,.int .i64 (Me m.back.1 X Y).2,.bool true] else .tuple Vv.toArray
def WB(p:Pt):Prop:=(-1152921504606846976<=p.x∧p.x<=1152921504606846976)∧(-1152921504606846976<=p.y∧p.y<=1152921504606846976)
theorem LZ{n:Int}(h:-9223372036854775808<=n∧n<=9223372036854775808):-1152921504606846976<=lG n 65536∧lG n 65536<=1152921504606846976:=by
 unfold lG;split<;>omega
theorem vS{b:Mp}(hb:b.right=true){x y:Int}(hx:-32768<=x∧x<=32767)(hy:-32768<=y∧y<=32767):WB (b.from_ (rX x y)):=by
 obtain⟨hr,hx,hy⟩:=Aa hb hx hy;obtain⟨ra,rb,rc,rd,re,rf⟩:=pI hr;have bu:-3221225472<=(rX x y).x - b.e∧(rX x y).x - b.e<=3221225472:=by omega
 have bv:-3221225472<=(rX x y).y - b.f∧(rX x y).y - b.f<=3221225472:=by omega
 have p1:=gG ra.1 ra.2 bu.1 bu.2;have p2:=gG rc.1 rc.2 bv.1 bv.2;have p3:=gG rb.1 rb.2 bu.1 bu.2;have p4:=gG rd.1 rd.2 bv.1 bv.2;exact⟨LZ (by omega),LZ (by omega)⟩
theorem OW{W:World}{g b9 m:Nat}{s:Sh}{Z:ZZ}{x:aJ}(i X Y:Int)(h:ak W g b9 m s Z x)(hx:lV x)(hi:I64 i)(hX:vH X)(hY:vH Y) :
  Calls prog 15 (Vs g i X Y).toArray W (aZ (Gx (fZ x i) (has x.t i) X Y) W):=by
 have Zf:=Hd (BO h i hi)
 have HR:Hid (has x.t i=true->(fZ x i).right=true):=fun hh=>by
  unfold fZ;rw[if_pos hh];exact mF hx.ok (fun i=>(hx.good i) |> fun h=>(lJ h).1) (ah.1 hh) _ (hx.set i hh (fun _ _ h=>h) (fun h=>h))
 have HXY:=Hd (And.intro hX hY);generalize fZ x i=u at*;generalize has x.t i=ok at*
 obtain⟨R,hR⟩:=aC u.back
 obtain⟨b,er⟩:=R
 have EW:Hid (ok=true->er=0->b.right=true):=fun h1 h2=>by
  have h3:=He (HR.o h1) (by (try show Below _ _ _);rw[hR];exact h2);rw[hR]at h3;exact h3
 have yD:Hid (∀w:World,Calls prog 36 #[.agg u.cs.toArray] w (aZ (.tuple #[.agg b.cs.toArray,.int .i64 er]) w)):=fun w=>by
  have h:=ML u w;rw[hR]at h;exact h
 have IG:Hid (Gx u ok X Y=if ok=true∧er=0 then .tuple #[.int .i64 (Me b X Y).1,.int .i64 (Me b X Y).2,.bool true] else .tuple Vv.toArray):=by show _=_;unfold Gx;rw[hR]
 clear h hx hi hX hY hR HR;go_enter func15,ntmps15;go_wp2_with (fail);refine Zf.o.mono ?_;rintro e w1 ⟨rfl,hb1⟩;have HB1:=Hd hb1;have HZ1:Hid (az (w1.alloc (.cells Vd.toArray 67)) w1.heap.size Vd):=aA w1 Vd _;have NU:Hid (bz w1 (w1.alloc (.cells Vd.toArray 67))):=bR.alloc nR _;clear hb1 Zf
 go_upto_region 2 with(first|(with_reducible refine gS ?_;first|(refine ay 67 _ _ rfl rfl rfl _ 0 rfl (u.cs) rfl (Vd) HZ1.o (u.cs) rfl (nE rfl) ag rfl ?_;intro w2 HW2 dE)))
 have HB2:Hid (bz W w2):=HB1.o.trans ((HW2.o.below NU.o nR).mono HB1.o.size);have i2:=dE.o.inside;clear HZ1 NU HW2 HB1;go_wp2_with (first|(with_reducible refine gL ?_;first|(refine wt 67 0 rfl rfl rfl dE.o (u.cs) rfl underlying67 rfl ?_)));refine(yD.o w2).mono ?_;rintro e w5 ⟨rfl,hb5⟩;have gI:Hid (bz W w5):=HB2.o.trans (hb5.mono HB2.o.size);have HZ5:Hid (az (w5.alloc (.cells Vd.toArray 117)) w5.heap.size Vd):=aA w5 Vd _
 have NU:Hid (Below w5.heap.size w5 (w5.alloc (.cells Vd.toArray 117))):=bR.alloc nR _;clear hb5 yD HB2 dE i2
 go_upto_region 3 with(first|(with_reducible refine gS ?_;first|(refine ay 117 _ _ rfl rfl rfl _ 0 rfl (b.cs) rfl (Vd) HZ5.o (b.cs) rfl (nE rfl) ag rfl ?_;intro w3 HW3 dM)))
 have HB3:Hid (bz W w3):=gI.o.trans ((HW3.o.below NU.o nR).mono gI.o.size)
 obtain⟨kb,hkb⟩:∃k,w5.heap.size=k:=⟨_,rfl⟩
 rw[hkb]at dM ⊢;clear HZ5 NU HW3 gI hkb;cases ok with
 |false=>
  have HV:Hid (Gx u false X Y=.tuple Vv.toArray):=IG.o.trans (if_neg (by simp));go_wp2_with (fail)
  go_ret3
  exact⟨by rw[HV.o];rfl,HB3.o⟩
 |true=>
 by_cases h0:er=0
 ·have t0:(er != 0)=false:=by simp[h0]
  have HV:Hid (Gx u true X Y=.tuple #[.int .i64 (Me b X Y).1,.int .i64 (Me b X Y).2,.bool true]):=IG.o.trans (if_pos ⟨rfl,h0⟩);have Bg:=Hd (EW.o rfl h0);clear IG EW h0;have FB:Hid (∀W,bz w3 W->az W kb b.cs):=fun W hb=>dM.o.below' hb
  obtain⟨p0,hp0⟩:∃p,b.from_ (rX 0 0)=p:=⟨_,rfl⟩
  obtain⟨p1,hp1⟩:∃p,b.from_ (rX 1 0)=p:=⟨_,rfl⟩
  obtain⟨p2,hp2⟩:∃p,b.from_ (rX 0 1)=p:=⟨_,rfl⟩
  have HT0:Hid (∀w:World,Calls prog 37 #[.agg b.cs.toArray,.agg (rX 0 0).cs.toArray] w (aZ (.agg p0.cs.toArray) w)):=fun w=>hp0 ▸ yg b (rX 0 0) w (Aa Bg.o (by decide) (by decide));have HT1:Hid (∀w:World,Calls prog 37 #[.agg b.cs.toArray,.agg (rX 1 0).cs.toArray] w (aZ (.agg p1.cs.toArray) w)):=fun w=>hp1 ▸ yg b (rX 1 0) w (Aa Bg.o (by decide) (by decide))
  have HT2:Hid (∀w:World,Calls prog 37 #[.agg b.cs.toArray,.agg (rX 0 1).cs.toArray] w (aZ (.agg p2.cs.toArray) w)):=fun w=>hp2 ▸ yg b (rX 0 1) w (Aa Bg.o (by decide) (by decide))
  have EG:Hid ((p1.x - p0.x=b.a∧p1.y - p0.y=b.b)∧(p2.x - p0.x=b.c∧p2.y - p0.y=b.d)∧(Me b X Y).1=(p0.x+(b.a*X+b.c*Y)) / 65536∧(Me b X Y).2=(p0.y+(b.b*X+b.d*Y)) / 65536):=by
   have e1:=zJ b 1 0;have e2:=zJ b 0 1;have e3:=zJ b X Y;rw[hp0,hp1]at e1;rw[hp0,hp2]at e2;rw[hp0]at e3;unfold Me;rw[e3.1,e3.2];simp only[Int.mul_one,Int.mul_zero,Int.add_zero,Int.zero_add]at e1 e2;refine⟨⟨by omega,by omega⟩,⟨by omega,by omega⟩,rfl,rfl⟩
  have BL:Hid (WB p0∧WB p1∧WB p2∧(jB b.a∧jB b.b)∧jB b.c∧jB b.d):=by
   obtain⟨r1,r2,r3,r4,-,-⟩:=pI Bg.o;refine⟨hp0 ▸ vS Bg.o (by decide) (by decide),hp1 ▸ vS Bg.o (by decide) (by decide),hp2 ▸ vS Bg.o (by decide) (by decide),⟨?_,?_⟩,?_,?_⟩<;>(unfold jB;omega)
  clear hp0 hp1 hp2 Bg
  go_upto_region 5 with(fail)
  refine QC (Below w3.heap.size) (fun L V wx=>J3 w3.heap.size p0.cs p1.cs p2.cs (L 9) (L 10) (L 11) (L 12) (L 13) (L 14) (V 14) (V 15) (V 16) wx) [34,35,36,37,38,39,40,41,42,14,15,16] (fun _=>bR) (fun _ _ _ h k=>h.trans k) (fun i=>match i with
   |0|3|6=>rV (.agg (b.cs).toArray)
   |1=>rV (.agg ((rX 0 0).cs).toArray)
   |2=>rV (.agg (p0.cs).toArray)
   |4=>rV (.agg ((rX 1 0).cs).toArray)
   |5=>rV (.agg (p1.cs).toArray)
   |7=>rV (.agg ((rX 0 1).cs).toArray)
   |8=>rV (.agg (p2.cs).toArray)
   |_=>ra) (bR.drew) (⟨JN.start (old:=[]) trivial,JN.start (old:=[]) trivial,JN.start (old:=[]) trivial,nofun,nofun,nofun⟩) ⟨?_,?_,?_,?_,?_,?_,?_,?_,?_,?_,?_,?_,?_,?_,?_,trivial⟩ ?_
  any_goals (first|refine fK fun L a w1 hh=>?_|fail)
  ·have h12:=hh.p 12 kb 0;have hB:=Hd (FB.o _ hh.rel);have hJ:=Hd hh.st;exact aK 117 _ rfl kb 0 (by simpa[go_sem]using h12) _ hB.o (b.cs) rfl _ underlying117 rfl ag ⟨_,rfl,bR,rfl,J3.slots hJ.o sn sn sn⟩
  ·have hC:=Hd (oK 0 0 w1 (by constructor<;>decide) (by constructor<;>decide));have hJ:=hh.j;clear hh;go_simp;refine hC.o.mono ?_;rintro e w9 ⟨rfl,bD⟩;exact⟨_,rfl,bD.mono hJ.o.x0.1.2.1,rfl,J3.slots (J3.below hJ.o bD) sn sn sn⟩
  ·have Xm:=rq (hh.d 0 34);have h35:=rq (hh.d 1 35);have hC:=Hd (HT0.o w1);have hJ:=hh.j;clear hh;go_simp;refine hC.o.mono ?_;rintro e w9 ⟨rfl,bD⟩;exact⟨_,rfl,bD.mono hJ.o.x0.1.2.1,rfl,J3.slots (J3.below hJ.o bD) sn sn sn⟩
  ·have h12:=hh.p 12 kb 0;have hB:=Hd (FB.o _ hh.rel);have hJ:=Hd hh.st;exact aK 117 _ rfl kb 0 (by simpa[go_sem]using h12) _ hB.o (b.cs) rfl _ underlying117 rfl ag ⟨_,rfl,bR,rfl,J3.slots hJ.o sn sn sn⟩
  ·have hC:=Hd (oK 1 0 w1 (by constructor<;>decide) (by constructor<;>decide));have hJ:=hh.j;clear hh;go_simp;refine hC.o.mono ?_;rintro e w9 ⟨rfl,bD⟩;exact⟨_,rfl,bD.mono hJ.o.x0.1.2.1,rfl,J3.slots (J3.below hJ.o bD) sn sn sn⟩
  ·have h37:=rq (hh.d 3 37);have h38:=rq (hh.d 4 38);have hC:=Hd (HT1.o w1);have hJ:=hh.j;clear hh;go_simp;refine hC.o.mono ?_;rintro e w9 ⟨rfl,bD⟩;exact⟨_,rfl,bD.mono hJ.o.x0.1.2.1,rfl,J3.slots (J3.below hJ.o bD) sn sn sn⟩
  ·have h12:=hh.p 12 kb 0;have hB:=Hd (FB.o _ hh.rel);have hJ:=Hd hh.st;exact aK 117 _ rfl kb 0 (by simpa[go_sem]using h12) _ hB.o (b.cs) rfl _ underlying117 rfl ag ⟨_,rfl,bR,rfl,J3.slots hJ.o sn sn sn⟩
  ·have hC:=Hd (oK 0 1 w1 (by constructor<;>decide) (by constructor<;>decide));have hJ:=hh.j;clear hh;go_simp;refine hC.o.mono ?_;rintro e w9 ⟨rfl,bD⟩;exact⟨_,rfl,bD.mono hJ.o.x0.1.2.1,rfl,J3.slots (J3.below hJ.o bD) sn sn sn⟩
  ·have VU:=rq (hh.d 6 40);have VT:=rq (hh.d 7 41);have hC:=Hd (HT2.o w1);have hJ:=hh.j;clear hh;go_simp;refine hC.o.mono ?_;rintro e w9 ⟨rfl,bD⟩;exact⟨_,rfl,bD.mono hJ.o.x0.1.2.1,rfl,J3.slots (J3.below hJ.o bD) sn sn sn⟩
  ·have hJ:=Hd hh.st;have hsz:=Hd hh.size;have hun:=Hd hh.un;clear hh;go_simp;exact⟨_,rfl,bR.alloc hJ.o.x0.1.2.1 _,trivial,(J3.new (hJ.o) hun.o (bM.bI (by rw[hsz.o];simp)) sn sn)⟩
  ·have hJ:=Hd hh.st;have hsz:=Hd hh.size;have hun:=Hd hh.un;clear hh;go_simp;exact⟨_,rfl,bR.alloc hJ.o.x0.1.2.1 _,trivial,(J3.new (hJ.o.QD) hun.o (bM.bI (by rw[hsz.o];simp)) sn sn).QD.QD⟩
  ·have hJ:=Hd hh.st;have hsz:=Hd hh.size;have hun:=Hd hh.un;clear hh;go_simp;exact⟨_,rfl,bR.alloc hJ.o.x0.1.2.1 _,trivial,(J3.new (hJ.o.QD.QD) hun.o (bM.bI (by rw[hsz.o];simp)) sn sn).QD⟩
  ·have Xl:=rq (hh.d 2 36);have hup:=hh.up 9 ag;obtain⟨g9,vO,mZ,gK⟩:=hh.st.x0.2.1 hup;have xI:a.tmps[14]?.getD undef=.pointer (some ⟨g9,0,none⟩):=rq (vO);rw[hh.un]at gK;have hJ:=Hd hh.st;have hun:=Hd hh.un;refine dn 121 _ _ rfl g9 0 (by simpa[go_sem]using xI) (p0.cs) (by simpa[go_sem]using Xl) _ gK (nE rfl) ag (by rfl) ?_;intro w9 ng BD;have hP:=J3.put (hJ.o) hup hun.o vO ng BD;exact⟨undef,rfl,hP.2,trivial,hP.1⟩
  ·have TD:=rq (hh.d 5 39);have hup:=hh.up 10 ag;obtain⟨g9,vO,mZ,gK⟩:=hh.st.x1.2.1 hup;have h15:a.tmps[15]?.getD undef=.pointer (some ⟨g9,0,none⟩):=rq (vO);rw[hh.un]at gK;have hJ:=Hd hh.st;have hun:=Hd hh.un;refine dn 121 _ _ rfl g9 0 (by simpa[go_sem]using h15) (p1.cs) (by simpa[go_sem]using TD) _ gK (nE rfl) ag (by rfl) ?_;intro w9 ng BD;have hP:=J3.put (hJ.o.QD) hup hun.o vO ng BD;exact⟨undef,rfl,hP.2,trivial,hP.1.QD.QD⟩
  ·have h42:=rq (hh.d 8 42);have hup:=hh.up 11 ag;obtain⟨g9,vO,mZ,gK⟩:=hh.st.x2.2.1 hup;have h16:a.tmps[16]?.getD undef=.pointer (some ⟨g9,0,none⟩):=rq (vO);rw[hh.un]at gK;have hJ:=Hd hh.st;have hun:=Hd hh.un;refine dn 121 _ _ rfl g9 0 (by simpa[go_sem]using h16) (p2.cs) (by simpa[go_sem]using h42) _ gK (nE rfl) ag (by rfl) ?_;intro w9 ng BD;have hP:=J3.put (hJ.o.QD.QD) hup hun.o vO ng BD;exact⟨undef,rfl,hP.2,trivial,hP.1.QD⟩
  intro L w4 val hL hJ hR hv;have HR4:=Hd hR;obtain⟨g0,e14,-,hb0⟩:=hJ.x0.2.1 (hL 9 (by decide));rw[hL 12 (by decide)]at hb0;have HG0:Hid (az w4 g0 p0.cs):=hb0;obtain⟨g1,e15,-,hb1⟩:=hJ.x1.2.1 (hL 10 (by decide));rw[hL 13 (by decide)]at hb1;have HG1:Hid (az w4 g1 p1.cs):=hb1;obtain⟨g2,e16,-,hb2⟩:=hJ.x2.2.1 (hL 11 (by decide));rw[hL 14 (by decide)]at hb2;have HG2:Hid (az w4 g2 p2.cs):=hb2;clear hv hL hJ hR hb0 hb1 hb2;simp only[regs.aG,List.map_cons,List.map_nil];simp only[Act.put,List.setIfInBounds_toArray,List.set_cons_zero,List.set_cons_succ]
  skip
  rw[e14];clear e14;rw[e15];clear e15;rw[e16];clear e16;have X9:Hid (az (w4.alloc (.cells (qX X Y b.a b.c).toArray 126)) w4.heap.size (qX X Y b.a b.c)):=aA w4 (qX X Y b.a b.c) _;have a05:=Hd (zG p0.x X Y b.a b.c HXY.o.1 HXY.o.2 (by have:=BL.o.1.1;omega) BL.o.2.2.2.1.1 BL.o.2.2.2.2.1 w4.heap.size 2 _ X9.o);rw[←EG.o.2.2.1]at a05;have d1:=EG.o.1.1;have d2:=EG.o.2.1.1;have v1:wrap64 b.a=b.a:=IntWalk.wrap64_in _ (by have:=BL.o.2.2.2.1.1;unfold jB at this;omega)
  have v2:wrap64 b.c=b.c:=IntWalk.wrap64_in _ (by have:=BL.o.2.2.2.2.1;unfold jB at this;omega);obtain⟨⟨a0,a1⟩,-,ai⟩:=HG0.o.c2;obtain⟨⟨b0,b1⟩,-,bi⟩:=HG1.o.c2;obtain⟨⟨c0,c1⟩,-,ci⟩:=HG2.o.c2
  go_wp2_with (first|((with_reducible show wpList _ _ _ (Oper.mk (some 51) (Op.build _ _) _ _ _ _::_) _ _);refine dQ _ _ rfl rfl (by simp[go_sem,v1]) (uu X b.a _) ?_)|((with_reducible show wpList _ _ _ (Oper.mk (some 58) (Op.build _ _) _ _ _ _::_) _ _);refine dQ _ _ rfl rfl (by simp[go_sem,v2]) (uu Y b.c _) ?_)|((with_reducible refine gB ?_);refine jv _ _ _ rfl rfl (by simp[go_sem]) (Y7 X Y b.a b.c _) ?_));refine a05.o.mono ?_;rintro e w6 ⟨rfl,hb⟩
  have hb:bz w4 w6:=(bR.alloc nR _).trans (hb.mono (by simp));have sD:Hid (bz W w6):=HB3.o.trans ((HR4.o.trans (hb.mono HR4.o.size)).mono HB3.o.size);have HG0:=Hd (HG0.o.below' hb);have HG1:=Hd (HG1.o.below' hb);have HG2:=Hd (HG2.o.below' hb);clear hb d1 d2 v1 v2 a0 a1 ai b0 b1 bi c0 c1 ci X9 a05 HB3;have Dw:Hid (az (w6.alloc (.cells (qX X Y b.b b.d).toArray 126)) w6.heap.size (qX X Y b.b b.d)):=aA w6 (qX X Y b.b b.d) _
  have a04:=Hd (zG p0.y X Y b.b b.d HXY.o.1 HXY.o.2 (by have:=BL.o.1.2;omega) BL.o.2.2.2.1.2 BL.o.2.2.2.2.2 w6.heap.size 2 _ Dw.o);rw[←EG.o.2.2.2]at a04;have d1:=EG.o.1.2;have d2:=EG.o.2.1.2;have v1:wrap64 b.b=b.b:=IntWalk.wrap64_in _ (by have:=BL.o.2.2.2.1.2;unfold jB at this;omega);have v2:wrap64 b.d=b.d:=IntWalk.wrap64_in _ (by have:=BL.o.2.2.2.2.2;unfold jB at this;omega);obtain⟨⟨a0,a1⟩,-,ai⟩:=HG0.o.c2;obtain⟨⟨b0,b1⟩,-,bi⟩:=HG1.o.c2;obtain⟨⟨c0,c1⟩,-,ci⟩:=HG2.o.c2
  go_wp2_with (first|((with_reducible show wpList _ _ _ (Oper.mk (some 69) (Op.build _ _) _ _ _ _::_) _ _);refine dQ _ _ rfl rfl (by simp[go_sem,v1]) (uu X b.b _) ?_)|((with_reducible show wpList _ _ _ (Oper.mk (some 76) (Op.build _ _) _ _ _ _::_) _ _);refine dQ _ _ rfl rfl (by simp[go_sem,v2]) (uu Y b.d _) ?_)|((with_reducible refine gB ?_);refine jv _ _ _ rfl rfl (by simp[go_sem]) (Y7 X Y b.b b.d _) ?_));refine a04.o.mono ?_;rintro e w7 ⟨rfl,hb⟩
  have hb:bz w6 w7:=(bR.alloc nR _).trans (hb.mono (by simp));have sN:Hid (bz W w7):=sD.o.trans (hb.mono sD.o.size);clear hb d1 d2 v1 v2 a0 a1 ai b0 b1 bi c0 c1 ci Dw a04;go_wp2_with (fail)
  go_ret3
  exact⟨by rw[HV.o];rfl,sN.o⟩
 ·have t0:(er != 0)=true:=by simp[h0]
  have HV:Hid (Gx u true X Y=.tuple Vv.toArray):=IG.o.trans (if_neg (fun e=>h0 e.2));clear h0;go_wp2_with (fail)
  go_ret3
  exact⟨by rw[HV.o];rfl,HB3.o⟩
end
section
open Go.RowKit fG gm aF Go.Maps
def hl1:dH:={ dH.o with k:=7,lk:=⟨1,3,3,0,0,0,[]⟩ }
def hl2:dH:={ dH.o with k:=1,i:=4 }
def hl3:dH:={ dH.o with k:=7,i:=4,lk:=⟨1,2,1,255,0,0,[]⟩ }
def JO:T:=[(4,0)]
theorem YW{o:dH}(h:o∈[hl1,hl2,hl3]):kK o∧o.lk.l=[]:=by
 simp only[List.mem_cons,List.not_mem_nil,or_false]at h;rcases h with rfl|rfl|rfl<;>exact⟨⟨⟨by decide,by decide⟩,⟨by decide,by decide⟩,⟨by decide,(by intro z hz;cases hz),by decide⟩⟩,rfl⟩
def hlN:Int->Nd:=upd (upd (upd (fun _=>Nd.plain) 0 (bT Nd.plain hl1)) 4 Nd.plain) 4 (bT Nd.plain hl3)
theorem TA:aO 9 aJ.new [hl1,hl2,hl3]=(⟨JO,hlN,upd (fun _=>Mp.one) 4 Mp.o⟩,3,0):=by
 have e1:eU 9 aJ.new hl1=(⟨[],upd (fun _=>Nd.plain) 0 (bT Nd.plain hl1),fun _=>Mp.one⟩,0):=rfl;have e2:eU 9 ⟨[],upd (fun _=>Nd.plain) 0 (bT Nd.plain hl1),fun _=>Mp.one⟩ hl2=(⟨JO,upd (upd (fun _=>Nd.plain) 0 (bT Nd.plain hl1)) 4 Nd.plain,upd (fun _=>Mp.one) 4 Mp.o⟩,0):=rfl;have e3:eU 9 ⟨JO,upd (upd (fun _=>Nd.plain) 0 (bT Nd.plain hl1)) 4 Nd.plain,upd (fun _=>Mp.one) 4 Mp.o⟩ hl3=(⟨JO,hlN,upd (fun _=>Mp.one) 4 Mp.o⟩,0):=rfl;rw[bW,e1];simp only[ne_eq,not_true_eq_false,if_false];rw[bW,e2];simp only[ne_eq,not_true_eq_false,if_false];rw[bW,e3]
 simp only[ne_eq,not_true_eq_false,if_false];rfl
theorem Tz:4∈ids JO:=by decide
theorem Tu:Ok JO:=(qM Jt 4 0 0).1
theorem GM:aN JO hlN 4=some Mp.one:=by
 rw[kM Tu _ Tz,show par JO 4=0 from by decide,jQ]
 decide
noncomputable def zF:aJ:=(bK 9 setSt aJ.new [hl1,hl2,hl3]).1
theorem a0h:(setSt ⟨JO,hlN,upd (fun _=>Mp.one) 4 Mp.o⟩).2=0:=by
 unfold setSt;rw[if_pos fun i hi=>?_];rcases ah.1 hi with rfl|e
 ·show aN JO hlN 0≠none;rw[jQ];simp
 ·obtain rfl:i=4:=by simpa[JO,ids]using e
  show aN JO hlN 4≠none;rw[GM];simp
theorem zC:bK 9 setSt aJ.new [hl1,hl2,hl3]=(zF,3,0):=by
 have h:(bK 9 setSt aJ.new [hl1,hl2,hl3]).2=(3,0):=by
  unfold bK;rw[if_neg (by decide),TA,if_neg (by simp),if_neg (by rw[a0h];simp)];rfl
 unfold zF;rw[←h]
theorem lQ:lV zF:=by
 have:=aJ.zh.apply (M:=9) (l:=[hl1,hl2,hl3]) fun o ho=>(YW ho).1;rw[zC]at this;exact this
theorem iT:zF.t=JO∧zF.nd=hlN:=by
 have h:=Ig (by rw[zC]:(bK 9 setSt aJ.new [hl1,hl2,hl3]).2.2=0);rw[TA]at h;exact⟨h.1,h.2.1⟩
theorem zD:zF.ws 0=Mp.one∧zF.ws 4=Mp.one:=by
 have h0:=lQ.set 0 (by rw[iT.1];decide) (fun _ _ h=>h) (fun h=>h);have h4:=lQ.set 4 (by rw[iT.1];decide) (fun _ _ h=>h) (fun h=>h);rw[iT.1,iT.2]at h0 h4;rw[jQ]at h0;rw[GM]at h4;exact⟨(Option.some.inj h0).symm,(Option.some.inj h4).symm⟩
theorem Tv:items zF=[⟨0,Mp.one,Mp.one,[],255,⟨1,3,3,0,0,0,[]⟩⟩,⟨4,Mp.one,Mp.one,[],255,⟨1,2,1,255,0,0,[]⟩⟩]:=by
 have d0:dB zF 0=some ⟨Mp.one,255,[]⟩:=by
  rw[zY,zD.1,iT.2]
  decide
 have d4:dB zF 4=some ⟨Mp.one,255,[]⟩:=by
  rw[pR (by rw[iT.1];exact Tu) (by rw[iT.1];exact Tz),iT.1,show par JO 4=0 from by decide,d0,zD.2,iT.2]
  decide
 have i0:fA zF 0=some ⟨0,Mp.one,Mp.one,[],255,⟨1,3,3,0,0,0,[]⟩⟩:=by
  unfold fA;rw[d0,zD.1,iT.2];rfl
 have i4:fA zF 4=some ⟨4,Mp.one,Mp.one,[],255,⟨1,2,1,255,0,0,[]⟩⟩:=by
  unfold fA;rw[d4,zD.2,iT.2];rfl
 unfold items;rw[iT.1,show aF.walk JO 0=[0,4] from by decide];simp[i0,i4]
theorem yl:hits (items zF) 1 0=[4,0]∧hits (items zF) 2 0=[0]∧hits (items zF) 3 0=[]:=by
 rw[Tv]
 decide
theorem a0i:Gx (fZ zF 4) (has zF.t 4) 1 0=.tuple #[.int .i64 1,.int .i64 0,.bool true]:=by
 have e:fZ zF 4=Mp.one:=by
  unfold fZ;rw[iT.1,if_pos (by decide),zD.2]
 rw[e,iT.1];unfold Gx;rw[if_pos ⟨by decide,by decide⟩,show Me Mp.one.back.1 1 0=(1,0) from by decide]
end
section
open Go.RowKit fG gm aF Go.Maps
theorem P7(w:World):(Instr.build 85 #[(0,.int .i64 7),(8,.agg #[.int .i64 1,.int .i64 3,.int .i64 3,.int .u32 0,.int .i64 0,.int .i64 0,.slice none 0 0])]).run prog w=.ok (.agg (hl1.cs none 0).toArray) w:=by kernel_rfl
theorem P6(w:World):(Instr.build 85 #[(0,.int .i64 1),(1,.int .i64 4)]).run prog w=.ok (.agg (hl2.cs none 0).toArray) w:=by kernel_rfl
theorem P5(w:World):(Instr.build 85 #[(0,.int .i64 7),(1,.int .i64 4),(8,.agg #[.int .i64 1,.int .i64 2,.int .i64 1,.int .u32 255,.int .i64 0,.int .i64 0,.slice none 0 0])]).run prog w=.ok (.agg (hl3.cs none 0).toArray) w:=by kernel_rfl
theorem a0g:Xi (hits (items zF) 1 0)=.tuple #[.int .i64 4,.bool true]∧Xi (hits (items zF) 2 0)=.tuple #[.int .i64 0,.bool true]∧Xi (hits (items zF) 3 0)=.tuple #[.int .i64 0,.bool false]:=by
 rw[yl.1,yl.2.1,yl.2.2];exact⟨rfl,rfl,rfl⟩
def hlZ:ZZ:=⟨8,⟨8,9⟩,fun _=>False⟩
theorem Tt:∀q∈[oN hl1,oN hl2,oN hl3],kK q.o∧q.o.lk.l=[]:=by
 intro q hq;simp only[List.mem_cons,List.not_mem_nil,or_false]at hq;rcases hq with rfl|rfl|rfl<;>exact YW (by simp[oN])
theorem fE(w:World):Calls prog 8 #[] w (aZ (.bool true) w):=by
 go_enter func8,ntmps8;go_wp2_with (fail);refine(Sj (w:=w) hlZ (fun _ e=>e.elim) ⟨by decide,by decide⟩ ⟨by decide,by decide⟩ ⟨by decide,by decide⟩).mono ?_;rintro e w1 ⟨g,b,m,s,rfl,hs1,hb1,hf1,hg1⟩
 have E5:Hid (UC w g b m s hlZ aJ.new w1):=⟨hs1,hf1,hb1⟩
 clear hs1 hb1 hf1 hg1;go_wp2_with (fail);refine(rU 3 3 0 w1).mono ?_;rintro e w2 ⟨rfl,hb2⟩;unfold Gz;have Ll:=Hd (E5.o.below hb2);clear hb2 E5;go_wp2_with (first|((with_reducible show wpList _ _ _ (Oper.mk (some 25) (Op.build _ _) _ _ _ _::_) _ _);refine dQ _ _ rfl rfl (by simp[go_sem]) (P7 _) ?_)|((with_reducible show wpList _ _ _ (Oper.mk (some 26) (Op.build _ _) _ _ _ _::_) _ _);refine dQ _ _ rfl rfl (by simp[go_sem]) (P6 _) ?_));refine(rU 2 1 255 w2).mono ?_;rintro e w3 ⟨rfl,hb3⟩;unfold Gz;have gZ:=Hd (Ll.o.below hb3)
 clear hb3 Ll;go_wp2_with (first|((with_reducible show wpList _ _ _ (Oper.mk (some 28) (Op.build _ _) _ _ _ _::_) _ _);refine dQ _ _ rfl rfl (by simp[go_sem]) (P5 _) ?_)|((with_reducible refine gB ?_);refine jv _ _ _ rfl rfl (by simp[go_sem]) (a0C hl1 hl2 hl3 _) ?_));have Bf:=Hd (CO (w:=w3) (S:=af b m s aJ.new.t) gZ.o.at_.inside [oN hl1,oN hl2,oN hl3] (fun q hq=>(Tt q hq).2));rw[show[oN hl1,oN hl2,oN hl3].flatMap iK.cs=(oN hl1).cs++((oN hl2).cs++(oN hl3).cs) from by simp]at Bf
 have gI:Hid (Below w3.heap.size w3 (w3.alloc (.cells ((oN hl1).cs++((oN hl2).cs++(oN hl3).cs)).toArray 85))):=bR.alloc nR _;generalize (w3.alloc (.cells ((oN hl1).cs++((oN hl2).cs++(oN hl3).cs)).toArray 85))=w5 at*;have o8:=Hd (gZ.o.below gI.o);generalize w3.heap.size=k5 at*;have Wn:=Hd (applied o8.o.at_ aJ.zh [oN hl1,oN hl2,oN hl3] (some ⟨k5,0,none⟩) 3 Bf.o (fun q hq=>(Tt q hq).1) (a1A rfl (by decide) (by simp)) (by simp));rw[show bK hlZ.2.2 setSt aJ.new ([oN hl1,oN hl2,oN hl3].map (·.o))=(zF,3,0) from zC]at Wn
 unfold wV at Wn;refine Wn.o.mono ?_;rintro e w6 ⟨s6,rfl,hs6,BB⟩;have yB:=Hd (o8.o.turn hs6 BB);have AX:Hid (zF.t.length<=900):=by show _<=_;rw[iT.1];decide
 clear hs6 BB Wn o8 Bf gI gZ;have HA6:=Hd (Es 1 0 yB.o.at_ lQ AX.o);rw[a0g.1]at HA6;go_wp2_with (fail);refine HA6.o.mono ?_;rintro e w7 ⟨rfl,hb⟩;have IE:=Hd (yB.o.below hb);clear hb HA6 yB;have HA7:=Hd (Es 2 0 IE.o.at_ lQ AX.o);rw[a0g.2.1]at HA7;go_wp2_with (fail);refine HA7.o.mono ?_;rintro e w8 ⟨rfl,hb⟩;have HM8:=Hd (IE.o.below hb);clear hb HA7 IE;have HA8:=Hd (Es 3 0 HM8.o.at_ lQ AX.o);rw[a0g.2.2]at HA8;go_wp2_with (fail);refine HA8.o.mono ?_;rintro e w9 ⟨rfl,hb⟩;have EZ:=Hd (HM8.o.below hb);clear hb HA8 HM8
 have QW:=Hd (Aj 1 0 EZ.o.at_ lQ AX.o);rw[yl.1]at QW;go_wp2_with (fail);refine QW.o.mono ?_;rintro e w10 ⟨v,rfl,ho,hb⟩;have Lm:=Hd (EZ.o.below hb);obtain⟨A,c,rfl,-,-,hr⟩:=ax.row ho iR;have HR:=Hd hr;have HLO:=Hd (OW 4 1 0 Lm.o.at_ lQ (by constructor<;>decide) (by constructor<;>decide) (by constructor<;>decide));rw[a0i]at HLO;clear hb ho hr QW EZ;go_wp2_with (fail);refine HLO.o.mono ?_;rintro e BZ ⟨rfl,hb⟩;have a0V:=Hd (Lm.o.below hb)
 obtain⟨g0,o0,rA,hc⟩:=(aV.below HR.o hb) (by simp)
 have c0:BZ.cell? ⟨g0,o0,none⟩=some (.int .i64 4):=hc 0 (by simp) 0 _ rfl;have i0:=World.block_lt_of_cell? BZ _ c0;subst rA;clear hb hc HR HLO Lm;go_wp2_with (fail);go_ret;exact⟨rfl,a0V.o.bel⟩
end
section
open Go.RowKit fG gm aF Go.Maps
section
variable {t:T}
theorem yK(hn:(ids t).Nodup)(q:Int):kids (put (25,0) (kids t 0).length t) q=if q=0 then kids t q++[25] else kids t q:=by
 rw[nJ hn nR];by_cases h:q=0
 ·rw[if_pos h,if_pos h,h];unfold ins;rw[List.take_length,List.drop_length]
 ·rw[if_neg h,if_neg h]
theorem Cb(ok:Ok t):∀(n:Nat) (i:Int),i≠0->gW (put (25,0) (kids t 0).length t) n i=gW t n i
 |0,_,_=>rfl
 |n+1,i,h=>by
  show i::(kids _ i).flatMap (gW _ n)=i::(kids t i).flatMap (gW t n);rw[yK ok.nd,if_neg h]
  congr 1
  exact oI fun k hk=>Cb ok n k (ok.uK (ok.kid hk).1)
theorem Q8(ok:Ok t)(pO:25∉ids t):walk (put (25,0) (kids t 0).length t) 0=walk t 0++[25]:=by
 have okU:Ok (put (25,0) (kids t 0).length t):=ok.put pO (by decide) (by decide) (.inl rfl) _;rw[walk_eq okU,walk_eq ok,yK ok.nd,if_pos rfl,List.flatMap_append,List.cons_append]
 congr 2
 ·refine oI fun k hk=>?_;have hk1:=(ok.kid hk).1;unfold walk;rw[sZ ok.nd,Cb ok _ k (ok.uK hk1)];exact uU ok (t.length+1) (.inr hk1) (by omega)
 ·show walk _ 25++[]=[25];rw[List.append_nil,walk_eq okU,yK ok.nd,if_neg (by decide)]
  have:kids t 25=[]:=List.eq_nil_iff_forall_not_mem.2 fun k hk=>by
   rcases ok.pin _ (fU.1 hk) with e|e
   ·cases e
   ·exact pO e
  rw[this];rfl
theorem Fv(ok:Ok t)(pO:25∉ids t){i:Int}(hi:i=0∨i∈ids t):line (put (25,0) (kids t 0).length t) i=line t i:=by
 have okU:Ok (put (25,0) (kids t 0).length t):=ok.put pO (by decide) (by decide) (.inl rfl) _;refine ok.pV (P:=fun i=>line (put (25,0) (kids t 0).length t) i=line t i) (by rw[kJ,kJ]) (fun i hi ih=>?_) hi;have hne:i≠25:=fun e=>pO (e ▸ hi);rw[dJ okU (kU.2 (.inr hi)),dJ ok hi,xZ ok.nd pO,if_neg hne,ih]
theorem zK{α β:Type}{f g:α->β->β}{l:List α}(h:∀a∈l,∀b,f a b=g a b)(z:β):l.foldr f z=l.foldr g z:=by
 induction l with
 |nil=>rfl
 |cons a l ih=>rw[List.foldr_cons,List.foldr_cons,ih fun a ha=>h a (List.mem_cons_of_mem _ ha),h a List.mem_cons_self]
end
structure a0H(x y:aJ):Prop where
 a3H:lV y
 t:y.t=put (25,0) (kids x.t 0).length x.t
 nd:∀i,i≠25->y.nd i=x.nd i
theorem Q9{x y:aJ}(hx:lV x)(pO:has x.t 25=false)(h:a0H x y)(X Y:Int):∃z,(z=[]∨z=[25])∧hits (items y) X Y=z++hits (items x) X Y:=by
 have hn:25∉ids x.t:=fun e=>by rw[ah.2 (.inr e)]at pO;cases pO
 have hne:∀i,has x.t i=true->i≠25:=fun i hi e=>by rw[e,pO]at hi;cases hi
 have hln:∀i,has x.t i=true->∀a∈line x.t i,a≠25:=fun i hi a ha=>hne a (ah.2 (.inr (tY hx.ok (ah.1 hi) ha)))
 have hyh:∀i,has x.t i=true->has y.t i=true:=fun i hi=>by
  rw[h.t];rcases ah.1 hi with e|e
  ·exact ah.2 (.inl e)
  ·exact ah.2 (.inr (kU.2 (.inr e)))
 have hws:∀i,has x.t i=true->y.ws i=x.ws i:=fun i hi=>by
  have h1:=hx.set i hi (fun _ _ h=>h) (fun h=>h);have h2:=h.a3H.set i (hyh i hi) (fun _ _ h=>h) (fun h=>h)
  have e:aN y.t y.nd i=aN x.t x.nd i:=by
   unfold aN;rw[h.t,Fv hx.ok hn (ah.1 hi),h.nd 0 (by decide)];exact zK (fun a ha b=>by rw[h.nd a (hln i hi a ha)]) _
  rw[e,h1]at h2;exact(Option.some.inj h2).symm
 have hdn:∀i,has x.t i=true->dB y i=dB x i:=fun i hi=>by
  unfold dB;rw[h.t,Fv hx.ok hn (ah.1 hi),h.nd 0 (by decide),hws 0 (ah.2 (.inl rfl))];exact zK (fun a ha b=>by rw[h.nd a (hln i hi a ha),hws a (ah.2 (.inr (tY hx.ok (ah.1 hi) ha)))]) _
 have hit:∀i,has x.t i=true->fA y i=fA x i:=fun i hi=>by
  unfold fA;rw[hdn i hi,h.nd i (hne i hi),hws i hi]
 have hall:items y=items x++(fA y 25).toList:=by
  unfold items;rw[h.t,Q8 hx.ok hn,List.filterMap_append];rw[GZ fun i hi=>hit i ((jw hx.ok).1 hi)]
  congr 1
 have a3V:∀q,fA y 25=some q->q.i=25:=fun q hq=>by
  unfold fA at hq;cases hd:dB y 25 with
  |none=>rw[hd]at hq;cases hq
  |some d=>
   rw[hd,Option.bind_some]at hq;split at hq
   ·cases hq
   ·injection hq with hq
    rw[←hq]
 rw[hall];unfold hits;by_cases ho:MC [X,Y]=true
 ·rw[if_pos ho,if_pos ho,List.reverse_append,List.filter_append,List.map_append];refine⟨_,?_,rfl⟩;cases e:fA y 25 with
  |none=>exact .inl rfl
  |some q=>
   have hq:=a3V q e;show(List.map _ (List.filter _ [q]))=[]∨_;by_cases hc:q.covers X Y=true
   ·right;show(List.map _ (List.filter _ [q]))=[25];rw[List.filter_cons,if_pos hc];simp[hq]
   ·left;rw[List.filter_cons,if_neg hc];rfl
 ·rw[if_neg ho,if_neg ho];exact⟨[],.inl rfl,rfl⟩
def o7(n:Int):dH:={ dH.o with k:=1,i:=25,n:=n }
def pK:dH:={ dH.o with k:=7,i:=25,lk:=⟨1,4096,4096,0,0,0,[]⟩ }
theorem Tm(n:Int){o:dH}(h:o∈[o7 n,pK]):kK o∧o.lk.l=[]:=by
 simp only[List.mem_cons,List.not_mem_nil,or_false]at h;rcases h with rfl|rfl
 ·exact⟨⟨⟨(by show(-9223372036854775808:Int)<=25;decide),(by show(25:Int)<=9223372036854775807;decide)⟩,⟨(by show(-9223372036854775808:Int)<=0;decide),(by show(0:Int)<=9223372036854775807;decide)⟩,Xp⟩,rfl⟩
 ·exact⟨⟨⟨by decide,by decide⟩,⟨by decide,by decide⟩,⟨by decide,(by intro z hz;cases hz),by decide⟩⟩,rfl⟩
theorem Wv{M:Int}{x:aJ}{o:dH}(h:4<=o.k∧o.k<=8)(hz:(eU M x o).2=0):(eU M x o).1=⟨x.t,upd x.nd o.i (bT (x.nd o.i) o),x.ws⟩:=by
 have e:eU M x o=kQ x o:=by
  unfold eU;rw[if_neg (by omega),if_neg (by omega),if_neg (by omega),if_pos h]
 rw[e]at hz ⊢;unfold kQ at hz ⊢;split at hz
 ·cases hz
 ·rename_i h1
  rw[if_neg h1];split at hz
  ·rename_i h2
   exact absurd hz h2
  ·rename_i h2
   rw[if_neg h2]
theorem a0d{x:aJ}(hx:lV x)(pO:has x.t 25=false)(h:(bK 30 setSt x [o7 ((kids x.t 0).length:Nat),pK]).2.2=0):a0H x (bK 30 setSt x [o7 ((kids x.t 0).length:Nat),pK]).1:=by
 obtain⟨h1,h2,h3⟩:=Ig h;obtain⟨a1,a2,a3⟩:=Ik h3;obtain⟨b1,b2,b3⟩:=Ik a2;have e1:eU 30 x (o7 ((kids x.t 0).length:Nat))=dV 30 x 25 0 ((kids x.t 0).length:Nat):=rfl
 have ea:gJ x.t 25 0 ((kids x.t 0).length:Nat)=(put (25,0) (kids x.t 0).length x.t,0):=by
  unfold gJ;rw[if_neg (by decide),if_neg (by rw[pO];decide),if_neg (by rw[ah.2 (.inl rfl)];decide),if_neg (by omega),Int.toNat_natCast]
 have ec:(eU 30 x (o7 ((kids x.t 0).length:Nat))).1=⟨put (25,0) (kids x.t 0).length x.t,upd x.nd 25 Nd.plain,upd x.ws 25 Mp.o⟩:=by
  rw[e1]at a1 ⊢;unfold dV at a1 ⊢;rw[ea]at a1 ⊢;simp only[ne_eq,not_true_eq_false,if_false]at a1 ⊢;split at a1
  ·cases a1
  ·rename_i h4
   rw[if_neg h4]
 rw[ec]at b1 b3 a3;have e:=Wv (M:=30) (o:=pK) (by show(4:Int)<=7∧(7:Int)<=8;decide) b1;refine⟨hx.apply fun o ho=>(Tm _ ho).1,?_,fun i hi=>?_⟩
 ·rw[h1,a3,b3,e];rfl
 ·rw[h2,a3,b3,e];show upd (upd x.nd 25 Nd.plain) 25 _ i=_;rw[upd_ne _ hi,upd_ne _ hi]
end
section
open Go.RowKit fG gm aF Go.Maps
theorem PZ(n:Nat)(w:World):(Instr.build 85 #[(0,.int .i64 1),(1,.int .i64 25),(3,.int .i64 (n:Nat))]).run prog w=.ok (.agg ((o7 (n:Nat)).cs none 0).toArray) w:=by kernel_rfl
theorem PY(w:World):(Instr.build 85 #[(0,.int .i64 7),(1,.int .i64 25),(8,.agg #[.int .i64 1,.int .i64 4096,.int .i64 4096,.int .u32 0,.int .i64 0,.int .i64 0,.slice none 0 0])]).run prog w=.ok (.agg (pK.cs none 0).toArray) w:=by kernel_rfl
theorem Tj(n:Int):∀q∈[oN (o7 n),oN pK],kK q.o∧q.o.lk.l=[]:=by
 intro q hq;simp only[List.mem_cons,List.not_mem_nil,or_false]at hq;rcases hq with rfl|rfl<;>exact Tm n (by simp[oN])
theorem Pg(A:Option Addr)(TL:List uN)(c:Nat)(bb:Int×Int)(w:World)(h1:KN w A TL)(_:TL.length*24<=140737488351232) :
  Calls prog 6 #[.slice A TL.length c,.agg #[.int .i64 bb.1,.int .i64 bb.2]] w fun e w'=>e=.returned (.bool true)∧Below w.heap.size w w':=by
 obtain⟨X,Y⟩:=bb;simp only;have HT:=Hd h1;have HB0:Hid (Below w.heap.size w (w.alloc (.cells #[.int .i64 X,.int .i64 Y] 55))):=bR.alloc nR _;have oh:Hid (az (w.alloc (.cells #[.int .i64 X,.int .i64 Y] 55)) w.heap.size [.int .i64 X,.int .i64 Y]):=aA w [.int .i64 X,.int .i64 Y] _;clear h1;go_enter func6,ntmps6
 go_upto_region 1 with(fail)
 generalize (w.alloc (.cells #[.int .i64 X,.int .i64 Y] 55))=w0 at*
 obtain⟨ka,hka⟩:∃k,w.heap.size=k:=⟨_,rfl⟩
 have HKA:=Hd hka;rw[hka]at oh ⊢;clear hka;have iL:=Hd (size_law TL A c w0 (HT.o.below HB0.o));go_wp2_with (fail);refine iL.o.mono ?_;unfold Zc;rintro e wa ⟨n,rfl,hn,a3R,hb1⟩;have iO:=Hd (HB0.o.trans (hb1.mono HB0.o.size));have Vz:=Hd (oh.o.below' hb1);have V9:=Hd hn;have a0:wa.cell? ⟨ka,0,none⟩=some (.int .i64 X):=Vz.o.cell 0;have a1:wa.cell? ⟨ka,1,none⟩=some (.int .i64 Y):=Vz.o.cell 1;have ai:=Vz.o.inside;clear hb1 hn iL a3R HB0 oh;by_cases q0:n<0
 ·have t0:decide (n<0)=true:=decide_eq_true q0;clear q0;go_wp2_with (fail);refine(fE _).mono ?_;rintro e wz ⟨rfl,hbz⟩;have iD:Hid (Below w.heap.size w wz):=(iO.o).trans (hbz.mono (iO.o).size);clear hbz;go_wp2_with (fail);go_ret;exact⟨rfl,iD.o⟩
 have t0:decide (n<0)=false:=decide_eq_false q0;by_cases q1:X<0
 ·have t1:decide (X<0)=true:=decide_eq_true q1;clear q1;go_wp2_with (fail);refine(fE _).mono ?_;rintro e wz ⟨rfl,hbz⟩;have iD:Hid (Below w.heap.size w wz):=(iO.o).trans (hbz.mono (iO.o).size);clear hbz;go_wp2_with (fail);go_ret;exact⟨rfl,iD.o⟩
 have t1:decide (X<0)=false:=decide_eq_false q1;by_cases q2:Y<0
 ·have t2:decide (Y<0)=true:=decide_eq_true q2;clear q2;go_wp2_with (fail);refine(fE _).mono ?_;rintro e wz ⟨rfl,hbz⟩;have iD:Hid (Below w.heap.size w wz):=(iO.o).trans (hbz.mono (iO.o).size);clear hbz;go_wp2_with (fail);go_ret;exact⟨rfl,iD.o⟩
 have t2:decide (Y<0)=false:=decide_eq_false q2;by_cases q3:7<X
 ·have t3:decide (7<X)=true:=decide_eq_true q3;clear q3;go_wp2_with (fail);refine(fE _).mono ?_;rintro e wz ⟨rfl,hbz⟩;have iD:Hid (Below w.heap.size w wz):=(iO.o).trans (hbz.mono (iO.o).size);clear hbz;go_wp2_with (fail);go_ret;exact⟨rfl,iD.o⟩
 have t3:decide (7<X)=false:=decide_eq_false q3;by_cases q4:7<Y
 ·have t4:decide (7<Y)=true:=decide_eq_true q4;clear q4;go_wp2_with (fail);refine(fE _).mono ?_;rintro e wz ⟨rfl,hbz⟩;have iD:Hid (Below w.heap.size w wz):=(iO.o).trans (hbz.mono (iO.o).size);clear hbz;go_wp2_with (fail);go_ret;exact⟨rfl,iD.o⟩
 have t4:decide (7<Y)=false:=decide_eq_false q4;have HF:Hid (fits TL):=V9.o.1 (by omega);clear q0 q1 q2 q3 q4 V9;go_wp2_with (fail);clear a0 a1 ai;refine(Jr A TL c wa (HT.o.below iO.o) HF.o).mono ?_;unfold NK;rintro e wb ⟨g,b,m,s,v,x,rfl,hm,hd,hx,hxl⟩;obtain⟨Ad,cd,dm,rfl,-,-⟩:=hd.ex;have HKb:=Hd (Vz.o.below' hm.bel);have HMb:=Hd hm;have HX:=Hd hx;have Ze:=Hd hxl;have HXT:Hid (x.t.length<=900):=by show _<=_;omega
 have a4F:=Hd Vz.o;clear hm hd hx hxl HT HF t0 t1 t2 t3 t4 Vz;have HZb:Hid (az (wb.alloc (.cells Vf.toArray 30)) wb.heap.size Vf):=aA wb Vf _;have xE:Hid (bz wb (wb.alloc (.cells Vf.toArray 30))):=bR.alloc nR _
 go_upto_region 4 with(first|(with_reducible refine gS ?_;first|(refine ay 30 _ _ rfl rfl rfl _ 0 rfl ((Vb 8 8 30 Ad x.t.length cd dm)) rfl (Vf) HZb.o ((Vb 8 8 30 Ad x.t.length cd dm)) rfl (nE rfl) ag rfl ?_;intro wc HWc HKc)))
 have a08:Hid (bz wb wc):=HWc.o.below xE.o nR;have HMc:=Hd (HMb.o.below a08.o);have a2V:=Hd (HKb.o.below' a08.o);have a1c:=Hd (iO.o.trans (HMc.o.bel.mono iO.o.size));clear HZb xE HWc HKc HMb a08 HKb
 have HHA:=Hd (Wu (HMc.o.at_.below ((Below.refl _ wc).alloc nR (.cells #[.int .i64 25] 3))).tree (some ⟨wc.heap.size,0,none⟩) [25] 1 (fun _=>⟨_,0,rfl,fun j hj=>by
  match j,hj with
  |0,_=>exact(aA wc [.int .i64 25] _).cell 0⟩) (by intro z hz;rw[List.mem_singleton.1 hz];constructor<;>decide) (by simp))
 rw[show([25]:List Int).all (has x.t)=has x.t 25 from by simp]at HHA;obtain⟨⟨q0,-,-,-,-,-⟩,qi⟩:=HMc.o.at_.top;have hinv:=yh (.pointer (some ⟨b,0,none⟩));go_wp2_with (fail);refine HHA.o.mono ?_;rintro e wd ⟨rfl,hbd⟩;have hbd:bz wc wd:=(bR.alloc nR _).trans (hbd.mono (by simp));have HMd:=Hd (HMc.o.below hbd);have HKd:=Hd (a2V.o.below' hbd);have VI:=Hd (a1c.o.trans (hbd.mono a1c.o.size));clear hbd q0 qi hinv HHA HMc a2V a1c;cases pO:has x.t 25 with
 |true=>
  go_wp2_with (fail);refine(fE wd).mono ?_;rintro e wz ⟨rfl,hbz⟩;have iD:Hid (Below w.heap.size w wz):=(VI.o).trans (hbz.mono (VI.o).size);clear hbz;go_wp2_with (fail);go_ret;exact⟨rfl,iD.o⟩
 |false=>
  have QW:=Hd (Aj X Y HMd.o.at_ HX.o HXT.o);have AX:=Hd (GN X Y HX.o HXT.o);have H25:=Hd pO;have a0:wd.cell? ⟨ka,0,none⟩=some (.int .i64 X):=HKd.o.cell 0;have a1:wd.cell? ⟨ka,1,none⟩=some (.int .i64 Y):=HKd.o.cell 1;have ai:=HKd.o.inside;clear pO;go_wp2_with (fail);refine QW.o.mono ?_;rintro e we ⟨v1,rfl,ho1,hbe⟩;have UY:=Hd ho1;have HMe:=Hd (HMd.o.below hbe);have HKe:=Hd (HKd.o.below' hbe);have a1b:=Hd (VI.o.trans (hbe.mono VI.o.size));have HDE:Hid (bz wd we):=hbe
  have HIN:Hid (∀k,af b m s x.t k->k<wd.heap.size):=HMd.o.at_.inside;obtain⟨A1,n1,d1,rfl⟩:=ax.shape ho1;obtain⟨⟨q0,-,-,-,-,-⟩,qi⟩:=HMe.o.at_.top;have hinv:=ug (.pointer (some ⟨b,0,none⟩));have lD:=Hd (LW HMe.o.at_.tree (by have:=HXT.o;omega) 0 (by constructor<;>decide));unfold nU at lD;clear ho1 hbe a0 a1 ai QW HMd HKd VI;go_wp2_with (fail);refine lD.o.mono ?_;rintro e wf ⟨vk,rfl,hok,hbf⟩;obtain⟨Bk9,dk9,rfl,-,-,-⟩:=ax.row hok iR;have HMf:=Hd (HMe.o.below hbf);have HOf:=Hd (ax.below UY.o hbf);have HKf:=Hd (HKe.o.below' hbf)
  have a1a:=Hd (a1b.o.trans (hbf.mono a1b.o.size));have Zw:Hid (bz wd wf):=HDE.o.trans (hbf.mono HDE.o.size);have XP:=Hd (fun h=>a0d (x:=x) HX.o H25.o h)
  obtain⟨K,hK⟩:=aC ((kids x.t 0).length)
  rw[hK]at XP ⊢;clear hok hbf q0 qi hinv lD HMe HKe a1b UY HDE hK;go_wp2_with (((with_reducible show wpList _ _ _ (Oper.mk (some 64) (Op.build _ _) _ _ _ _::_) _ _);refine dQ _ _ rfl rfl (by simp[go_sem]) (PZ K _) ?_));refine(rU 4096 4096 0 wf).mono ?_;rintro e wg ⟨rfl,hbg⟩;unfold Gz;have HMg:=Hd (HMf.o.below hbg);have HOg:=Hd (ax.below HOf.o hbg);have Ye:=Hd (HKf.o.below' hbg);have a4P:=Hd (a1a.o.trans (hbg.mono a1a.o.size));have HDG:Hid (bz wd wg):=Zw.o.trans (hbg.mono Zw.o.size);clear hbg HMf HOf HKf a1a Zw
  go_wp2_with (first|((with_reducible show wpList _ _ _ (Oper.mk (some 66) (Op.build _ _) _ _ _ _::_) _ _);refine dQ _ _ rfl rfl (by simp[go_sem]) (PY _) ?_)|((with_reducible refine gB ?_);refine jv _ _ _ rfl rfl (by simp[go_sem]) (a0D (o7 (K:Nat)) pK _) ?_));have Bf:=Hd (CO (w:=wg) (S:=af b m s x.t) HMg.o.at_.inside [oN (o7 (K:Nat)),oN pK] (fun q hq=>(Tj _ q hq).2));rw[show[oN (o7 (K:Nat)),oN pK].flatMap iK.cs=(oN (o7 (K:Nat))).cs++(oN pK).cs from by simp]at Bf
  have gI:Hid (Below wg.heap.size wg (wg.alloc (.cells ((oN (o7 (K:Nat))).cs++(oN pK).cs).toArray 85))):=bR.alloc nR _;generalize (wg.alloc (.cells ((oN (o7 (K:Nat))).cs++(oN pK).cs).toArray 85))=w5 at*;have o8:=Hd (HMg.o.below gI.o);have HOh:=Hd (ax.below HOg.o gI.o);have HDH:Hid (bz wd w5):=HDG.o.trans (gI.o.mono HDG.o.size);generalize wg.heap.size=k5 at*
  have Wn:=Hd (applied o8.o.at_ HX.o [oN (o7 (K:Nat)),oN pK] (some ⟨k5,0,none⟩) 2 Bf.o (fun q hq=>(Tj _ q hq).1) (fun _=>⟨by simp,.inl (by have:=Ze.o;simp;omega)⟩) (by simp));rw[show bK (⟨8,⟨8,30⟩,fun _=>False⟩:ZZ).2.2 setSt x ([oN (o7 (K:Nat)),oN pK].map (·.o))=bK 30 setSt x [o7 (K:Nat),pK] from rfl]at Wn;have HYS:Hid (lV (bK 30 setSt x [o7 (K:Nat),pK]).1):=HX.o.apply fun o ho=>(Tm _ ho).1
  obtain⟨⟨y,r1,r2⟩,hR⟩:∃R,bK 30 setSt x [o7 (K:Nat),pK]=R:=⟨_,rfl⟩
  rw[hR]at Wn XP HYS;unfold wV at Wn;refine Wn.o.mono ?_;rintro e w6 ⟨s6,rfl,hs6,BB⟩;have yB:=Hd (o8.o.turn hs6 BB)
  have HO6:Hid (aU w6 wd.heap.size (.slice A1 n1 d1) (hits (items x) X Y)):=ax.stays HOh.o fun k hk=>by
   have h1:=ax.block HOh.o hk;exact(BB.far k h1.2 fun hf=>by have:=HIN.o k hf;omega).2
  have VK:=Hd (iO.o.trans (yB.o.bel.mono iO.o.size));have E8:=Hd (a4F.o.below' yB.o.bel);clear hs6 BB hR Wn o8 HOh Bf gI HMg HOg Ye a4P HDG HDH HIN;by_cases h0:r2=0
  ·subst h0;have te:((0:Int) != 0)=false:=by decide
   have HTY:Hid (a0H x y):=XP.o rfl
   have VY:Hid (y.t.length<=900):=by
    show _<=_;rw[HTY.o.t,sZ HX.o.ok.nd];have:=Ze.o;omega
   obtain⟨z,hz,hzh⟩:=Q9 HX.o H25.o HTY.o X Y;have HZ:=Hd hz;have QW:=Hd (Aj X Y yB.o.at_ HYS.o VY.o);rw[hzh]at QW;have a0:w6.cell? ⟨ka,0,none⟩=some (.int .i64 X):=E8.o.cell 0;have a1:w6.cell? ⟨ka,1,none⟩=some (.int .i64 Y):=E8.o.cell 1;have ai:=E8.o.inside;clear hz hzh HTY VY XP;go_wp2_with (fail);refine QW.o.mono ?_;rintro e w7 ⟨v2,rfl,ho2,hb7⟩;have wJ:=Hd (ax.below HO6.o hb7);have Qy:=Hd (VK.o.trans (hb7.mono VK.o.size));obtain⟨B2,d2,rfl,hd2,hd3,hr2⟩:=aU.lM ho2;obtain⟨B1,d9,e1,-,-,hr1⟩:=aU.lM wJ.o
   injection e1 with e11 e12 e13
   subst e11 e12 e13;have HR1:=Hd hr1;have HR2:=Hd hr2;clear ho2 hb7 hr1 hr2 HO6 wJ VK E8 yB QW a0 a1 ai te;generalize hits (items x) X Y=hl at*;have hnb:((hl.length:Nat):Int)<=1000:=by have:=AX.o;omega
   rcases HZ.o with rfl|rfl
   ·have HR2:Hid (Row eI w7 B2 hl):=HR2.o;rw[List.nil_append];clear hd2 hd3;have tn:((hl.length:Int)==(hl.length:Int)+1)=false:=by simp;omega
    go_wp2_with (fail);clear tn
    go_loopw [101] (fun i wr=>∃k:Nat,k<=hl.length∧i=.int .i64 k∧Hid (bz w7 wr)) (fun i _=>hl.length - (intOf i).toNat)
    case atStart=>exact⟨0,Nat.zero_le _,rfl,bR⟩
    case round=>
     obtain⟨k,hk,rfl,Bg⟩:=hrel;generalize wr=wj at*;by_cases hlt:k<hl.length
     ·have t2:decide (k<hl.length)=true:=by simpa using hlt
      have gQ:=Hd hlt;obtain⟨p2,o2,r2,k2⟩:=(HR1.o.below Bg.o).at_ hlt;obtain⟨p3,o3,r3,k3⟩:=(HR2.o.below Bg.o).at_ hlt;unfold eI at k2 k3;generalize hl[k]=z at*;cases r2;cases r3;have i2:=World.block_lt_of_cell? wj _ k2;have i3:=World.block_lt_of_cell? wj _ k3;have hkb:((k:Nat):Int)<=1000:=by omega
      go_upto_region 20 with(fail)
      go_quiet (fail)
      have HBQ:Hid (bz w7 (wj.drewN nq)):=Bg.o.trans ((dP.below ⟨_,rfl⟩ _).mono Bg.o.size);generalize (wj.drewN nq)=wq at*;clear k2 k3 i2 i3;go_wp2_with (fail)
      go_roundw
      case rel=>exact⟨k+1,gQ.o,by go_num,HBQ.o⟩
      case measure=>have:=gQ.o;simp[intOf];omega
     ·obtain rfl:k=hl.length:=by omega
      have t2:decide (hl.length<hl.length)=false:=by simp
      have Zx:=Hd (Qy.o.trans (Bg.o.mono Qy.o.size));clear hlt hk;go_wp2_with (fail);refine(fE wj).mono ?_;rintro e wz ⟨rfl,hbz⟩;have iD:Hid (Below w.heap.size w wz):=(Zx.o).trans (hbz.mono (Zx.o).size);clear hbz;go_wp2_with (fail);go_ret;exact⟨rfl,iD.o⟩
   ·obtain⟨gb,ob,r2,hc⟩:=HR2.o (by simp);subst r2;have k0:w7.cell? ⟨gb,ob,none⟩=some (.int .i64 25):=hc 0 (by simp)
    have HR2:Hid (Row eI w7 (some ⟨gb,ob+1,none⟩) hl):=fun _=>⟨gb,ob+1,rfl,fun k hk=>by
     have h1:=hc (k+1) (by simpa using hk);rw[show ob+(k+1)=ob+1+k from by omega]at h1
     simpa using h1⟩
    have ig:=World.block_lt_of_cell? w7 _ k0;have tn:(((hl.length+1:Nat):Int)==(hl.length:Int)+1)=true:=by simp
    rw[show([25]++hl:List Int).length=hl.length+1 from by simp]at hd2 ⊢;clear hc;unfold maxLen at hd3;by_cases hq:d2=1
    ·have hl0:hl.length=0:=by omega
     have HR2:Hid (Row eI w7 (some ⟨gb,ob,none⟩) hl):=fun h=>by omega
     obtain rfl:hl=[]:=List.eq_nil_of_length_eq_zero hl0;subst hq;clear hl0;go_wp2_with (fail);clear hd2 hd3 k0 ig tn
     go_loopw [101] (fun i wr=>i=.int .i64 0∧Hid (bz w7 wr)) (fun _ _=>0)
     case atStart=>exact⟨rfl,bR⟩
     case round=>
      obtain⟨rfl,Bg⟩:=hrel;generalize wr=wj at*;have Zx:=Hd (Qy.o.trans (Bg.o.mono Qy.o.size));go_wp2_with (fail);refine(fE wj).mono ?_;rintro e wz ⟨rfl,hbz⟩;have iD:Hid (Below w.heap.size w wz):=(Zx.o).trans (hbz.mono (Zx.o).size);clear hbz;go_wp2_with (fail);go_ret;exact⟨rfl,iD.o⟩
    ·have hq2:¬(d2 - 1=0):=by omega
     have hq3:¬(d2<=1):=by omega
     go_wp2_with (fail);clear hd2 hd3 k0 ig tn hq hq2 hq3
     go_loopw [101] (fun i wr=>∃k:Nat,k<=hl.length∧i=.int .i64 k∧Hid (bz w7 wr)) (fun i _=>hl.length - (intOf i).toNat)
     case atStart=>exact⟨0,Nat.zero_le _,rfl,bR⟩
     case round=>
      obtain⟨k,hk,rfl,Bg⟩:=hrel;generalize wr=wj at*;by_cases hlt:k<hl.length
      ·have t2:decide (k<hl.length)=true:=by simpa using hlt
       have gQ:=Hd hlt;obtain⟨p2,o2,r2,k2⟩:=(HR1.o.below Bg.o).at_ hlt;obtain⟨p3,o3,r3,k3⟩:=(HR2.o.below Bg.o).at_ hlt;unfold eI at k2 k3;generalize hl[k]=z at*;cases r2;cases r3;have i2:=World.block_lt_of_cell? wj _ k2;have i3:=World.block_lt_of_cell? wj _ k3;have hkb:((k:Nat):Int)<=1000:=by omega
       go_upto_region 20 with(fail)
       go_quiet (fail)
       have HBQ:Hid (bz w7 (wj.drewN nq)):=Bg.o.trans ((dP.below ⟨_,rfl⟩ _).mono Bg.o.size);generalize (wj.drewN nq)=wq at*;clear k2 k3 i2 i3;go_wp2_with (fail)
       go_roundw
       case rel=>exact⟨k+1,gQ.o,by go_num,HBQ.o⟩
       case measure=>have:=gQ.o;simp[intOf];omega
      ·obtain rfl:k=hl.length:=by omega
       have t2:decide (hl.length<hl.length)=false:=by simp
       have Zx:=Hd (Qy.o.trans (Bg.o.mono Qy.o.size));clear hlt hk;go_wp2_with (fail);refine(fE wj).mono ?_;rintro e wz ⟨rfl,hbz⟩;have iD:Hid (Below w.heap.size w wz):=(Zx.o).trans (hbz.mono (Zx.o).size);clear hbz;go_wp2_with (fail);go_ret;exact⟨rfl,iD.o⟩
  ·have te:(r2 != 0)=true:=by simpa using h0
   clear h0;go_wp2_with (fail);refine(fE w6).mono ?_;rintro e wz ⟨rfl,hbz⟩;have iD:Hid (Below w.heap.size w wz):=(VK.o).trans (hbz.mono (VK.o).size);clear hbz;go_wp2_with (fail);go_ret;exact⟨rfl,iD.o⟩
end
end Go.Proofs.YthmegninhpihkaaGreat
