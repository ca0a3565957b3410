import Derived.Test.YthmegninhpihkaaGreatYHtE
import Derived.Test.YthmegninhpihkaaGreatRows
import Derived.ProofKit
import Derived.OpenShut
import Derived.ChangeOld
import Derived.Carry
import Derived.Deep.Fields
set_option maxHeartbeats 16000000
set_option maxRecDepth 100000
open Go.Proofs.Tryz
namespace Go.Proofs.YthmegninhpihkaaGreat
section
open Go.RowKit fD fO aF Go.Maps
def Z2:List Value:=[.int .i64 0,.int .i64 0]
theorem JN.miss{B g:Nat}{zs cs:List Value}{iA iS:Bool}{v:Value}{w w':World}(h:JN B [] zs cs iA iS v w)(hne:iA=true->v≠.pointer (some ⟨g,0,none⟩))(hW:Wrote g w w'):JN B [] zs cs iA iS v w':=
 ⟨⟨trivial,by rw[hW.size];exact h.1.2.1,fun _ hp=>nomatch hp⟩,fun e=>by
  obtain⟨k,e1,hg,hB⟩:=h.2.1 e
  exact⟨k,e1,hg,hW.blk (fun e2=>hne e (by rw[e1,e2])) hB⟩,h.2.2⟩
structure J3(B:Nat)(c0 c1 c2:List Value)(a0 a1 a2 s0 s1 s2:Bool)(v0 v1 v2:Value)(w:World):Prop where
 x0:JN B [] Z2 c0 a0 s0 v0 w
 x1:JN B [] Z2 c1 a1 s1 v1 w
 x2:JN B [] Z2 c2 a2 s2 v2 w
 n01:a0=true->a1=true->v0≠v1
 n12:a1=true->a2=true->v1≠v2
 n20:a2=true->a0=true->v2≠v0
section
variable {B g:Nat}{c0 c1 c2:List Value}{a0 a1 a2 s0 s1 s2:Bool}{v0 v1 v2 u0 u1 u2:Value}{w w':World}{T:TypeId}
theorem J3.QS(h:J3 B c0 c1 c2 a0 a1 a2 s0 s1 s2 v0 v1 v2 w):J3 B c1 c2 c0 a1 a2 a0 s1 s2 s0 v1 v2 v0 w:=⟨h.x1,h.x2,h.x0,h.n12,h.n20,h.n01⟩
theorem J3.slots(h:J3 B c0 c1 c2 a0 a1 a2 s0 s1 s2 v0 v1 v2 w)(e0:u0=v0)(e1:u1=v1)(e2:u2=v2):J3 B c0 c1 c2 a0 a1 a2 s0 s1 s2 u0 u1 u2 w:=by rw[e0,e1,e2];exact h
theorem J3.below(h:J3 B c0 c1 c2 a0 a1 a2 s0 s1 s2 v0 v1 v2 w)(hb:bz w w'):J3 B c0 c1 c2 a0 a1 a2 s0 s1 s2 v0 v1 v2 w':=⟨h.x0.below hb,h.x1.below hb,h.x2.below hb,h.n01,h.n12,h.n20⟩
theorem JN.away{cs:List Value}{iA iS:Bool}{v:Value}(h:JN B [] Z2 cs iA iS v w)(e:iA=true):v≠.pointer (some ⟨w.heap.size,0,none⟩):=by
 obtain⟨k,e1,-,hB⟩:=h.2.1 e;have:=hB.inside;rw[e1];intro e
 injection e with e
 injection e with e
 injection e with e
 omega
theorem J3.new(h:J3 B c0 c1 c2 a0 a1 a2 s0 s1 s2 v0 v1 v2 w)(eA:a0=false)(e0:u0=.pointer (some ⟨w.heap.size,0,none⟩))(e1:u1=v1)(e2:u2=v2):J3 B c0 c1 c2 true a1 a2 s0 s1 s2 u0 u1 u2 (w.alloc (.cells Z2.toArray T)):=by
 rw[e1,e2];have hb:bz w (w.alloc (.cells Z2.toArray T)):=bR.alloc nR _;exact⟨h.x0.new eA e0,h.x1.below hb,h.x2.below hb,fun _ k=>by rw[e0];exact Ne.symm (h.x1.away k),h.n12,fun k _=>by rw[e0];exact h.x2.away k⟩
theorem J3.put(h:J3 B c0 c1 c2 a0 a1 a2 s0 s1 s2 v0 v1 v2 w)(eA:a0=true)(eS:s0=false)(ev:v0=.pointer (some ⟨g,0,none⟩))(hW:Wrote g w w')(hB:az w' g c0):J3 B c0 c1 c2 a0 a1 a2 true s1 s2 v0 v1 v2 w'∧Below B w w':=by
 obtain⟨h1,h2⟩:=h.x0.Oy eA eS ev hW hB rfl;exact⟨⟨h1,h.x1.miss (fun k=>by rw[←ev];exact Ne.symm (h.n01 eA k)) hW,h.x2.miss (fun k=>by rw[←ev];exact h.n20 k eA) hW,h.n01,h.n12,h.n20⟩,h2⟩
end
theorem uz(x e:Int)(w:World):(Instr.build 126 #[(0,.int .i64 x),(1,.int .i64 e)]).run prog w=.ok (.agg #[.int .i64 x,.int .i64 e]) w:=by kernel_rfl
theorem Zj(x y e1 e2:Int)(w:World):(Instr.buildSlice 172 2 #[(0,.agg #[.int .i64 x,.int .i64 e1]),(1,.agg #[.int .i64 y,.int .i64 e2])]).run prog w=.ok (.slice (some ⟨w.heap.size,0,none⟩) 2 2) (w.alloc (.cells (ru x y e1 e2).toArray 126)):=by kernel_rfl
def Bv(m:Mp)(ok:Bool)(X Y:Int):Value:=if ok=true∧m.back.2=0 then .tuple (Vw (Bd m.back.1 X Y).1 (Bd m.back.1 X Y).2).toArray else .tuple Vy.toArray
def WV(p:Pt):Prop:=(-1152921504606846976<=p.x∧p.x<=1152921504606846976)∧(-1152921504606846976<=p.y∧p.y<=1152921504606846976)
theorem ML{n:Int}(h:-9223372036854775808<=n∧n<=9223372036854775808):-1152921504606846976<=lJ n 65536∧lJ n 65536<=1152921504606846976:=by
 unfold lJ;split<;>omega
theorem vU{b:Mp}(hb:b.right=true){x y:Int}(hx:-32768<=x∧x<=32767)(hy:-32768<=y∧y<=32767):WV (b.from_ (sD x y)):=by
 obtain⟨hr,hx,hy⟩:=Aa hb hx hy;obtain⟨ra,rb,rc,rd,re,rf⟩:=pO hr;have bu:-3221225472<=(sD x y).x - b.e∧(sD x y).x - b.e<=3221225472:=by omega
 have bv:-3221225472<=(sD x y).y - b.f∧(sD x y).y - b.f<=3221225472:=by omega
 have p1:=gG ra.1 ra.2 bu.1 bu.2;have p2:=gG rc.1 rc.2 bv.1 bv.2;have p3:=gG rb.1 rb.2 bu.1 bu.2;have p4:=gG rd.1 rd.2 bv.1 bv.2;exact⟨ML (by omega),ML (by omega)⟩
theorem CU{W:World}{g b9 m:Nat}{s:Sh}{Z:ZZ}{x:aK}(i X Y:Int)(h:au W g b9 m s Z x)(hx:kM x)(hi:I64 i)(hX:oH X)(hY:oH Y) :
  Calls prog 15 (Vs g i X Y).toArray W (aY (Bv (fJ x i) (has x.t i) X Y) W):=by
 have Zr:=Hd (BN h i hi)
 have HR:Hid (has x.t i=true->(fJ x i).right=true):=fun hh=>by
  unfold fJ;rw[if_pos hh];exact mG hx.ok (fun i=>(hx.good i) |> fun h=>(lM h).1) (aj.1 hh) _ (hx.set i hh (fun _ _ h=>h) (fun h=>h))
 have Wq:=Hd (And.intro hX hY);generalize fJ x i=u at*;generalize has x.t i=ok at*
 obtain⟨R,hR⟩:=aC u.back
 obtain⟨b,er⟩:=R
 have Fh:Hid (ok=true->er=0->b.right=true):=fun h1 h2=>by
  have h3:=Hy (HR.o h1) (by (try show Below _ _ _);rw[hR];exact h2);rw[hR]at h3;exact h3
 have yD:Hid (∀w:World,Calls prog 36 #[.agg u.cs.toArray] w (aY (.tuple #[.agg b.cs.toArray,.int .i64 er]) w)):=fun w=>by
  have h:=Nb u w;rw[hR]at h;exact h
 have IW:Hid (Bv u ok X Y=if ok=true∧er=0 then .tuple (Vw (Bd b X Y).1 (Bd b X Y).2).toArray else .tuple Vy.toArray):=by show _=_;unfold Bv;rw[hR]
 clear h hx hi hX hY hR HR;go_enter func15,ntmps15;go_wp2_with (fail);refine Zr.o.mono ?_;rintro e w1 ⟨rfl,hb1⟩;have HB1:=Hd hb1;have HZ1:Hid (az (w1.alloc (.cells Vd.toArray 67)) w1.heap.size Vd):=aA w1 Vd _;have Oh:Hid (bz w1 (w1.alloc (.cells Vd.toArray 67))):=bR.alloc nR _;clear hb1 Zr
 go_upto_region 2 with(first|(with_reducible refine gS ?_;first|(refine ay 67 _ _ rfl rfl rfl _ 0 rfl (u.cs) rfl (Vd) HZ1.o (u.cs) rfl (nE rfl) ag rfl ?_;intro w2 HW2 dF)))
 have HB2:Hid (bz W w2):=HB1.o.trans ((HW2.o.below Oh.o nR).mono HB1.o.size);have i2:=dF.o.inside;clear HZ1 Oh HW2 HB1;go_wp2_with (first|(with_reducible refine gL ?_;first|(refine wt 67 0 rfl rfl rfl dF.o (u.cs) rfl underlying67 rfl ?_)));refine(yD.o w2).mono ?_;rintro e w5 ⟨rfl,hb5⟩;have gQ:Hid (bz W w5):=HB2.o.trans (hb5.mono HB2.o.size);have HZ5:Hid (az (w5.alloc (.cells Vd.toArray 117)) w5.heap.size Vd):=aA w5 Vd _
 have Oh:Hid (Below w5.heap.size w5 (w5.alloc (.cells Vd.toArray 117))):=bR.alloc nR _;clear hb5 yD HB2 dF i2
 go_upto_region 3 with(first|(with_reducible refine gS ?_;first|(refine ay 117 _ _ rfl rfl rfl _ 0 rfl (b.cs) rfl (Vd) HZ5.o (b.cs) rfl (nE rfl) ag rfl ?_;intro w3 HW3 dN)))
 have HB3:Hid (bz W w3):=gQ.o.trans ((HW3.o.below Oh.o nR).mono gQ.o.size)
 obtain⟨kb,hkb⟩:∃k,w5.heap.size=k:=⟨_,rfl⟩
 rw[hkb]at dN ⊢;clear HZ5 Oh HW3 gQ hkb;cases ok with
 |false=>
  have HV:Hid (Bv u false X Y=.tuple Vy.toArray):=IW.o.trans (if_neg (by simp));go_wp2_with (fail)
  go_ret3
  exact⟨by rw[HV.o];rfl,HB3.o⟩
 |true=>
 by_cases h0:er=0
 ·have t0:(er != 0)=false:=by simp[h0]
  have HV:Hid (Bv u true X Y=.tuple (Vw (Bd b X Y).1 (Bd b X Y).2).toArray):=IW.o.trans (if_pos ⟨rfl,h0⟩);have LY:=Hd (Fh.o rfl h0);clear IW Fh h0;have FB:Hid (∀W,bz w3 W->az W kb b.cs):=fun W hb=>dN.o.below' hb
  obtain⟨p0,hp0⟩:∃p,b.from_ (sD 0 0)=p:=⟨_,rfl⟩
  obtain⟨p1,hp1⟩:∃p,b.from_ (sD 1 0)=p:=⟨_,rfl⟩
  obtain⟨p2,hp2⟩:∃p,b.from_ (sD 0 1)=p:=⟨_,rfl⟩
  have HT0:Hid (∀w:World,Calls prog 37 #[.agg b.cs.toArray,.agg (sD 0 0).cs.toArray] w (aY (.agg p0.cs.toArray) w)):=fun w=>hp0 ▸ yg b (sD 0 0) w (Aa LY.o (by decide) (by decide));have HT1:Hid (∀w:World,Calls prog 37 #[.agg b.cs.toArray,.agg (sD 1 0).cs.toArray] w (aY (.agg p1.cs.toArray) w)):=fun w=>hp1 ▸ yg b (sD 1 0) w (Aa LY.o (by decide) (by decide))
  have HT2:Hid (∀w:World,Calls prog 37 #[.agg b.cs.toArray,.agg (sD 0 1).cs.toArray] w (aY (.agg p2.cs.toArray) w)):=fun w=>hp2 ▸ yg b (sD 0 1) w (Aa LY.o (by decide) (by decide))
  have ES:Hid ((p1.x - p0.x=b.a∧p1.y - p0.y=b.b)∧(p2.x - p0.x=b.c∧p2.y - p0.y=b.d)∧(Bd b X Y).1=(p0.x+(b.a*X+b.c*Y)) / 65536∧(Bd b X Y).2=(p0.y+(b.b*X+b.d*Y)) / 65536):=by
   have e1:=zJ b 1 0;have e2:=zJ b 0 1;have e3:=zJ b X Y;rw[hp0,hp1]at e1;rw[hp0,hp2]at e2;rw[hp0]at e3;unfold Bd;rw[e3.1,e3.2];simp only[Int.mul_one,Int.mul_zero,Int.add_zero,Int.zero_add]at e1 e2;refine⟨⟨by omega,by omega⟩,⟨by omega,by omega⟩,rfl,rfl⟩
  have BK:Hid (WV p0∧WV p1∧WV p2∧(jC b.a∧jC b.b)∧jC b.c∧jC b.d):=by
   obtain⟨r1,r2,r3,r4,-,-⟩:=pO LY.o;refine⟨hp0 ▸ vU LY.o (by decide) (by decide),hp1 ▸ vU LY.o (by decide) (by decide),hp2 ▸ vU LY.o (by decide) (by decide),⟨?_,?_⟩,?_,?_⟩<;>(unfold jC;omega)
  clear hp0 hp1 hp2 LY
  go_upto_region 5 with(fail)
  refine QR (Below w3.heap.size) (fun L V wx=>J3 w3.heap.size p0.cs p1.cs p2.cs (L 9) (L 10) (L 11) (L 12) (L 13) (L 14) (V 14) (V 15) (V 16) wx) [34,35,36,37,38,39,40,41,42,14,15,16] (fun _=>bR) (fun _ _ _ h k=>h.trans k) (fun i=>match i with
   |0|3|6=>rV (.agg (b.cs).toArray)
   |1=>rV (.agg ((sD 0 0).cs).toArray)
   |2=>rV (.agg (p0.cs).toArray)
   |4=>rV (.agg ((sD 1 0).cs).toArray)
   |5=>rV (.agg (p1.cs).toArray)
   |7=>rV (.agg ((sD 0 1).cs).toArray)
   |8=>rV (.agg (p2.cs).toArray)
   |_=>ra) (bR.drew) (⟨JN.start (old:=[]) trivial,JN.start (old:=[]) trivial,JN.start (old:=[]) trivial,nofun,nofun,nofun⟩) ⟨?_,?_,?_,?_,?_,?_,?_,?_,?_,?_,?_,?_,?_,?_,?_,trivial⟩ ?_
  any_goals (first|refine fP fun L a w1 hh=>?_|fail)
  ·have h12:=hh.p 12 kb 0;have hB:=Hd (FB.o _ hh.rel);have hJ:=Hd hh.st;exact aN 117 _ rfl kb 0 (by simpa[go_sem]using h12) _ hB.o (b.cs) rfl _ underlying117 rfl ag ⟨_,rfl,bR,rfl,J3.slots hJ.o sn sn sn⟩
  ·have hC:=Hd (oM 0 0 w1 (by constructor<;>decide) (by constructor<;>decide));have hJ:=hh.j;clear hh;go_simp;refine hC.o.mono ?_;rintro e w9 ⟨rfl,bD⟩;exact⟨_,rfl,bD.mono hJ.o.x0.1.2.1,rfl,J3.slots (J3.below hJ.o bD) sn sn sn⟩
  ·have XD:=rq (hh.d 0 34);have h35:=rq (hh.d 1 35);have hC:=Hd (HT0.o w1);have hJ:=hh.j;clear hh;go_simp;refine hC.o.mono ?_;rintro e w9 ⟨rfl,bD⟩;exact⟨_,rfl,bD.mono hJ.o.x0.1.2.1,rfl,J3.slots (J3.below hJ.o bD) sn sn sn⟩
  ·have h12:=hh.p 12 kb 0;have hB:=Hd (FB.o _ hh.rel);have hJ:=Hd hh.st;exact aN 117 _ rfl kb 0 (by simpa[go_sem]using h12) _ hB.o (b.cs) rfl _ underlying117 rfl ag ⟨_,rfl,bR,rfl,J3.slots hJ.o sn sn sn⟩
  ·have hC:=Hd (oM 1 0 w1 (by constructor<;>decide) (by constructor<;>decide));have hJ:=hh.j;clear hh;go_simp;refine hC.o.mono ?_;rintro e w9 ⟨rfl,bD⟩;exact⟨_,rfl,bD.mono hJ.o.x0.1.2.1,rfl,J3.slots (J3.below hJ.o bD) sn sn sn⟩
  ·have h37:=rq (hh.d 3 37);have h38:=rq (hh.d 4 38);have hC:=Hd (HT1.o w1);have hJ:=hh.j;clear hh;go_simp;refine hC.o.mono ?_;rintro e w9 ⟨rfl,bD⟩;exact⟨_,rfl,bD.mono hJ.o.x0.1.2.1,rfl,J3.slots (J3.below hJ.o bD) sn sn sn⟩
  ·have h12:=hh.p 12 kb 0;have hB:=Hd (FB.o _ hh.rel);have hJ:=Hd hh.st;exact aN 117 _ rfl kb 0 (by simpa[go_sem]using h12) _ hB.o (b.cs) rfl _ underlying117 rfl ag ⟨_,rfl,bR,rfl,J3.slots hJ.o sn sn sn⟩
  ·have hC:=Hd (oM 0 1 w1 (by constructor<;>decide) (by constructor<;>decide));have hJ:=hh.j;clear hh;go_simp;refine hC.o.mono ?_;rintro e w9 ⟨rfl,bD⟩;exact⟨_,rfl,bD.mono hJ.o.x0.1.2.1,rfl,J3.slots (J3.below hJ.o bD) sn sn sn⟩
  ·have Wi:=rq (hh.d 6 40);have Wh:=rq (hh.d 7 41);have hC:=Hd (HT2.o w1);have hJ:=hh.j;clear hh;go_simp;refine hC.o.mono ?_;rintro e w9 ⟨rfl,bD⟩;exact⟨_,rfl,bD.mono hJ.o.x0.1.2.1,rfl,J3.slots (J3.below hJ.o bD) sn sn sn⟩
  ·have hJ:=Hd hh.st;have hsz:=Hd hh.size;have hun:=Hd hh.un;clear hh;go_simp;exact⟨_,rfl,bR.alloc hJ.o.x0.1.2.1 _,trivial,(J3.new (hJ.o) hun.o (bP.bI (by rw[hsz.o];simp)) sn sn)⟩
  ·have hJ:=Hd hh.st;have hsz:=Hd hh.size;have hun:=Hd hh.un;clear hh;go_simp;exact⟨_,rfl,bR.alloc hJ.o.x0.1.2.1 _,trivial,(J3.new (hJ.o.QS) hun.o (bP.bI (by rw[hsz.o];simp)) sn sn).QS.QS⟩
  ·have hJ:=Hd hh.st;have hsz:=Hd hh.size;have hun:=Hd hh.un;clear hh;go_simp;exact⟨_,rfl,bR.alloc hJ.o.x0.1.2.1 _,trivial,(J3.new (hJ.o.QS.QS) hun.o (bP.bI (by rw[hsz.o];simp)) sn sn).QS⟩
  ·have XC:=rq (hh.d 2 36);have hup:=hh.up 9 ag;obtain⟨g9,vS,nz,gJ⟩:=hh.st.x0.2.1 hup;have xJ:a.tmps[14]?.getD undef=.pointer (some ⟨g9,0,none⟩):=rq (vS);rw[hh.un]at gJ;have hJ:=Hd hh.st;have hun:=Hd hh.un;refine dB 121 _ _ rfl g9 0 (by simpa[go_sem]using xJ) (p0.cs) (by simpa[go_sem]using XC) _ gJ (nE rfl) ag (by rfl) ?_;intro w9 nC BC;have hP:=J3.put (hJ.o) hup hun.o vS nC BC;exact⟨undef,rfl,hP.2,trivial,hP.1⟩
  ·have TZ:=rq (hh.d 5 39);have hup:=hh.up 10 ag;obtain⟨g9,vS,nz,gJ⟩:=hh.st.x1.2.1 hup;have h15:a.tmps[15]?.getD undef=.pointer (some ⟨g9,0,none⟩):=rq (vS);rw[hh.un]at gJ;have hJ:=Hd hh.st;have hun:=Hd hh.un;refine dB 121 _ _ rfl g9 0 (by simpa[go_sem]using h15) (p1.cs) (by simpa[go_sem]using TZ) _ gJ (nE rfl) ag (by rfl) ?_;intro w9 nC BC;have hP:=J3.put (hJ.o.QS) hup hun.o vS nC BC;exact⟨undef,rfl,hP.2,trivial,hP.1.QS.QS⟩
  ·have h42:=rq (hh.d 8 42);have hup:=hh.up 11 ag;obtain⟨g9,vS,nz,gJ⟩:=hh.st.x2.2.1 hup;have h16:a.tmps[16]?.getD undef=.pointer (some ⟨g9,0,none⟩):=rq (vS);rw[hh.un]at gJ;have hJ:=Hd hh.st;have hun:=Hd hh.un;refine dB 121 _ _ rfl g9 0 (by simpa[go_sem]using h16) (p2.cs) (by simpa[go_sem]using h42) _ gJ (nE rfl) ag (by rfl) ?_;intro w9 nC BC;have hP:=J3.put (hJ.o.QS.QS) hup hun.o vS nC BC;exact⟨undef,rfl,hP.2,trivial,hP.1.QS⟩
  intro L w4 val hL hJ hR hv;have HR4:=Hd hR;obtain⟨g0,e14,-,hb0⟩:=hJ.x0.2.1 (hL 9 (by decide));rw[hL 12 (by decide)]at hb0;have HG0:Hid (az w4 g0 p0.cs):=hb0;obtain⟨g1,e15,-,hb1⟩:=hJ.x1.2.1 (hL 10 (by decide));rw[hL 13 (by decide)]at hb1;have HG1:Hid (az w4 g1 p1.cs):=hb1;obtain⟨g2,e16,-,hb2⟩:=hJ.x2.2.1 (hL 11 (by decide));rw[hL 14 (by decide)]at hb2;have HG2:Hid (az w4 g2 p2.cs):=hb2;clear hv hL hJ hR hb0 hb1 hb2;simp only[regs.aG,List.map_cons,List.map_nil];simp only[Act.put,List.setIfInBounds_toArray,List.set_cons_zero,List.set_cons_succ]
  skip
  rw[e14];clear e14;rw[e15];clear e15;rw[e16];clear e16;have Ym:Hid (az (w4.alloc (.cells (ru X Y b.a b.c).toArray 126)) w4.heap.size (ru X Y b.a b.c)):=aA w4 (ru X Y b.a b.c) _;have a1e:=Hd (zG p0.x X Y b.a b.c Wq.o.1 Wq.o.2 (by have:=BK.o.1.1;omega) BK.o.2.2.2.1.1 BK.o.2.2.2.2.1 w4.heap.size 2 _ Ym.o);rw[←ES.o.2.2.1]at a1e;have d1:=ES.o.1.1;have d2:=ES.o.2.1.1;have v1:wrap64 b.a=b.a:=IntWalk.wrap64_in _ (by have:=BK.o.2.2.2.1.1;unfold jC at this;omega)
  have v2:wrap64 b.c=b.c:=IntWalk.wrap64_in _ (by have:=BK.o.2.2.2.2.1;unfold jC at this;omega);obtain⟨⟨a0,a1⟩,-,ai⟩:=HG0.o.c2;obtain⟨⟨b0,b1⟩,-,bi⟩:=HG1.o.c2;obtain⟨⟨c0,c1⟩,-,ci⟩:=HG2.o.c2
  go_wp2_with (first|((with_reducible show wpList _ _ _ (Oper.mk (some 51) (Op.build _ _) _ _ _ _::_) _ _);refine eH _ _ rfl rfl (by simp[go_sem,v1]) (uz X b.a _) ?_)|((with_reducible show wpList _ _ _ (Oper.mk (some 58) (Op.build _ _) _ _ _ _::_) _ _);refine eH _ _ rfl rfl (by simp[go_sem,v2]) (uz Y b.c _) ?_)|((with_reducible refine gB ?_);refine jw _ _ _ rfl rfl (by simp[go_sem]) (Zj X Y b.a b.c _) ?_));refine a1e.o.mono ?_;rintro e w6 ⟨rfl,hb⟩
  have hb:bz w4 w6:=(bR.alloc nR _).trans (hb.mono (by simp));have sJ:Hid (bz W w6):=HB3.o.trans ((HR4.o.trans (hb.mono HR4.o.size)).mono HB3.o.size);have HG0:=Hd (HG0.o.below' hb);have HG1:=Hd (HG1.o.below' hb);have HG2:=Hd (HG2.o.below' hb);clear hb d1 d2 v1 v2 a0 a1 ai b0 b1 bi c0 c1 ci Ym a1e HB3;have Dy:Hid (az (w6.alloc (.cells (ru X Y b.b b.d).toArray 126)) w6.heap.size (ru X Y b.b b.d)):=aA w6 (ru X Y b.b b.d) _
  have a1d:=Hd (zG p0.y X Y b.b b.d Wq.o.1 Wq.o.2 (by have:=BK.o.1.2;omega) BK.o.2.2.2.1.2 BK.o.2.2.2.2.2 w6.heap.size 2 _ Dy.o);rw[←ES.o.2.2.2]at a1d;have d1:=ES.o.1.2;have d2:=ES.o.2.1.2;have v1:wrap64 b.b=b.b:=IntWalk.wrap64_in _ (by have:=BK.o.2.2.2.1.2;unfold jC at this;omega);have v2:wrap64 b.d=b.d:=IntWalk.wrap64_in _ (by have:=BK.o.2.2.2.2.2;unfold jC at this;omega);obtain⟨⟨a0,a1⟩,-,ai⟩:=HG0.o.c2;obtain⟨⟨b0,b1⟩,-,bi⟩:=HG1.o.c2;obtain⟨⟨c0,c1⟩,-,ci⟩:=HG2.o.c2
  go_wp2_with (first|((with_reducible show wpList _ _ _ (Oper.mk (some 69) (Op.build _ _) _ _ _ _::_) _ _);refine eH _ _ rfl rfl (by simp[go_sem,v1]) (uz X b.b _) ?_)|((with_reducible show wpList _ _ _ (Oper.mk (some 76) (Op.build _ _) _ _ _ _::_) _ _);refine eH _ _ rfl rfl (by simp[go_sem,v2]) (uz Y b.d _) ?_)|((with_reducible refine gB ?_);refine jw _ _ _ rfl rfl (by simp[go_sem]) (Zj X Y b.b b.d _) ?_));refine a1d.o.mono ?_;rintro e w7 ⟨rfl,hb⟩
  have hb:bz w6 w7:=(bR.alloc nR _).trans (hb.mono (by simp));have sU:Hid (bz W w7):=sJ.o.trans (hb.mono sJ.o.size);clear hb d1 d2 v1 v2 a0 a1 ai b0 b1 bi c0 c1 ci Dy a1d;go_wp2_with (fail)
  go_ret3
  exact⟨by rw[HV.o];rfl,sU.o⟩
 ·have t0:(er != 0)=true:=by simp[h0]
  have HV:Hid (Bv u true X Y=.tuple Vy.toArray):=IW.o.trans (if_neg (fun e=>h0 e.2));clear h0;go_wp2_with (fail)
  go_ret3
  exact⟨by rw[HV.o];rfl,HB3.o⟩
end
section
open Go.RowKit fD fO aF Go.Maps
def hl1:dM:={ dM.o with k:=7,lk:=⟨1,3,3,0,0,0,[]⟩ }
def hl2:dM:={ dM.o with k:=1,i:=4 }
def hl3:dM:={ dM.o with k:=7,i:=4,lk:=⟨1,2,1,255,0,0,[]⟩ }
def J6:T:=[(4,0)]
theorem Y8{o:dM}(h:o∈[hl1,hl2,hl3]):kX o∧o.lk.l=[]:=by
 simp only[List.mem_cons,List.not_mem_nil,or_false]at h;rcases h with rfl|rfl|rfl<;>exact⟨⟨⟨by decide,by decide⟩,⟨by decide,by decide⟩,⟨by decide,(by intro z hz;cases hz),by decide⟩⟩,rfl⟩
def hlN:Int->Nd:=upd (upd (upd (fun _=>Nd.plain) 0 (bU Nd.plain hl1)) 4 Nd.plain) 4 (bU Nd.plain hl3)
theorem TS:aO 9 aK.new [hl1,hl2,hl3]=(⟨J6,hlN,upd (fun _=>Mp.one) 4 Mp.o⟩,3,0):=by
 have e1:fG 9 aK.new hl1=(⟨[],upd (fun _=>Nd.plain) 0 (bU Nd.plain hl1),fun _=>Mp.one⟩,0):=rfl;have e2:fG 9 ⟨[],upd (fun _=>Nd.plain) 0 (bU Nd.plain hl1),fun _=>Mp.one⟩ hl2=(⟨J6,upd (upd (fun _=>Nd.plain) 0 (bU Nd.plain hl1)) 4 Nd.plain,upd (fun _=>Mp.one) 4 Mp.o⟩,0):=rfl;have e3:fG 9 ⟨J6,upd (upd (fun _=>Nd.plain) 0 (bU Nd.plain hl1)) 4 Nd.plain,upd (fun _=>Mp.one) 4 Mp.o⟩ hl3=(⟨J6,hlN,upd (fun _=>Mp.one) 4 Mp.o⟩,0):=rfl;rw[bY,e1];simp only[ne_eq,not_true_eq_false,if_false];rw[bY,e2];simp only[ne_eq,not_true_eq_false,if_false];rw[bY,e3]
 simp only[ne_eq,not_true_eq_false,if_false];rfl
theorem TR:4∈ids J6:=by decide
theorem TP:Ok J6:=(qQ JD 4 0 0).1
theorem G8:aJ J6 hlN 4=some Mp.one:=by
 rw[kP TP _ TR,show par J6 4=0 from by decide,jR]
 decide
noncomputable def zF:aK:=(bK 9 setSt aK.new [hl1,hl2,hl3]).1
theorem a0s:(setSt ⟨J6,hlN,upd (fun _=>Mp.one) 4 Mp.o⟩).2=0:=by
 unfold setSt;rw[if_pos fun i hi=>?_];rcases aj.1 hi with rfl|e
 ·show aJ J6 hlN 0≠none;rw[jR];simp
 ·obtain rfl:i=4:=by simpa[J6,ids]using e
  show aJ J6 hlN 4≠none;rw[G8];simp
theorem zC:bK 9 setSt aK.new [hl1,hl2,hl3]=(zF,3,0):=by
 have h:(bK 9 setSt aK.new [hl1,hl2,hl3]).2=(3,0):=by
  unfold bK;rw[if_neg (by decide),TS,if_neg (by simp),if_neg (by rw[a0s];simp)];rfl
 unfold zF;rw[←h]
theorem lS:kM zF:=by
 have:=aK.y9.apply (M:=9) (l:=[hl1,hl2,hl3]) fun o ho=>(Y8 ho).1;rw[zC]at this;exact this
theorem iU:zF.t=J6∧zF.nd=hlN:=by
 have h:=UG (by rw[zC]:(bK 9 setSt aK.new [hl1,hl2,hl3]).2.2=0);rw[TS]at h;exact⟨h.1,h.2.1⟩
theorem zD:zF.ws 0=Mp.one∧zF.ws 4=Mp.one:=by
 have h0:=lS.set 0 (by rw[iU.1];decide) (fun _ _ h=>h) (fun h=>h);have h4:=lS.set 4 (by rw[iU.1];decide) (fun _ _ h=>h) (fun h=>h);rw[iU.1,iU.2]at h0 h4;rw[jR]at h0;rw[G8]at h4;exact⟨(Option.some.inj h0).symm,(Option.some.inj h4).symm⟩
theorem TQ:items zF=[⟨0,Mp.one,Mp.one,[],255,⟨1,3,3,0,0,0,[]⟩⟩,⟨4,Mp.one,Mp.one,[],255,⟨1,2,1,255,0,0,[]⟩⟩]:=by
 have d0:cO zF 0=some ⟨Mp.one,255,[]⟩:=by
  rw[pW,zD.1,iU.2]
  decide
 have d4:cO zF 4=some ⟨Mp.one,255,[]⟩:=by
  rw[kH (by rw[iU.1];exact TP) (by rw[iU.1];exact TR),iU.1,show par J6 4=0 from by decide,d0,zD.2,iU.2]
  decide
 have i0:dW zF 0=some ⟨0,Mp.one,Mp.one,[],255,⟨1,3,3,0,0,0,[]⟩⟩:=by
  unfold dW;rw[d0,zD.1,iU.2];rfl
 have i4:dW zF 4=some ⟨4,Mp.one,Mp.one,[],255,⟨1,2,1,255,0,0,[]⟩⟩:=by
  unfold dW;rw[d4,zD.2,iU.2];rfl
 unfold items;rw[iU.1,show aF.walk J6 0=[0,4] from by decide];simp[i0,i4]
theorem yj:hits (items zF) 1 0=[4,0]∧hits (items zF) 2 0=[0]∧hits (items zF) 3 0=[]:=by
 rw[TQ]
 decide
theorem a0t:Bv (fJ zF 4) (has zF.t 4) 1 0=.tuple #[.int .i64 1,.int .i64 0,.bool true]:=by
 have e:fJ zF 4=Mp.one:=by
  unfold fJ;rw[iU.1,if_pos (by decide),zD.2]
 rw[e,iU.1];unfold Bv;rw[if_pos ⟨by decide,by decide⟩,show Bd Mp.one.back.1 1 0=(1,0) from by decide]
end
section
open Go.RowKit fD fO aF Go.Maps
theorem Qk(w:World):(Instr.build 85 #[(0,.int .i64 7),(8,.agg #[.int .i64 1,.int .i64 3,.int .i64 3,.int .u32 0,.int .i64 0,.int .i64 0,.slice none 0 0])]).run prog w=.ok (.agg (hl1.cs none 0).toArray) w:=by kernel_rfl
theorem Qj(w:World):(Instr.build 85 #[(0,.int .i64 1),(1,.int .i64 4)]).run prog w=.ok (.agg (hl2.cs none 0).toArray) w:=by kernel_rfl
theorem Qi(w:World):(Instr.build 85 #[(0,.int .i64 7),(1,.int .i64 4),(8,.agg #[.int .i64 1,.int .i64 2,.int .i64 1,.int .u32 255,.int .i64 0,.int .i64 0,.slice none 0 0])]).run prog w=.ok (.agg (hl3.cs none 0).toArray) w:=by kernel_rfl
theorem a0r:TU (hits (items zF) 1 0)=.tuple #[.int .i64 4,.bool true]∧TU (hits (items zF) 2 0)=.tuple #[.int .i64 0,.bool true]∧TU (hits (items zF) 3 0)=.tuple #[.int .i64 0,.bool false]:=by
 rw[yj.1,yj.2.1,yj.2.2];exact⟨rfl,rfl,rfl⟩
def hlZ:ZZ:=⟨8,⟨8,9⟩,fun _=>False⟩
theorem TN:∀q∈[oN hl1,oN hl2,oN hl3],kX q.o∧q.o.lk.l=[]:=by
 intro q hq;simp only[List.mem_cons,List.not_mem_nil,or_false]at hq;rcases hq with rfl|rfl|rfl<;>exact Y8 (by simp[oN])
theorem iV(w:World):Calls prog 8 #[] w (aY (.bool true) w):=by
 go_enter func8,ntmps8;go_wp2_with (fail);refine(SK (w:=w) hlZ (fun _ e=>e.elim) ⟨by decide,by decide⟩ ⟨by decide,by decide⟩ ⟨by decide,by decide⟩).mono ?_;rintro e w1 ⟨g,b,m,s,rfl,hs1,hb1,hf1,hg1⟩
 have Fv:Hid (Qz w g b m s hlZ aK.new w1):=⟨hs1,hf1,hb1⟩
 clear hs1 hb1 hf1 hg1;go_wp2_with (fail);refine(zQ 3 3 0 w1).mono ?_;rintro e w2 ⟨rfl,hb2⟩;unfold Ja;have LM:=Hd (Fv.o.below hb2);clear hb2 Fv;go_wp2_with (first|((with_reducible show wpList _ _ _ (Oper.mk (some 25) (Op.build _ _) _ _ _ _::_) _ _);refine eH _ _ rfl rfl (by simp[go_sem]) (Qk _) ?_)|((with_reducible show wpList _ _ _ (Oper.mk (some 26) (Op.build _ _) _ _ _ _::_) _ _);refine eH _ _ rfl rfl (by simp[go_sem]) (Qj _) ?_));refine(zQ 2 1 255 w2).mono ?_;rintro e w3 ⟨rfl,hb3⟩;unfold Ja;have gZ:=Hd (LM.o.below hb3)
 clear hb3 LM;go_wp2_with (first|((with_reducible show wpList _ _ _ (Oper.mk (some 28) (Op.build _ _) _ _ _ _::_) _ _);refine eH _ _ rfl rfl (by simp[go_sem]) (Qi _) ?_)|((with_reducible refine gB ?_);refine jw _ _ _ rfl rfl (by simp[go_sem]) (a0N hl1 hl2 hl3 _) ?_));have Fj:=Hd (CO (w:=w3) (S:=af b m s aK.new.t) gZ.o.at_.inside [oN hl1,oN hl2,oN hl3] (fun q hq=>(TN q hq).2));rw[show[oN hl1,oN hl2,oN hl3].flatMap gK.cs=(oN hl1).cs++((oN hl2).cs++(oN hl3).cs) from by simp]at Fj
 have gQ:Hid (Below w3.heap.size w3 (w3.alloc (.cells ((oN hl1).cs++((oN hl2).cs++(oN hl3).cs)).toArray 85))):=bR.alloc nR _;generalize (w3.alloc (.cells ((oN hl1).cs++((oN hl2).cs++(oN hl3).cs)).toArray 85))=w5 at*;have rF:=Hd (gZ.o.below gQ.o);generalize w3.heap.size=k5 at*;have HAP:=Hd (applied rF.o.at_ aK.y9 [oN hl1,oN hl2,oN hl3] (some ⟨k5,0,none⟩) 3 Fj.o (fun q hq=>(TN q hq).1) (a1L rfl (by decide) (by simp)) (by simp));rw[show bK hlZ.2.2 setSt aK.new ([oN hl1,oN hl2,oN hl3].map (·.o))=(zF,3,0) from zC]at HAP
 unfold wX at HAP;refine HAP.o.mono ?_;rintro e w6 ⟨s6,rfl,hs6,G5⟩;have EU:=Hd (rF.o.turn hs6 G5);have AU:Hid (zF.t.length<=900):=by show _<=_;rw[iU.1];decide
 clear hs6 G5 HAP rF Fj gQ gZ;have HA6:=Hd (yw 1 0 EU.o.at_ lS AU.o);rw[a0r.1]at HA6;go_wp2_with (fail);refine HA6.o.mono ?_;rintro e w7 ⟨rfl,hb⟩;have IV:=Hd (EU.o.below hb);clear hb HA6 EU;have HA7:=Hd (yw 2 0 IV.o.at_ lS AU.o);rw[a0r.2.1]at HA7;go_wp2_with (fail);refine HA7.o.mono ?_;rintro e w8 ⟨rfl,hb⟩;have HM8:=Hd (IV.o.below hb);clear hb HA7 IV;have HA8:=Hd (yw 3 0 HM8.o.at_ lS AU.o);rw[a0r.2.2]at HA8;go_wp2_with (fail);refine HA8.o.mono ?_;rintro e w9 ⟨rfl,hb⟩;have Fq:=Hd (HM8.o.below hb);clear hb HA8 HM8
 have ZN:=Hd (IA 1 0 Fq.o.at_ lS AU.o);rw[yj.1]at ZN;go_wp2_with (fail);refine ZN.o.mono ?_;rintro e w10 ⟨v,rfl,ho,hb⟩;have LP:=Hd (Fq.o.below hb);obtain⟨A,c,rfl,-,-,hr⟩:=ax.row ho iD;have HR:=Hd hr;have ZH:=Hd (CU 4 1 0 LP.o.at_ lS (by constructor<;>decide) (by constructor<;>decide) (by constructor<;>decide));rw[a0t]at ZH;clear hb ho hr ZN Fq;go_wp2_with (fail);refine ZH.o.mono ?_;rintro e BZ ⟨rfl,hb⟩;have a04:=Hd (LP.o.below hb)
 obtain⟨g0,o0,rA,hc⟩:=(aU.below HR.o hb) (by simp)
 have c0:BZ.cell? ⟨g0,o0,none⟩=some (.int .i64 4):=hc 0 (by simp) 0 _ rfl;have i0:=World.block_lt_of_cell? BZ _ c0;subst rA;clear hb hc HR ZH LP;go_wp2_with (fail);go_ret;exact⟨rfl,a04.o.bel⟩
end
section
open Go.RowKit fD fO aF Go.Maps
theorem G9{l:List It}{X Y k:Int}(h:k∈hits l X Y):∃q∈l,q.covers X Y=true∧q.i=k:=by
 unfold hits at h;split at h
 ·obtain⟨q,hq,e⟩:=List.mem_map.1 h;obtain⟨h1,h2⟩:=List.mem_filter.1 hq;exact⟨q,List.mem_reverse.1 h1,h2,e⟩
 ·cases h
theorem zt{x:aK}(hx:kM x){q:It}(h:q∈items x):has x.t q.i=true∧(x.nd q.i).hi=false∧(x.ws q.i).back.2=0∧(x.ws q.i).back.1=q.b∧q.lk=(x.nd q.i).lk:=by
 obtain⟨i,hi,he⟩:=List.mem_filterMap.1 h;have hh:=(iG hx.ok).1 hi;unfold dW at he;cases hd:cO x i with
 |none=>rw[hd]at he;cases he
 |some d=>
  rw[hd,Option.bind_some]at he;split at he
  ·cases he
  ·injection he with he
   subst he;rw[Di hx.ok (aj.1 hh)]at hd;obtain⟨d0,-,h1,rfl⟩:=step_some hd;unfold Dn.ok at h1;simp only[Bool.and_eq_true,Bool.not_eq_true',decide_eq_true_eq]at h1;exact⟨hh,h1.1,h1.2.1,rfl,rfl⟩
theorem Qb{q:It}{X Y:Int}(h:q.covers X Y=true):(0<=(Bd q.b X Y).1∧(Bd q.b X Y).1<q.lk.sz.1)∧0<=(Bd q.b X Y).2∧(Bd q.b X Y).2<q.lk.sz.2:=by
 unfold It.covers Cl.has at h;rw[Xi]at h;unfold Bx.has at h;simp only[Bool.and_eq_true,decide_eq_true_eq]at h;omega
theorem J7(l:List Int):∃i ok,TU l=.tuple #[.int .i64 i,.bool ok]∧(ok=true->i∈l):=by
 cases l with
 |nil=>exact⟨0,false,rfl,fun e=>nomatch e⟩
 |cons a l=>exact⟨a,true,rfl,fun _=>List.mem_cons_self⟩
theorem PK(A:Option Addr)(TL:List uS)(c:Nat)(X Y:Int)(w:World)(h1:Lj w A TL)(_:TL.length*24<=140737488351232)(_:-9223372036854775808<=X)(_:X<=9223372036854775807)(_:-9223372036854775808<=Y)(_:Y<=9223372036854775807) :
  Calls prog 5 (Vv A TL.length c X Y).toArray w (aY (.bool true) w):=by
 have HT:=Hd h1;have iO:=Hd (size_law TL A c w h1);clear h1;go_enter func5,ntmps5;go_wp2_with (fail);refine iO.o.mono ?_;unfold Zo;rintro e wa ⟨n,rfl,hn,a4c,hb1⟩;have iQ:=Hd hb1;have WC:=Hd hn;clear hb1 hn iO a4c;by_cases q0:n<0
 ·have t0:decide (n<0)=true:=decide_eq_true q0;clear q0;go_wp2_with (fail);refine(iV _).mono ?_;rintro e wz ⟨rfl,hbz⟩;have iZ:Hid (bz w wz):=(iQ.o).trans (hbz.mono (iQ.o).size);clear hbz;go_wp2_with (fail);go_ret;exact⟨rfl,iZ.o⟩
 have t0:decide (n<0)=false:=decide_eq_false q0;by_cases q1:X < -100
 ·have t1:decide (X < -100)=true:=decide_eq_true q1;clear q1;go_wp2_with (fail);refine(iV _).mono ?_;rintro e wz ⟨rfl,hbz⟩;have iZ:Hid (bz w wz):=(iQ.o).trans (hbz.mono (iQ.o).size);clear hbz;go_wp2_with (fail);go_ret;exact⟨rfl,iZ.o⟩
 have t1:decide (X < -100)=false:=decide_eq_false q1;by_cases q2:Y < -100
 ·have t2:decide (Y < -100)=true:=decide_eq_true q2;clear q2;go_wp2_with (fail);refine(iV _).mono ?_;rintro e wz ⟨rfl,hbz⟩;have iZ:Hid (bz w wz):=(iQ.o).trans (hbz.mono (iQ.o).size);clear hbz;go_wp2_with (fail);go_ret;exact⟨rfl,iZ.o⟩
 have t2:decide (Y < -100)=false:=decide_eq_false q2;by_cases q3:100<X
 ·have t3:decide (100<X)=true:=decide_eq_true q3;clear q3;go_wp2_with (fail);refine(iV _).mono ?_;rintro e wz ⟨rfl,hbz⟩;have iZ:Hid (bz w wz):=(iQ.o).trans (hbz.mono (iQ.o).size);clear hbz;go_wp2_with (fail);go_ret;exact⟨rfl,iZ.o⟩
 have t3:decide (100<X)=false:=decide_eq_false q3;by_cases q4:100<Y
 ·have t4:decide (100<Y)=true:=decide_eq_true q4;clear q4;go_wp2_with (fail);refine(iV _).mono ?_;rintro e wz ⟨rfl,hbz⟩;have iZ:Hid (bz w wz):=(iQ.o).trans (hbz.mono (iQ.o).size);clear hbz;go_wp2_with (fail);go_ret;exact⟨rfl,iZ.o⟩
 have t4:decide (100<Y)=false:=decide_eq_false q4;have HF:Hid (fits TL):=WC.o.1 (by omega);have Wq:Hid (oH X∧oH Y):=by show _∧_;unfold oH;omega
 clear q0 q1 q2 q3 q4 WC;go_wp2_with (fail);refine(JB A TL c wa (HT.o.below iQ.o) HF.o).mono ?_;unfold N8;rintro e wb ⟨g,b,m,s,v,x,rfl,hm,hd,hx,hxl⟩;obtain⟨Ad,cd,dm,rfl,-,-⟩:=hd.ex;have HMb:=Hd hm;have HX:=Hd hx;have HXL:=Hd hxl;have HXT:Hid (x.t.length<=900):=by show _<=_;omega
 clear hm hd hx hxl HT HF t0 t1 t2 t3 t4;have HZb:Hid (az (wb.alloc (.cells Vf.toArray 30)) wb.heap.size Vf):=aA wb Vf _;have xG:Hid (bz wb (wb.alloc (.cells Vf.toArray 30))):=bR.alloc nR _
 go_upto_region 4 with(first|(with_reducible refine gS ?_;first|(refine ay 30 _ _ rfl rfl rfl _ 0 rfl ((Vb 8 8 30 Ad x.t.length cd dm)) rfl (Vf) HZb.o ((Vb 8 8 30 Ad x.t.length cd dm)) rfl (nE rfl) ag rfl ?_;intro wc HWc HKc)))
 have HMc:=Hd (HMb.o.below (HWc.o.below xG.o nR));have a1o:=Hd (iQ.o.trans (HMc.o.bel.mono iQ.o.size));clear HZb xG HWc HKc HMb;have HAT:=Hd (yw X Y HMc.o.at_ HX.o HXT.o);obtain⟨i0,ok,hv0,hy0⟩:=J7 (hits (items x) X Y);rw[hv0]at HAT;have HY0:=Hd hy0;clear hv0 hy0;go_wp2_with (fail);refine HAT.o.mono ?_;rintro e wd ⟨rfl,hbd⟩;have HMd:=Hd (HMc.o.below hbd);have VZ:=Hd (a1o.o.trans (hbd.mono a1o.o.size));clear hbd HAT HMc a1o;cases ok with
 |false=>
  go_wp2_with (fail);refine(iV wd).mono ?_;rintro e wz ⟨rfl,hbz⟩;have iZ:Hid (bz w wz):=(VZ.o).trans (hbz.mono (VZ.o).size);clear hbz;go_wp2_with (fail);go_ret;exact⟨rfl,iZ.o⟩
 |true=>
  obtain⟨q,hq,hcv,hqi⟩:=G9 (HY0.o rfl);obtain⟨f1,f2,f3,f4,f5⟩:=zt HX.o hq;have HCI:=Hd (Qb hcv);rw[hqi]at f1 f2 f3 f4 f5;have wU:Hid (I64 i0):=kL HX.o.ok f1;have HHS:=Hd f1;have Be:Hid (dw x i0=x.nd i0):=by show _=_;unfold dw;rw[if_pos f1]
  have ZH:Hid (Bv (fJ x i0) (has x.t i0) X Y=.tuple (Vw (Bd q.b X Y).1 (Bd q.b X Y).2).toArray):=by
   show _=_;unfold Bv fJ;rw[if_pos f1,if_pos ⟨f1,f3⟩,f4]
  have HLC:=Hd (Gw HMd.o.at_ HX.o.fit i0 wU.o);rw[f1]at HLC;have a2K:Hid (q.lk.sz=(Cc (dw x i0).lk.k (dw x i0).lk.W (dw x i0).lk.iw,Cc (dw x i0).lk.k (dw x i0).lk.H (dw x i0).lk.ih)):=by show _=_;rw[Be.o,f5];rfl
  have DD:Hid ((dw x i0).hi=false):=by show _=_;rw[Be.o];exact f2
  clear hq hcv hqi f1 f2 f3 f4 f5 HY0;go_wp2_with (fail);refine HLC.o.mono ?_;rintro e we ⟨An,cn,rfl,hbe,-,-⟩;have HMe:=Hd (HMd.o.below hbe);have a1n:=Hd (VZ.o.trans (hbe.mono VZ.o.size));have HZe:Hid (az (we.alloc (.cells Va.toArray 77)) we.heap.size Va):=aA we Va _;have HBe:Hid (Below we.heap.size we (we.alloc (.cells Va.toArray 77))):=bR.alloc nR _;clear hbe HLC HMd VZ
  go_upto_region 10 with(first|(with_reducible refine gS ?_;first|(refine ay 77 _ _ rfl rfl rfl _ 0 rfl ((dw x i0).cs An cn) rfl (Va) HZe.o ((dw x i0).cs An cn) rfl (nE rfl) ag rfl ?_;intro wf HWf HKf)))
  have a1h:Hid (Below we.heap.size we wf):=HWf.o.below HBe.o nR;have HMf:=Hd (HMe.o.below a1h.o);have a1m:=Hd (a1n.o.trans (a1h.o.mono a1n.o.size))
  obtain⟨kn,hkn⟩:∃k,we.heap.size=k:=⟨_,rfl⟩
  rw[hkn]at HKf ⊢;have oh:=Hd (CU i0 X Y HMf.o.at_ HX.o wU.o Wq.o.1 Wq.o.2);rw[ZH.o]at oh
  obtain⟨pu,hpu⟩:∃p,(Bd q.b X Y).1=p:=⟨_,rfl⟩
  obtain⟨pv,hpv⟩:∃p,(Bd q.b X Y).2=p:=⟨_,rfl⟩
  rw[hpu,hpv,a2K.o]at HCI;rw[hpu,hpv]at oh;clear hkn hpu hpv HZe HBe a1h HWf HMe a1n ZH;go_wp2_with (fail);refine oh.o.mono ?_;rintro e wg ⟨rfl,hbg⟩;have HMg:=Hd (HMf.o.below hbg);have Ri:=Hd (HKf.o.below' hbg);have a1l:=Hd (a1m.o.trans (hbg.mono a1m.o.size));have ig:=Ri.o.inside;clear hbg oh HMf HKf a1m;go_wp2_with (first|(with_reducible refine gL ?_;first|(refine wt 75 13 rfl rfl rfl Ri.o ((dw x i0).lk.cs An cn) rfl underlying75 rfl ?_)))
  refine(size_any (dw x i0).lk.k (dw x i0).lk.W (dw x i0).lk.H (dw x i0).lk.p (dw x i0).lk.iw (dw x i0).lk.ih An (dw x i0).lk.l.length cn wg).mono ?_;rintro e wh ⟨rfl,hbh⟩;have HMh:=Hd (HMg.o.below hbh);have HKh:=Hd (Ri.o.below' hbh);have a1k:=Hd (a1l.o.trans (hbh.mono a1l.o.size));clear hbh HMg Ri a1l ig;have c7:wh.cell? ⟨kn,7,none⟩=some (.bool false):=by rw[←DD.o];exact HKh.o.cell 7
  have i7:=HKh.o.inside;obtain⟨⟨u1,u2⟩,u3,u4⟩:=HCI.o;generalize Cc (dw x i0).lk.k (dw x i0).lk.W (dw x i0).lk.iw=sw at*;generalize Cc (dw x i0).lk.k (dw x i0).lk.H (dw x i0).lk.ih=sh at*;have z1:decide (pu<0)=false:=decide_eq_false (by omega);have z2:decide (pv<0)=false:=decide_eq_false (by omega);have z3:decide (sw<=pu)=false:=decide_eq_false (by omega);have z4:decide (sh<=pv)=false:=decide_eq_false (by omega);have HDO:=Hd (PI HMh.o HX.o HXL.o wU.o HHS.o true _ rfl);clear u1 u2 u3 u4 HCI a2K
  go_wp2_with (first|((with_reducible show wpList _ _ _ (Oper.mk (some 111) (Op.build _ _) _ _ _ _::_) _ _);refine eH _ _ rfl rfl (by simp[go_sem]) (UB i0 _) ?_)|((with_reducible refine gB ?_);refine jw _ _ _ rfl rfl (by simp[go_sem]) (a4l ⟨Fg i0 true,none,0⟩ _) ?_));generalize (wh.alloc (.cells (gK.cs ⟨Fg i0 true,none,0⟩).toArray 85))=wi at*;refine HDO.o.2.mono ?_;rintro e wj ⟨s1,rfl,hm1,hb8,-⟩;have HMj:=Hd hm1;have a1j:Hid (bz w wj):=(a1k.o.trans (HDO.o.1.mono a1k.o.size)).trans (hb8.mono iQ.o.size)
  obtain⟨-,a1,-,-⟩:=qJ HX.o HHS.o true;have HYT:Hid ((hidS x i0 true).t=x.t):=a1;have HY:Hid (kM (hidS x i0 true)):=HX.o.apply fun o ho=>by rw[List.mem_singleton.1 ho];exact TY wU.o true
  have HYI:Hid (∀k∈hits (items (hidS x i0 true)) X Y,k≠i0∧within x.t k i0=false∧I64 k):=fun k hk=>by
   obtain⟨q,hq,-,hqi⟩:=G9 hk;have h9:=kL (HY.o).ok (zt HY.o hq).1;rw[JW HX.o HHS.o]at hq;have h2:=(List.mem_filter.1 hq).2;unfold kept at h2;rw[hqi]at h2 h9;simp only[Bool.not_eq_true',Bool.or_eq_false_iff,decide_eq_false_iff_not]at h2;exact⟨h2.1,h2.2,h9⟩
  clear hm1 hb8 HDO a1 c7 i7 z1 z2 z3 z4 HMh HKh a1k DD Be
  obtain⟨y,hy⟩:=aC (hidS x i0 true)
  rw[hy]at HMj HYT HY HYI;have Wp:Hid (y.t.length<=900):=by show _<=_;rw[HYT.o];exact HXT.o
  have ZN:=Hd (IA X Y HMj.o.at_ HY.o Wp.o);have AU:=Hd (Ha X Y HY.o Wp.o);have t2:((0:Int) != 0)=false:=by decide
  clear hy;go_wp2_with (fail);refine ZN.o.mono ?_;rintro e wk ⟨v,rfl,ho,hbk⟩;have HMk:=Hd (HMj.o.below hbk);have a3G:=Hd (a1j.o.trans (hbk.mono a1j.o.size));obtain⟨B1,d1,rfl,-,-,hr1⟩:=aV.l7 ho;have HR1:=Hd hr1;clear hbk ho hr1 ZN HMj a1j t2;generalize hits (items y) X Y=hl at*;have hnb:((hl.length:Nat):Int)<=1000:=by have:=AU.o;omega
  go_wp2_with (fail)
  go_loopw [123] (fun i wr=>∃k:Nat,k<=hl.length∧i=.int .i64 k∧Hid (bz wk wr)) (fun i _=>hl.length - (intOf i).toNat)
  case atStart=>exact⟨0,Nat.zero_le _,rfl,bR⟩
  case round=>
   obtain⟨k,hk,rfl,LY⟩:=hrel;generalize wr=wl at*;by_cases hlt:k<hl.length
   ·have t3:decide (k<hl.length)=true:=by simpa using hlt
    have ik:=Hd hlt;obtain⟨p2,o2,r2,k2⟩:=(HR1.o.below LY.o).at_ hlt;obtain⟨n1,n2,n3⟩:=HYI.o _ (List.getElem_mem hlt);unfold eI at k2;generalize hl[k]=z at*;cases r2;have i2:=World.block_lt_of_cell? wl _ k2;have hkb:((k:Nat):Int)<=1000:=by omega
    have HML:=Hd (HMk.o.below LY.o);obtain⟨⟨q0,-,-,-,-,-⟩,qi⟩:=HML.o.at_.top;have Ls:=Hd (WO HML.o.at_.tree z i0 n3 wU.o);rw[HYT.o,n2]at Ls;have hinv:=JY (.pointer (some ⟨b,0,none⟩)) (.int .i64 z) (.int .i64 i0);have te:(z==i0)=false:=by simpa using n1
    clear n1 n2 n3 hlt hk;go_wp2_with (fail);refine Ls.o.mono ?_;rintro e wm ⟨rfl,hbm⟩;have HBM:Hid (bz wk wm):=LY.o.trans (hbm.mono LY.o.size);clear hbm q0 qi hinv te k2 i2 HML Ls LY;go_wp2_with (fail)
    go_roundw
    case rel=>exact⟨k+1,ik.o,by go_num,HBM.o⟩
    case measure=>have:=ik.o;simp[intOf];omega
   ·obtain rfl:k=hl.length:=by omega
    have t3:decide (hl.length<hl.length)=false:=by simp
    have HBl:=Hd (a3G.o.trans (LY.o.mono a3G.o.size));clear hlt hk;go_wp2_with (fail);refine(iV wl).mono ?_;rintro e wz ⟨rfl,hbz⟩;have iZ:Hid (bz w wz):=(HBl.o).trans (hbz.mono (HBl.o).size);clear hbz;go_wp2_with (fail);go_ret;exact⟨rfl,iZ.o⟩
end
section
open Go.RowKit Go.ChangeShapes Go.WideShapes Go.ChangeAt Go.Deep
theorem own:ownKnob prog.godebug=none:=by kernel_rfl
theorem laidOut:laidOutB prog=true:=by kernel_rfl
theorem qj(b off j:Nat):(⟨b,off,none⟩:Addr).add j=⟨b,off+j,none⟩:=by unfold Addr.add;split<;>simp_all
theorem Dc{α:Type}{n:Nat}{p:Nat->α->Prop}(h:∀i,i<n->∃x,p i x):∃l:List α,l.length=n∧∀i (hi:i<l.length),p i l[i]:=by
 induction n with
 |zero=>exact⟨[],rfl,fun i hi=>by simp at hi⟩
 |succ n ih=>
  obtain⟨l,hl,hp⟩:=ih (fun i hi=>h i (by omega));obtain⟨x,hx⟩:=h n (by omega);refine⟨l++[x],by simp[hl],fun i hi=>?_⟩;rw[List.length_append,List.length_cons,List.length_nil]at hi;by_cases hin:i<l.length
  ·rw[List.getElem_append_left hin];exact hp i hin
  ·have:i=n:=by omega
   subst this
   have e:(l++[x])[i]'(by rw[List.length_append,List.length_cons,List.length_nil];omega)=x:=by
    rw[List.getElem_append_right (by omega)];simp[hl]
   rw[e];exact hx
end
end Go.Proofs.YthmegninhpihkaaGreat
