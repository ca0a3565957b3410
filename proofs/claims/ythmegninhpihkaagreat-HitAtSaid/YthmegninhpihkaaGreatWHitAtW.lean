import Derived.Test.YthmegninhpihkaaGreatWHtC
set_option maxHeartbeats 16000000
set_option maxRecDepth 100000
open Go.Proofs.Tryz
namespace Go.Proofs.YthmegninhpihkaaGreat
section
open Go.RowKit aF yl Go.Shelf
attribute [local go_sem] Oper.semAt_some
theorem Oy{fn:Func}{p q:Tmp}(h:fn.results=#[.cell p 3,.cell q 4])(tmps:Array Value)(w:World){g k:Nat}{v:Int}{b:Bool}(hp:tmps.getD p undef=.pointer (some ⟨g,0,none⟩))(hq:tmps.getD q undef=.pointer (some ⟨k,0,none⟩))
  (hc:w.cell? ⟨g,0,none⟩=some (.int .i64 v)) (hd:w.cell? ⟨k,0,none⟩=some (.bool b)):(results fn tmps).run prog w=.ok (.tuple #[.int .i64 v,.bool b]) w:=by
 have hp':tmps[p]?.getD undef=.pointer (some ⟨g,0,none⟩):=by simpa using hp
 have hq':tmps[q]?.getD undef=.pointer (some ⟨k,0,none⟩):=by simpa using hq
 simp[results,h,hp',hq',asAddr,go_sem,hc,hd]
def V3(l:List Int):Value:=.tuple #[.int .i64 (l.headD 0),.bool (!l.isEmpty)]
theorem zu{W:World}{g b m:Nat}{s:Sh}{Z:ZZ}{x:aJ}(X Y:Int)(h:ax W g b m s Z x)(hx:mV x)(hn:x.t.length<=900) :
  Calls prog 14 #[.pointer (some ⟨g,0,none⟩),.int .i64 X,.int .i64 Y] W fun e w'=>e=.returned (V3 (hits (items x) X Y))∧Below W.heap.size W w':=by
 have HS:=Hd h;have HX:=Hd hx;have HN:=Hd hn;clear h hx hn;refine bV func14 rfl ?_;simp only[ntmps14,List.size_toArray,List.length_cons,List.length_nil,Nat.reduceAdd,Nat.reduceSub,Array.replicate_succ,Array.replicate_zero,List.push_toArray,List.append_toArray,List.nil_append,List.cons_append];have HB0:Hid (Below W.heap.size W ((W.alloc (.cells #[.int .i64 0] 3)).alloc (.cells #[.bool false] 4))):=(bR.alloc nR _).alloc (by simp) _
 have HI0:Hid (au ((W.alloc (.cells #[.int .i64 0] 3)).alloc (.cells #[.bool false] 4)) W.heap.size [.int .i64 0] 3):=(au.new W [.int .i64 0] _).al _;have HO0:Hid (au ((W.alloc (.cells #[.int .i64 0] 3)).alloc (.cells #[.bool false] 4)) (W.heap.size+1) [.bool false] 4):=jO (W.alloc _) _ (by simp) [.bool false] _
 go_upto_region 1 with(fail)
 generalize ((W.alloc (.cells #[.int .i64 0] 3)).alloc (.cells #[.bool false] 4))=w0 at*;go_wp2_with (fail);refine(Eh g X Y w0).mono ?_;rintro e w1 ⟨rfl,hw⟩;obtain⟨hb1,ht⟩:=Ol hw;have HB1:Hid (Below W.heap.size W w1):=HB0.o.trans (hb1.mono HB0.o.size);have HI1:=Hd (HI0.o.stays (hb1.block _ HI0.o.inside));have HO1:=Hd (HO0.o.stays (hb1.block _ HO0.o.inside))
 have kZ:Hid (W.heap.size+1<w0.heap.size∧w0.heap.size<=w1.heap.size):=⟨HO0.o.inside,hb1.size⟩
 have HT:=Hd ht;clear hw hb1 ht HB0 HI0 HO0
 obtain⟨kx,hkx⟩:∃k,w0.heap.size=k:=⟨_,rfl⟩
 rw[hkx]at HT kZ ⊢
 obtain⟨sb,hsb⟩:∃k,W.heap.size=k:=⟨_,rfl⟩
 have PQ:=Hd hsb;rw[hsb]at kZ HI1 HO1 ⊢;clear hkx hsb;go_wp2_with (fail)
 refine kN (gf:=61) (lb:=#[.pointer (some ⟨kx+1,0,none⟩),.pointer (some ⟨kx+2,0,none⟩),.pointer (some ⟨kx,0,none⟩)]) rfl (enters_of func61 ag rfl) (es:=qE (hits (items x) X Y)) (R:=fun n=>Bk n) (Kp:=Kw (sb+1))
  (fun W1 hb=>?hit) Kw.trans (fun A B hb=>Kw.bk hb) (fun n A B h k o hk hA _=>(h.low (Array.getElem?_eq_some_iff.1 hA).1 hk).trans hA)
  (fun e he=>by obtain⟨j,_,rfl⟩:=List.mem_map.1 he;rfl)
  (fun k W'=>k=0∧Below sb W W'∧au W' sb [.int .i64 0] 3∧au W' (sb+1) [.bool false] 4)
  (fun c _ W'=>c=.ret∧Below sb W W'∧∃i l,hits (items x) X Y=i::l∧au W' sb [.int .i64 i] 3∧au W' (sb+1) [.bool true] 4) (fun k A B h hr=>?hI) (fun c k A B h hr=>?hIx) ⟨rfl,PQ.o ▸ HB1.o,HI1.o,HO1.o⟩ ?a1 ?assign ?body ?done ?stop
 case hit=>
  have hb1:Below W.heap.size W W1:=HB1.o.trans (hb.below HB1.o.size HB1.o.size);have h1:=kZ.o;exact Ef (HS.o.below hb1) HX.o HN.o (HT.o.keep fun _ _ ha _=>eQ hb ha) ((HO1.o.bk hb).blk.cell 0) rfl ⟨by omega,by omega,by omega⟩
 case hI=>
  obtain⟨hk,h1,h2,h3⟩:=h;have hb:Bk w1.heap.size A B:=hr.elim (fun⟨n,hn,h⟩=>h.mono hn) id;have hs:=kZ.o;exact⟨hk,h1.trans (hb.below (by omega) (PQ.o ▸ h1.size)),h2.bk hb,h3.bk hb⟩
 case hIx=>
  obtain⟨hk,h1,i,l,h2,h3,h4⟩:=h;have hb:Bk w1.heap.size A B:=hr.elim (fun⟨n,hn,h⟩=>h.mono hn) id;have hs:=kZ.o;exact⟨hk,h1.trans (hb.below (by omega) (PQ.o ▸ h1.size)),i,l,h2,h3.bk hb,h4.bk hb⟩
 case assign=>
  intro l j hj W9 KK FQ;rw[OY]
  gi_wp2
  exact FQ
 case done=>
  rintro D W9 hD ⟨hk,h1,h2,h3⟩ hd;have HE:Hid (hits (items x) X Y=[]):=List.map_eq_nil_iff.1 (List.eq_nil_of_length_eq_zero hk);have hs:=kZ.o;have HD:Hid (sb+1<D):=by show _<_;omega
  have Yf:=Hd hd;have pV:=Hd h1;have c1:=h2.blk.cell 0;have i1:=h2.inside;have c2:=h3.blk.cell 0;have i2:=h3.inside;have f1:=h2.blk.free 0;have f2:=h3.blk.free 0
  have JH:Hid (∀v u,au ((W9.setCell ⟨sb,0,none⟩ v).setCell ⟨sb+1,0,none⟩ u) sb [v] 3∧au ((W9.setCell ⟨sb,0,none⟩ v).setCell ⟨sb+1,0,none⟩ u) (sb+1) [u] 4):=fun v u=>⟨(h2.set 0 v).stays (heap_setCell_other _ _ _ _ (show sb≠sb+1 by omega)),(h3.stays (heap_setCell_other _ _ _ _ (show sb+1≠sb by omega))).set 0 u⟩
  simp only[List.getElem?_cons_zero]at c1 c2;clear hk h1 h2 h3 hd hs hD;go_wp2_with (fail)
  refine dI sb ⟨⟨D,rfl,by have:=HD.o;omega,(heap_setCell_other _ _ _ _ ?_).trans ((heap_setCell_other _ _ _ _ ?_).trans Yf.o),by simp⟩,trivial⟩ fun w' hb=>⟨_,Oy rfl _ _ rfl rfl (((JH.o _ _).1.bk hb).blk.cell 0) (((JH.o _ _).2.bk hb).blk.cell 0),?_⟩
  ·have:=HD.o;show D≠sb+1;omega
  ·have:=HD.o;show D≠sb;omega
  ·rw[HE.o];exact⟨rfl,PQ.o ▸ (((pV.o.setCell nR _).setCell (Nat.le_succ _) _).trans (hb.below nR (by have:=pV.o.size;have:=PQ.o;simp[World.setCell];omega)))⟩
 case body=>
  rintro l j hj W9 ⟨rfl,h1,h2,h3⟩;have hjl:0<(hits (items x) X Y).length:=by unfold qE at hj;simpa using hj
  obtain⟨i,l9,hil⟩:∃i l9,hits (items x) X Y=i::l9:=List.exists_cons_of_length_pos hjl;have Ub:=Hd h1;have c1:=h2.blk.cell 0;have i1:=h2.inside;have c2:=h3.blk.cell 0;have i2:=h3.inside;have f1:=h2.blk.free 0;have f2:=h3.blk.free 0
  have JH:Hid (∀v u,KB W9 ((W9.setCell ⟨sb,0,none⟩ v).setCell ⟨sb+1,0,none⟩ u)∧au ((W9.setCell ⟨sb,0,none⟩ v).setCell ⟨sb+1,0,none⟩ u) sb [v] 3∧au ((W9.setCell ⟨sb,0,none⟩ v).setCell ⟨sb+1,0,none⟩ u) (sb+1) [u] 4):=fun v u=>⟨(KB.set (a:=⟨sb,0,none⟩) h2 rfl v).trans (KB.set (a:=⟨sb+1,0,none⟩) (h3.stays (heap_setCell_other _ _ _ _ (show sb+1≠sb by omega))) rfl u),(h2.set 0 v).stays (heap_setCell_other _ _ _ _ (show sb≠sb+1 by omega)),(h3.stays (heap_setCell_other _ _ _ _ (show sb+1≠sb by omega))).set 0 u⟩
  simp only[List.getElem?_cons_zero]at c1 c2;rw[hil];clear h1 h2 h3 hj hjl hil
  gi_wp2_with (fail)
  exact⟨(JH.o _ _).1,rfl,(Ub.o.setCell nR _).setCell (Nat.le_succ _) _,i,l9,rfl,(JH.o _ _).2.1,(JH.o _ _).2.2⟩
 case stop=>
  rintro D c k W9 hD hk ⟨rfl,h1,i,l,hil,h2,h3⟩ hd;have hs:=kZ.o;go_wp2_with (fail)
  refine dI sb ⟨⟨D,rfl,by omega,hd,by simp⟩,trivial⟩ fun w' hb=>⟨_,Oy rfl _ _ rfl rfl ((h2.bk hb).blk.cell 0) ((h3.bk hb).blk.cell 0),?_⟩
  rw[hil];exact⟨rfl,PQ.o ▸ h1.trans (hb.below nR (PQ.o ▸ h1.size))⟩
end
section
open Go.RowKit fF fO aF Go.Maps
theorem Ou(n k:Int):kS (n+k*65536) 65536=kS n 65536+k:=by
 unfold kS;rw[Int.add_mul_emod_self_right,Int.add_mul_ediv_right _ _ (by decide)];split<;>omega
theorem IG(a c e f x y:Int):a*(x*65536+32768 - e)+c*(y*65536+32768 - f)=a*(0*65536+32768 - e)+c*(0*65536+32768 - f)+(a*x+c*y)*65536:=by
 rw[show x*65536+32768 - e=(0*65536+32768 - e)+x*65536 from by omega,show y*65536+32768 - f=(0*65536+32768 - f)+y*65536 from by omega,Int.mul_add,Int.mul_add,Int.add_mul,Int.mul_assoc,Int.mul_assoc];omega
theorem Bd(b:Mp)(x y:Int):(b.from_ (qH x y)).x=(b.from_ (qH 0 0)).x+(b.a*x+b.c*y)∧(b.from_ (qH x y)).y=(b.from_ (qH 0 0)).y+(b.b*x+b.d*y):=by
 unfold Mp.from_ qH;simp only;rw[IG b.a b.c,IG b.b b.d,Ou,Ou];exact⟨rfl,rfl⟩
theorem Q9(a x y e1 e2:Int):e1*(x / 65536)+e2*(y / 65536)+(a+e1*(x % 65536)+e2*(y % 65536)) / 65536=(a+(e1*x+e2*y)) / 65536:=by
 have hx:e1*x=e1*(x % 65536)+e1*(x / 65536)*65536:=by
  conv=>lhs;rw[←Int.emod_add_mul_ediv x 65536]
  rw[Int.mul_add,Int.mul_comm 65536,←Int.mul_assoc]
 have hy:e2*y=e2*(y % 65536)+e2*(y / 65536)*65536:=by
  conv=>lhs;rw[←Int.emod_add_mul_ediv y 65536]
  rw[Int.mul_add,Int.mul_comm 65536,←Int.mul_assoc]
 rw[hx,hy];omega
theorem UZ{e q:Int}(he:-4294967296<=e∧e<=4294967296)(hq:0<=q∧q<65536):-281474976710656<=e*q∧e*q<=281474976710656:=by
 have g1:0<=(4294967296 - e)*q:=Int.mul_nonneg (by omega) hq.1;have g2:0<=(4294967296+e)*q:=Int.mul_nonneg (by omega) hq.1;rw[Int.sub_mul]at g1;rw[Int.add_mul]at g2;omega
theorem OG{e q:Int}(he:-4294967296<=e∧e<=4294967296)(hq:-1<=q∧q<=0):-4294967296<=e*q∧e*q<=4294967296:=by
 have:q=-1∨q=0:=by omega
 rcases this with rfl|rfl<;>omega
def su(x y e1 e2:Int):List Value:=(Vm x e1 y e2)
def wP(x:Int):Prop:=-16384<=x∧x<=16383
def jF(e:Int):Prop:=-4294967296<=e∧e<=4294967296
theorem AX(a x y e1 e2:Int)(hx:wP x)(hy:wP y)(ha:-4611686018427387904<=a*2∧a*2<=4611686018427387904)(he1:jF e1)(he2:jF e2)(g c:Nat)(w:World)(hB:aA w g (su x y e1 e2)) :
  Calls prog 39 #[.int .i64 a,.slice (some ⟨g,0,none⟩) 2 c] w (aX (.int .i64 ((a+(e1*x+e2*y)) / 65536)) w):=by
 have HB:=Hd hB;have J9:Hid (e1*(x / 65536)+e2*(y / 65536)+(a+e1*(x % 65536)+e2*(y % 65536)) / 65536=(a+(e1*x+e2*y)) / 65536):=Q9 a x y e1 e2;generalize (a+(e1*x+e2*y)) / 65536=a3f at*
 obtain⟨q1,hq1⟩:∃q,x / 65536=q:=⟨_,rfl⟩
 obtain⟨r1,hr1⟩:∃r,x % 65536=r:=⟨_,rfl⟩
 obtain⟨P1,hP1⟩:∃P,e1*q1=P:=⟨_,rfl⟩
 obtain⟨R1,hR1⟩:∃R,e1*r1=R:=⟨_,rfl⟩
 have bP1:=OG (e:=e1) (q:=q1) he1 (by unfold wP at hx;omega);have bR1:=UZ (e:=e1) (q:=r1) he1 (by omega);rw[hP1]at bP1;rw[hR1]at bR1
 obtain⟨W1,hW1⟩:∃W,0+P1=W:=⟨_,rfl⟩
 obtain⟨A1,hA1⟩:∃W,a+R1=W:=⟨_,rfl⟩
 obtain⟨q2,hq2⟩:∃q,y / 65536=q:=⟨_,rfl⟩
 obtain⟨r2,hr2⟩:∃r,y % 65536=r:=⟨_,rfl⟩
 obtain⟨P2,hP2⟩:∃P,e2*q2=P:=⟨_,rfl⟩
 obtain⟨R2,hR2⟩:∃R,e2*r2=R:=⟨_,rfl⟩
 have bP2:=OG (e:=e2) (q:=q2) he2 (by unfold wP at hy;omega);have bR2:=UZ (e:=e2) (q:=r2) he2 (by omega);rw[hP2]at bP2;rw[hR2]at bR2
 obtain⟨W2,hW2⟩:∃W,W1+P2=W:=⟨_,rfl⟩
 obtain⟨A2,hA2⟩:∃W,A1+R2=W:=⟨_,rfl⟩
 rw[hq1,hq2,hr1,hr2,hP1,hP2,hR1,hR2,hA1,hA2]at J9;have hw1:W1=P1:=by omega
 have hf:=J9.o;rw[←hw1,hW2]at hf;have HFL:=Hd (fun w:World=>nN (xn A2 w (by omega) (by omega)))
 obtain⟨F,hF⟩:=aB (A2 / 65536)
 rw[hF]at HFL hf;have uo:wrap64 a3f=a3f:=IntWalk.wrap64_in _ (by omega);have s1:x / 2 ^ 16=q1:=hq1;have m1:bits .and .i64 x 65535=r1:=(wY x).trans hr1;have uP1:wrap64 P1=P1:=IntWalk.wrap64_in _ (by omega);have uR1:wrap64 R1=R1:=IntWalk.wrap64_in _ (by omega);have uW1:wrap64 W1=W1:=IntWalk.wrap64_in _ (by omega);have uA1:wrap64 A1=A1:=IntWalk.wrap64_in _ (by omega);have s2:y / 2 ^ 16=q2:=hq2;have m2:bits .and .i64 y 65535=r2:=(wY y).trans hr2;have uP2:wrap64 P2=P2:=IntWalk.wrap64_in _ (by omega);have uR2:wrap64 R2=R2:=IntWalk.wrap64_in _ (by omega)
 have uW2:wrap64 W2=W2:=IntWalk.wrap64_in _ (by omega);have uA2:wrap64 A2=A2:=IntWalk.wrap64_in _ (by omega);have ng:=Hd (And.intro s1 (And.intro m1 (And.intro uP1 (And.intro uR1 (And.intro uW1 (And.intro uA1 (And.intro hP1 (And.intro hR1 (And.intro hW1 hA1)))))))));have HE2:=Hd (And.intro s2 (And.intro m2 (And.intro uP2 (And.intro uR2 (And.intro uW2 (And.intro uA2 (And.intro hP2 (And.intro hR2 (And.intro hW2 hA2)))))))));have HW1:Hid (wrap64 (wrap64 (e1*(x / 65536)))=W1):=by show _=_;rw[hq1,hP1,uP1,uP1];omega
 have HW2:Hid (wrap64 (W1+wrap64 (e2*(y / 65536)))=W2):=by show _=_;rw[hq2,hP2,uP2,hW2,uW2]
 have HO:=Hd (And.intro hf uo);clear hq1 hr1 bP1 bR1 hq2 hr2 bP2 bR2 hx hy ha he1 he2 hB J9 hw1 hF s1 m1 uP1 uR1 uW1 uA1 s2 m2 uP2 uR2 uW2 uA2 hf uo hP1 hR1 hW1 hA1 hP2 hR2 hW2 hA2;go_enter func39,ntmps39;go_wp2_with (fail)
 go_loopw [10,5,0] (fun i u v wr=>∃k:Nat,i=.int .i64 k∧((k=0∧u=.int .i64 0∧v=.int .i64 a)∨(k=1∧u=.int .i64 W1∧v=.int .i64 A1)∨(k=2∧u=.int .i64 W2∧v=.int .i64 A2))∧Hid (bz w wr)) (fun i _ _ _=>2 - (intOf i).toNat)
 case atStart=>exact⟨0,rfl,.inl ⟨rfl,rfl,rfl⟩,bR⟩
 case round=>
  obtain⟨k,rfl,hk,HR⟩:=hrel;generalize wr=wj at*;have hb:=(HB.o.below' HR.o).cell;have ib:=(HB.o.below' HR.o).inside;rcases hk with ⟨rfl,rfl,rfl⟩|⟨rfl,rfl,rfl⟩|⟨rfl,rfl,rfl⟩
  ·have c0:=hb 0;have c1:=hb 1;unfold su at c0 c1;simp only[List.getElem?_cons_zero,List.getElem?_cons_succ]at c0 c1;obtain⟨s1,m1,uP1,uR1,uW1,uA1,hP1,hR1,hW1,hA1⟩:=ng.o;clear hb;go_wp2_with (fail)
   go_roundw
   case rel=>exact⟨1,by go_num,.inr (.inl ⟨rfl,by rw[HW1.o],by rw[uA1]⟩),HR.o.trans ((bR.alloc nR _).mono HR.o.size)⟩
   case measure=>simp[intOf]
  ·have c0:=hb 2;have c1:=hb 3;unfold su at c0 c1;simp only[List.getElem?_cons_zero,List.getElem?_cons_succ]at c0 c1;obtain⟨s1,m1,uP1,uR1,uW1,uA1,hP1,hR1,hW1,hA1⟩:=HE2.o;clear hb;go_wp2_with (fail)
   go_roundw
   case rel=>exact⟨2,by go_num,.inr (.inr ⟨rfl,by rw[HW2.o],by rw[uA1]⟩),HR.o.trans ((bR.alloc nR _).mono HR.o.size)⟩
   case measure=>simp[intOf]
  ·clear hb ib;go_wp2_with (fail);refine(HFL.o wj).mono ?_;rintro e w2 ⟨rfl,hb2⟩;have HB2:=Hd (HR.o.trans (hb2.mono HR.o.size));obtain⟨hf,uo⟩:=HO.o;clear hb2;go_wp2_with (fail);go_ret;exact⟨aC HO.o.2,HB2.o⟩
end
section
open Go.RowKit fF fO aF Go.Maps
def Z2:List Value:=[.int .i64 0,.int .i64 0]
theorem JN.miss{B g:Nat}{zs cs:List Value}{iA iS:Bool}{v:Value}{w w':World}(h:JN B [] zs cs iA iS v w)(hne:iA=true->v≠.pointer (some ⟨g,0,none⟩))(hW:Wrote g w w'):JN B [] zs cs iA iS v w':=
 ⟨⟨trivial,by rw[hW.size];exact h.1.2.1,fun _ hp=>nomatch hp⟩,fun e=>by
  obtain⟨k,e1,hg,hB⟩:=h.2.1 e
  exact⟨k,e1,hg,hW.blk (fun e2=>hne e (by rw[e1,e2])) hB⟩,h.2.2⟩
structure J3(B:Nat)(c0 c1 c2:List Value)(a0 a1 a2 s0 s1 s2:Bool)(v0 v1 v2:Value)(w:World):Prop where
 x0:JN B [] Z2 c0 a0 s0 v0 w
 x1:JN B [] Z2 c1 a1 s1 v1 w
 x2:JN B [] Z2 c2 a2 s2 v2 w
 n01:a0=true->a1=true->v0≠v1
 n12:a1=true->a2=true->v1≠v2
 n20:a2=true->a0=true->v2≠v0
section
variable {B g:Nat}{c0 c1 c2:List Value}{a0 a1 a2 s0 s1 s2:Bool}{v0 v1 v2 u0 u1 u2:Value}{w w':World}{T:TypeId}
theorem J3.Tv(h:J3 B c0 c1 c2 a0 a1 a2 s0 s1 s2 v0 v1 v2 w):J3 B c1 c2 c0 a1 a2 a0 s1 s2 s0 v1 v2 v0 w:=⟨h.x1,h.x2,h.x0,h.n12,h.n20,h.n01⟩
theorem J3.slots(h:J3 B c0 c1 c2 a0 a1 a2 s0 s1 s2 v0 v1 v2 w)(e0:u0=v0)(e1:u1=v1)(e2:u2=v2):J3 B c0 c1 c2 a0 a1 a2 s0 s1 s2 u0 u1 u2 w:=by rw[e0,e1,e2];exact h
theorem J3.below(h:J3 B c0 c1 c2 a0 a1 a2 s0 s1 s2 v0 v1 v2 w)(hb:bz w w'):J3 B c0 c1 c2 a0 a1 a2 s0 s1 s2 v0 v1 v2 w':=⟨h.x0.below hb,h.x1.below hb,h.x2.below hb,h.n01,h.n12,h.n20⟩
theorem JN.away{cs:List Value}{iA iS:Bool}{v:Value}(h:JN B [] Z2 cs iA iS v w)(e:iA=true):v≠.pointer (some ⟨w.heap.size,0,none⟩):=by
 obtain⟨k,e1,-,hB⟩:=h.2.1 e;have:=hB.inside;rw[e1];intro e
 injection e with e
 injection e with e
 injection e with e
 omega
theorem J3.new(h:J3 B c0 c1 c2 a0 a1 a2 s0 s1 s2 v0 v1 v2 w)(eA:a0=false)(e0:u0=.pointer (some ⟨w.heap.size,0,none⟩))(e1:u1=v1)(e2:u2=v2):J3 B c0 c1 c2 true a1 a2 s0 s1 s2 u0 u1 u2 (w.alloc (.cells Z2.toArray T)):=by
 rw[e1,e2];have hb:bz w (w.alloc (.cells Z2.toArray T)):=bR.alloc nR _;exact⟨h.x0.new eA e0,h.x1.below hb,h.x2.below hb,fun _ k=>by rw[e0];exact Ne.symm (h.x1.away k),h.n12,fun k _=>by rw[e0];exact h.x2.away k⟩
theorem J3.put(h:J3 B c0 c1 c2 a0 a1 a2 s0 s1 s2 v0 v1 v2 w)(eA:a0=true)(eS:s0=false)(ev:v0=.pointer (some ⟨g,0,none⟩))(hW:Wrote g w w')(hB:aA w' g c0):J3 B c0 c1 c2 a0 a1 a2 true s1 s2 v0 v1 v2 w'∧Below B w w':=by
 obtain⟨h1,h2⟩:=h.x0.Ht eA eS ev hW hB rfl;exact⟨⟨h1,h.x1.miss (fun k=>by rw[←ev];exact Ne.symm (h.n01 eA k)) hW,h.x2.miss (fun k=>by rw[←ev];exact h.n20 k eA) hW,h.n01,h.n12,h.n20⟩,h2⟩
end
theorem vw(x e:Int)(w:World):(Instr.build 126 #[(0,.int .i64 x),(1,.int .i64 e)]).run prog w=.ok (.agg #[.int .i64 x,.int .i64 e]) w:=by kernel_rfl
theorem a0M(x y e1 e2:Int)(w:World):(Instr.buildSlice 172 2 #[(0,.agg #[.int .i64 x,.int .i64 e1]),(1,.agg #[.int .i64 y,.int .i64 e2])]).run prog w=.ok (.slice (some ⟨w.heap.size,0,none⟩) 2 2) (w.alloc (.cells (su x y e1 e2).toArray 126)):=by kernel_rfl
def IC(m:Mp)(ok:Bool)(X Y:Int):Value:=if ok=true∧m.back.2=0 then .tuple #[.int .i64 (uF m.back.1 X Y).1,.int .i64 (uF m.back.1 X Y).2,.bool true] else .tuple Vw.toArray
def YJ(p:Pt):Prop:=(-1152921504606846976<=p.x∧p.x<=1152921504606846976)∧(-1152921504606846976<=p.y∧p.y<=1152921504606846976)
theorem Ot{n:Int}(h:-9223372036854775808<=n∧n<=9223372036854775808):-1152921504606846976<=kS n 65536∧kS n 65536<=1152921504606846976:=by
 unfold kS;split<;>omega
theorem xm{b:Mp}(hb:b.right=true){x y:Int}(hx:-32768<=x∧x<=32767)(hy:-32768<=y∧y<=32767):YJ (b.from_ (qH x y)):=by
 obtain⟨hr,hx,hy⟩:=xA hb hx hy;obtain⟨ra,rb,rc,rd,re,rf⟩:=lY hr;have bu:-3221225472<=(qH x y).x - b.e∧(qH x y).x - b.e<=3221225472:=by omega
 have bv:-3221225472<=(qH x y).y - b.f∧(qH x y).y - b.f<=3221225472:=by omega
 have p1:=eH ra.1 ra.2 bu.1 bu.2;have p2:=eH rc.1 rc.2 bv.1 bv.2;have p3:=eH rb.1 rb.2 bu.1 bu.2;have p4:=eH rd.1 rd.2 bv.1 bv.2;exact⟨Ot (by omega),Ot (by omega)⟩
theorem QN{W:World}{g b9 m:Nat}{s:Sh}{Z:ZZ}{x:aJ}(i X Y:Int)(h:ax W g b9 m s Z x)(hx:mV x)(hi:I64 i)(hX:wP X)(hY:wP Y) :
  Calls prog 15 (Vt g i X Y).toArray W (aX (IC (gy x i) (has x.t i) X Y) W):=by
 have HWD:=Hd (Dz h i hi)
 have HR:Hid (has x.t i=true->(gy x i).right=true):=fun hh=>by
  unfold gy;rw[if_pos hh];exact jg hx.ok (fun i=>(hx.good i) |> fun h=>(iO h).1) (aj.1 hh) _ (hx.set i hh (fun _ _ h=>h) (fun h=>h))
 have HXY:=Hd (And.intro hX hY);generalize gy x i=u at*;generalize has x.t i=ok at*
 obtain⟨R,hR⟩:=aB u.back
 obtain⟨b,er⟩:=R
 have zF:Hid (ok=true->er=0->b.right=true):=fun h1 h2=>by
  have h3:=Jc (HR.o h1) (by (try show Below _ _ _);rw[hR];exact h2);rw[hR]at h3;exact h3
 have zH:Hid (∀w:World,Calls prog 36 #[.agg u.cs.toArray] w (aX (.tuple #[.agg b.cs.toArray,.int .i64 er]) w)):=fun w=>by
  have h:=OH u w;rw[hR]at h;exact h
 have JY:Hid (IC u ok X Y=if ok=true∧er=0 then .tuple #[.int .i64 (uF b X Y).1,.int .i64 (uF b X Y).2,.bool true] else .tuple Vw.toArray):=by show _=_;unfold IC;rw[hR]
 clear h hx hi hX hY hR HR;go_enter func15,ntmps15;go_wp2_with (fail);refine HWD.o.mono ?_;rintro e w1 ⟨rfl,hb1⟩;have HB1:=Hd hb1;have HZ1:Hid (aA (w1.alloc (.cells Vd.toArray 67)) w1.heap.size Vd):=az w1 Vd _;have PY:Hid (bz w1 (w1.alloc (.cells Vd.toArray 67))):=bR.alloc nR _;clear hb1 HWD
 go_upto_region 2 with(first|(with_reducible refine gS ?_;first|(refine ay 67 _ _ rfl rfl rfl _ 0 rfl (u.cs) rfl (Vd) HZ1.o (u.cs) rfl (nE rfl) ag rfl ?_;intro w2 HW2 dh)))
 have HB2:Hid (bz W w2):=HB1.o.trans ((HW2.o.below PY.o nR).mono HB1.o.size);have i2:=dh.o.inside;clear HZ1 PY HW2 HB1;go_wp2_with (first|(with_reducible refine gL ?_;first|(refine wt 67 0 rfl rfl rfl dh.o (u.cs) rfl underlying67 rfl ?_)));refine(zH.o w2).mono ?_;rintro e w5 ⟨rfl,hb5⟩;have gV:Hid (bz W w5):=HB2.o.trans (hb5.mono HB2.o.size);have HZ5:Hid (aA (w5.alloc (.cells Vd.toArray 117)) w5.heap.size Vd):=az w5 Vd _
 have PY:Hid (Below w5.heap.size w5 (w5.alloc (.cells Vd.toArray 117))):=bR.alloc nR _;clear hb5 zH HB2 dh i2
 go_upto_region 3 with(first|(with_reducible refine gS ?_;first|(refine ay 117 _ _ rfl rfl rfl _ 0 rfl (b.cs) rfl (Vd) HZ5.o (b.cs) rfl (nE rfl) ag rfl ?_;intro w3 HW3 dO)))
 have HB3:Hid (bz W w3):=gV.o.trans ((HW3.o.below PY.o nR).mono gV.o.size)
 obtain⟨kb,hkb⟩:∃k,w5.heap.size=k:=⟨_,rfl⟩
 rw[hkb]at dO ⊢;clear HZ5 PY HW3 gV hkb;cases ok with
 |false=>
  have HV:Hid (IC u false X Y=.tuple Vw.toArray):=JY.o.trans (if_neg (by simp));go_wp2_with (fail)
  go_ret3
  exact⟨by rw[HV.o];rfl,HB3.o⟩
 |true=>
 by_cases h0:er=0
 ·have t0:(er != 0)=false:=by simp[h0]
  have HV:Hid (IC u true X Y=.tuple #[.int .i64 (uF b X Y).1,.int .i64 (uF b X Y).2,.bool true]):=JY.o.trans (if_pos ⟨rfl,h0⟩);have lX:=Hd (zF.o rfl h0);clear JY zF h0;have FB:Hid (∀W,bz w3 W->aA W kb b.cs):=fun W hb=>dO.o.below' hb
  obtain⟨p0,hp0⟩:∃p,b.from_ (qH 0 0)=p:=⟨_,rfl⟩
  obtain⟨p1,hp1⟩:∃p,b.from_ (qH 1 0)=p:=⟨_,rfl⟩
  obtain⟨p2,hp2⟩:∃p,b.from_ (qH 0 1)=p:=⟨_,rfl⟩
  have HT0:Hid (∀w:World,Calls prog 37 #[.agg b.cs.toArray,.agg (qH 0 0).cs.toArray] w (aX (.agg p0.cs.toArray) w)):=fun w=>hp0 ▸ y7 b (qH 0 0) w (xA lX.o (by decide) (by decide));have HT1:Hid (∀w:World,Calls prog 37 #[.agg b.cs.toArray,.agg (qH 1 0).cs.toArray] w (aX (.agg p1.cs.toArray) w)):=fun w=>hp1 ▸ y7 b (qH 1 0) w (xA lX.o (by decide) (by decide))
  have HT2:Hid (∀w:World,Calls prog 37 #[.agg b.cs.toArray,.agg (qH 0 1).cs.toArray] w (aX (.agg p2.cs.toArray) w)):=fun w=>hp2 ▸ y7 b (qH 0 1) w (xA lX.o (by decide) (by decide))
  have Gq:Hid ((p1.x - p0.x=b.a∧p1.y - p0.y=b.b)∧(p2.x - p0.x=b.c∧p2.y - p0.y=b.d)∧(uF b X Y).1=(p0.x+(b.a*X+b.c*Y)) / 65536∧(uF b X Y).2=(p0.y+(b.b*X+b.d*Y)) / 65536):=by
   have e1:=Bd b 1 0;have e2:=Bd b 0 1;have e3:=Bd b X Y;rw[hp0,hp1]at e1;rw[hp0,hp2]at e2;rw[hp0]at e3;unfold uF;rw[e3.1,e3.2];simp only[Int.mul_one,Int.mul_zero,Int.add_zero,Int.zero_add]at e1 e2;refine⟨⟨by omega,by omega⟩,⟨by omega,by omega⟩,rfl,rfl⟩
  have Dw:Hid (YJ p0∧YJ p1∧YJ p2∧(jF b.a∧jF b.b)∧jF b.c∧jF b.d):=by
   obtain⟨r1,r2,r3,r4,-,-⟩:=lY lX.o;refine⟨hp0 ▸ xm lX.o (by decide) (by decide),hp1 ▸ xm lX.o (by decide) (by decide),hp2 ▸ xm lX.o (by decide) (by decide),⟨?_,?_⟩,?_,?_⟩<;>(unfold jF;omega)
  clear hp0 hp1 hp2 lX
  go_upto_region 5 with(fail)
  refine Kr (Below w3.heap.size) (fun L V wx=>J3 w3.heap.size p0.cs p1.cs p2.cs (L 9) (L 10) (L 11) (L 12) (L 13) (L 14) (V 14) (V 15) (V 16) wx) [34,35,36,37,38,39,40,41,42,14,15,16] (fun _=>bR) (fun _ _ _ h k=>h.trans k) (fun i=>match i with
   |0|3|6=>rV (.agg (b.cs).toArray)
   |1=>rV (.agg ((qH 0 0).cs).toArray)
   |2=>rV (.agg (p0.cs).toArray)
   |4=>rV (.agg ((qH 1 0).cs).toArray)
   |5=>rV (.agg (p1.cs).toArray)
   |7=>rV (.agg ((qH 0 1).cs).toArray)
   |8=>rV (.agg (p2.cs).toArray)
   |_=>ra) (bR.drew) (⟨JN.start (old:=[]) trivial,JN.start (old:=[]) trivial,JN.start (old:=[]) trivial,nofun,nofun,nofun⟩) ⟨?_,?_,?_,?_,?_,?_,?_,?_,?_,?_,?_,?_,?_,?_,?_,trivial⟩ ?_
  any_goals (first|refine fK fun L a w1 hh=>?_|fail)
  ·have h12:=hh.p 12 kb 0;have hB:=Hd (FB.o _ hh.rel);have hJ:=Hd hh.st;exact aN 117 _ rfl kb 0 (by simpa[go_sem]using h12) _ hB.o (b.cs) rfl _ underlying117 rfl ag ⟨_,rfl,bR,rfl,J3.slots hJ.o sn sn sn⟩
  ·have hC:=Hd (pJ 0 0 w1 (by constructor<;>decide) (by constructor<;>decide));have hJ:=hh.j;clear hh;go_simp;refine hC.o.mono ?_;rintro e w9 ⟨rfl,aY⟩;exact⟨_,rfl,aY.mono hJ.o.x0.1.2.1,rfl,J3.slots (J3.below hJ.o aY) sn sn sn⟩
  ·have V9:=rq (hh.d 0 34);have h35:=rq (hh.d 1 35);have hC:=Hd (HT0.o w1);have hJ:=hh.j;clear hh;go_simp;refine hC.o.mono ?_;rintro e w9 ⟨rfl,aY⟩;exact⟨_,rfl,aY.mono hJ.o.x0.1.2.1,rfl,J3.slots (J3.below hJ.o aY) sn sn sn⟩
  ·have h12:=hh.p 12 kb 0;have hB:=Hd (FB.o _ hh.rel);have hJ:=Hd hh.st;exact aN 117 _ rfl kb 0 (by simpa[go_sem]using h12) _ hB.o (b.cs) rfl _ underlying117 rfl ag ⟨_,rfl,bR,rfl,J3.slots hJ.o sn sn sn⟩
  ·have hC:=Hd (pJ 1 0 w1 (by constructor<;>decide) (by constructor<;>decide));have hJ:=hh.j;clear hh;go_simp;refine hC.o.mono ?_;rintro e w9 ⟨rfl,aY⟩;exact⟨_,rfl,aY.mono hJ.o.x0.1.2.1,rfl,J3.slots (J3.below hJ.o aY) sn sn sn⟩
  ·have h37:=rq (hh.d 3 37);have h38:=rq (hh.d 4 38);have hC:=Hd (HT1.o w1);have hJ:=hh.j;clear hh;go_simp;refine hC.o.mono ?_;rintro e w9 ⟨rfl,aY⟩;exact⟨_,rfl,aY.mono hJ.o.x0.1.2.1,rfl,J3.slots (J3.below hJ.o aY) sn sn sn⟩
  ·have h12:=hh.p 12 kb 0;have hB:=Hd (FB.o _ hh.rel);have hJ:=Hd hh.st;exact aN 117 _ rfl kb 0 (by simpa[go_sem]using h12) _ hB.o (b.cs) rfl _ underlying117 rfl ag ⟨_,rfl,bR,rfl,J3.slots hJ.o sn sn sn⟩
  ·have hC:=Hd (pJ 0 1 w1 (by constructor<;>decide) (by constructor<;>decide));have hJ:=hh.j;clear hh;go_simp;refine hC.o.mono ?_;rintro e w9 ⟨rfl,aY⟩;exact⟨_,rfl,aY.mono hJ.o.x0.1.2.1,rfl,J3.slots (J3.below hJ.o aY) sn sn sn⟩
  ·have V8:=rq (hh.d 6 40);have V7:=rq (hh.d 7 41);have hC:=Hd (HT2.o w1);have hJ:=hh.j;clear hh;go_simp;refine hC.o.mono ?_;rintro e w9 ⟨rfl,aY⟩;exact⟨_,rfl,aY.mono hJ.o.x0.1.2.1,rfl,J3.slots (J3.below hJ.o aY) sn sn sn⟩
  ·have hJ:=Hd hh.st;have hsz:=Hd hh.size;have hun:=Hd hh.un;clear hh;go_simp;exact⟨_,rfl,bR.alloc hJ.o.x0.1.2.1 _,trivial,(J3.new (hJ.o) hun.o (bJ.aZ (by rw[hsz.o];simp)) sn sn)⟩
  ·have hJ:=Hd hh.st;have hsz:=Hd hh.size;have hun:=Hd hh.un;clear hh;go_simp;exact⟨_,rfl,bR.alloc hJ.o.x0.1.2.1 _,trivial,(J3.new (hJ.o.Tv) hun.o (bJ.aZ (by rw[hsz.o];simp)) sn sn).Tv.Tv⟩
  ·have hJ:=Hd hh.st;have hsz:=Hd hh.size;have hun:=Hd hh.un;clear hh;go_simp;exact⟨_,rfl,bR.alloc hJ.o.x0.1.2.1 _,trivial,(J3.new (hJ.o.Tv.Tv) hun.o (bJ.aZ (by rw[hsz.o];simp)) sn sn).Tv⟩
  ·have TF:=rq (hh.d 2 36);have hup:=hh.up 9 ag;obtain⟨g9,qj,jA,fJ⟩:=hh.st.x0.2.1 hup;have xh:a.tmps[14]?.getD undef=.pointer (some ⟨g9,0,none⟩):=rq (qj);rw[hh.un]at fJ;have hJ:=Hd hh.st;have hun:=Hd hh.un;refine bW 121 _ _ rfl g9 0 (by simpa[go_sem]using xh) (p0.cs) (by simpa[go_sem]using TF) _ fJ (nE rfl) ag (by rfl) ?_;intro w9 lu xg;have hP:=J3.put (hJ.o) hup hun.o qj lu xg;exact⟨undef,rfl,hP.2,trivial,hP.1⟩
  ·have TD:=rq (hh.d 5 39);have hup:=hh.up 10 ag;obtain⟨g9,qj,jA,fJ⟩:=hh.st.x1.2.1 hup;have h15:a.tmps[15]?.getD undef=.pointer (some ⟨g9,0,none⟩):=rq (qj);rw[hh.un]at fJ;have hJ:=Hd hh.st;have hun:=Hd hh.un;refine bW 121 _ _ rfl g9 0 (by simpa[go_sem]using h15) (p1.cs) (by simpa[go_sem]using TD) _ fJ (nE rfl) ag (by rfl) ?_;intro w9 lu xg;have hP:=J3.put (hJ.o.Tv) hup hun.o qj lu xg;exact⟨undef,rfl,hP.2,trivial,hP.1.Tv.Tv⟩
  ·have h42:=rq (hh.d 8 42);have hup:=hh.up 11 ag;obtain⟨g9,qj,jA,fJ⟩:=hh.st.x2.2.1 hup;have h16:a.tmps[16]?.getD undef=.pointer (some ⟨g9,0,none⟩):=rq (qj);rw[hh.un]at fJ;have hJ:=Hd hh.st;have hun:=Hd hh.un;refine bW 121 _ _ rfl g9 0 (by simpa[go_sem]using h16) (p2.cs) (by simpa[go_sem]using h42) _ fJ (nE rfl) ag (by rfl) ?_;intro w9 lu xg;have hP:=J3.put (hJ.o.Tv.Tv) hup hun.o qj lu xg;exact⟨undef,rfl,hP.2,trivial,hP.1.Tv⟩
  intro L w4 val hL hJ hR hv;have HR4:=Hd hR;obtain⟨g0,e14,-,hb0⟩:=hJ.x0.2.1 (hL 9 (by decide));rw[hL 12 (by decide)]at hb0;have HG0:Hid (aA w4 g0 p0.cs):=hb0;obtain⟨g1,e15,-,hb1⟩:=hJ.x1.2.1 (hL 10 (by decide));rw[hL 13 (by decide)]at hb1;have HG1:Hid (aA w4 g1 p1.cs):=hb1;obtain⟨g2,e16,-,hb2⟩:=hJ.x2.2.1 (hL 11 (by decide));rw[hL 14 (by decide)]at hb2;have HG2:Hid (aA w4 g2 p2.cs):=hb2;clear hv hL hJ hR hb0 hb1 hb2;simp only[regs.aG,List.map_cons,List.map_nil];simp only[Act.put,List.setIfInBounds_toArray,List.set_cons_zero,List.set_cons_succ]
  skip
  rw[e14];clear e14;rw[e15];clear e15;rw[e16];clear e16;have ZY:Hid (aA (w4.alloc (.cells (su X Y b.a b.c).toArray 126)) w4.heap.size (su X Y b.a b.c)):=az w4 (su X Y b.a b.c) _;have a2u:=Hd (AX p0.x X Y b.a b.c HXY.o.1 HXY.o.2 (by have:=Dw.o.1.1;omega) Dw.o.2.2.2.1.1 Dw.o.2.2.2.2.1 w4.heap.size 2 _ ZY.o);rw[←Gq.o.2.2.1]at a2u;have d1:=Gq.o.1.1;have d2:=Gq.o.2.1.1;have v1:wrap64 b.a=b.a:=IntWalk.wrap64_in _ (by have:=Dw.o.2.2.2.1.1;unfold jF at this;omega)
  have v2:wrap64 b.c=b.c:=IntWalk.wrap64_in _ (by have:=Dw.o.2.2.2.2.1;unfold jF at this;omega);obtain⟨⟨a0,a1⟩,-,ai⟩:=HG0.o.c2;obtain⟨⟨b0,b1⟩,-,bi⟩:=HG1.o.c2;obtain⟨⟨c0,c1⟩,-,ci⟩:=HG2.o.c2
  go_wp2_with (first|((with_reducible show wpList _ _ _ (Oper.mk (some 51) (Op.build _ _) _ _ _ _::_) _ _);refine dw _ _ rfl rfl (by simp[go_sem,v1]) (vw X b.a _) ?_)|((with_reducible show wpList _ _ _ (Oper.mk (some 58) (Op.build _ _) _ _ _ _::_) _ _);refine dw _ _ rfl rfl (by simp[go_sem,v2]) (vw Y b.c _) ?_)|((with_reducible refine gB ?_);refine iT _ _ _ rfl rfl (by simp[go_sem]) (a0M X Y b.a b.c _) ?_));refine a2u.o.mono ?_;rintro e w6 ⟨rfl,hb⟩
  have hb:bz w4 w6:=(bR.alloc nR _).trans (hb.mono (by simp));have ou:Hid (bz W w6):=HB3.o.trans ((HR4.o.trans (hb.mono HR4.o.size)).mono HB3.o.size);have HG0:=Hd (HG0.o.below' hb);have HG1:=Hd (HG1.o.below' hb);have HG2:=Hd (HG2.o.below' hb);clear hb d1 d2 v1 v2 a0 a1 ai b0 b1 bi c0 c1 ci ZY a2u HB3;have EF:Hid (aA (w6.alloc (.cells (su X Y b.b b.d).toArray 126)) w6.heap.size (su X Y b.b b.d)):=az w6 (su X Y b.b b.d) _
  have a2t:=Hd (AX p0.y X Y b.b b.d HXY.o.1 HXY.o.2 (by have:=Dw.o.1.2;omega) Dw.o.2.2.2.1.2 Dw.o.2.2.2.2.2 w6.heap.size 2 _ EF.o);rw[←Gq.o.2.2.2]at a2t;have d1:=Gq.o.1.2;have d2:=Gq.o.2.1.2;have v1:wrap64 b.b=b.b:=IntWalk.wrap64_in _ (by have:=Dw.o.2.2.2.1.2;unfold jF at this;omega);have v2:wrap64 b.d=b.d:=IntWalk.wrap64_in _ (by have:=Dw.o.2.2.2.2.2;unfold jF at this;omega);obtain⟨⟨a0,a1⟩,-,ai⟩:=HG0.o.c2;obtain⟨⟨b0,b1⟩,-,bi⟩:=HG1.o.c2;obtain⟨⟨c0,c1⟩,-,ci⟩:=HG2.o.c2
  go_wp2_with (first|((with_reducible show wpList _ _ _ (Oper.mk (some 69) (Op.build _ _) _ _ _ _::_) _ _);refine dw _ _ rfl rfl (by simp[go_sem,v1]) (vw X b.b _) ?_)|((with_reducible show wpList _ _ _ (Oper.mk (some 76) (Op.build _ _) _ _ _ _::_) _ _);refine dw _ _ rfl rfl (by simp[go_sem,v2]) (vw Y b.d _) ?_)|((with_reducible refine gB ?_);refine iT _ _ _ rfl rfl (by simp[go_sem]) (a0M X Y b.b b.d _) ?_));refine a2t.o.mono ?_;rintro e w7 ⟨rfl,hb⟩
  have hb:bz w6 w7:=(bR.alloc nR _).trans (hb.mono (by simp));have sN:Hid (bz W w7):=ou.o.trans (hb.mono ou.o.size);clear hb d1 d2 v1 v2 a0 a1 ai b0 b1 bi c0 c1 ci EF a2t;go_wp2_with (fail)
  go_ret3
  exact⟨by rw[HV.o];rfl,sN.o⟩
 ·have t0:(er != 0)=true:=by simp[h0]
  have HV:Hid (IC u true X Y=.tuple Vw.toArray):=JY.o.trans (if_neg (fun e=>h0 e.2));clear h0;go_wp2_with (fail)
  go_ret3
  exact⟨by rw[HV.o];rfl,HB3.o⟩
end
section
open Go.RowKit fF fO aF Go.Maps
def hl1:dU:={ dU.o with k:=7,lk:=⟨1,3,3,0,0,0,[]⟩ }
def hl2:dU:={ dU.o with k:=1,i:=4 }
def hl3:dU:={ dU.o with k:=7,i:=4,lk:=⟨1,2,1,255,0,0,[]⟩ }
def Md:T:=[(4,0)]
theorem a0F{o:dU}(h:o∈[hl1,hl2,hl3]):mW o∧o.lk.l=[]:=by
 simp only[List.mem_cons,List.not_mem_nil,or_false]at h;rcases h with rfl|rfl|rfl<;>exact⟨⟨⟨by decide,by decide⟩,⟨by decide,by decide⟩,⟨by decide,(by intro z hz;cases hz),by decide⟩⟩,rfl⟩
def hlN:Int->Nd:=upd (upd (upd (fun _=>Nd.plain) 0 (bY Nd.plain hl1)) 4 Nd.plain) 4 (bY Nd.plain hl3)
theorem VZ:aT 9 aJ.new [hl1,hl2,hl3]=(⟨Md,hlN,upd (fun _=>Mp.one) 4 Mp.o⟩,3,0):=by
 have e1:fQ 9 aJ.new hl1=(⟨[],upd (fun _=>Nd.plain) 0 (bY Nd.plain hl1),fun _=>Mp.one⟩,0):=rfl;have e2:fQ 9 ⟨[],upd (fun _=>Nd.plain) 0 (bY Nd.plain hl1),fun _=>Mp.one⟩ hl2=(⟨Md,upd (upd (fun _=>Nd.plain) 0 (bY Nd.plain hl1)) 4 Nd.plain,upd (fun _=>Mp.one) 4 Mp.o⟩,0):=rfl;have e3:fQ 9 ⟨Md,upd (upd (fun _=>Nd.plain) 0 (bY Nd.plain hl1)) 4 Nd.plain,upd (fun _=>Mp.one) 4 Mp.o⟩ hl3=(⟨Md,hlN,upd (fun _=>Mp.one) 4 Mp.o⟩,0):=rfl;rw[dC,e1];simp only[ne_eq,not_true_eq_false,if_false];rw[dC,e2];simp only[ne_eq,not_true_eq_false,if_false];rw[dC,e3]
 simp only[ne_eq,not_true_eq_false,if_false];rfl
theorem VY:4∈ids Md:=by decide
theorem VW:Ok Md:=(rQ Lr 4 0 0).1
theorem IP:aV Md hlN 4=some Mp.one:=by
 rw[lG VW _ VY,show par Md 4=0 from by decide,jX]
 decide
noncomputable def AV:aJ:=(cO 9 setSt aJ.new [hl1,hl2,hl3]).1
theorem a1p:(setSt ⟨Md,hlN,upd (fun _=>Mp.one) 4 Mp.o⟩).2=0:=by
 unfold setSt;rw[if_pos fun i hi=>?_];rcases aj.1 hi with rfl|e
 ·show aV Md hlN 0≠none;rw[jX];simp
 ·obtain rfl:i=4:=by simpa[Md,ids]using e
  show aV Md hlN 4≠none;rw[IP];simp
theorem AQ:cO 9 setSt aJ.new [hl1,hl2,hl3]=(AV,3,0):=by
 have h:(cO 9 setSt aJ.new [hl1,hl2,hl3]).2=(3,0):=by
  unfold cO;rw[if_neg (by decide),VZ,if_neg (by simp),if_neg (by rw[a1p];simp)];rfl
 unfold AV;rw[←h]
theorem mG:mV AV:=by
 have:=aJ.Aq.apply (M:=9) (l:=[hl1,hl2,hl3]) fun o ho=>(a0F ho).1;rw[AQ]at this;exact this
theorem iY:AV.t=Md∧AV.nd=hlN:=by
 have h:=Xc (by rw[AQ]:(cO 9 setSt aJ.new [hl1,hl2,hl3]).2.2=0);rw[VZ]at h;exact⟨h.1,h.2.1⟩
theorem AU:AV.ws 0=Mp.one∧AV.ws 4=Mp.one:=by
 have h0:=mG.set 0 (by rw[iY.1];decide) (fun _ _ h=>h) (fun h=>h);have h4:=mG.set 4 (by rw[iY.1];decide) (fun _ _ h=>h) (fun h=>h);rw[iY.1,iY.2]at h0 h4;rw[jX]at h0;rw[IP]at h4;exact⟨(Option.some.inj h0).symm,(Option.some.inj h4).symm⟩
theorem VX:items AV=[⟨0,Mp.one,Mp.one,[],255,⟨1,3,3,0,0,0,[]⟩⟩,⟨4,Mp.one,Mp.one,[],255,⟨1,2,1,255,0,0,[]⟩⟩]:=by
 have d0:bT AV 0=some ⟨Mp.one,255,[]⟩:=by
  rw[vg,AU.1,iY.2]
  decide
 have d4:bT AV 4=some ⟨Mp.one,255,[]⟩:=by
  rw[nK (by rw[iY.1];exact VW) (by rw[iY.1];exact VY),iY.1,show par Md 4=0 from by decide,d0,AU.2,iY.2]
  decide
 have i0:dJ AV 0=some ⟨0,Mp.one,Mp.one,[],255,⟨1,3,3,0,0,0,[]⟩⟩:=by
  unfold dJ;rw[d0,AU.1,iY.2];rfl
 have i4:dJ AV 4=some ⟨4,Mp.one,Mp.one,[],255,⟨1,2,1,255,0,0,[]⟩⟩:=by
  unfold dJ;rw[d4,AU.2,iY.2];rfl
 unfold items;rw[iY.1,show aF.walk Md 0=[0,4] from by decide];simp[i0,i4]
theorem zh:hits (items AV) 1 0=[4,0]∧hits (items AV) 2 0=[0]∧hits (items AV) 3 0=[]:=by
 rw[VX]
 decide
theorem a1q:IC (gy AV 4) (has AV.t 4) 1 0=.tuple #[.int .i64 1,.int .i64 0,.bool true]:=by
 have e:gy AV 4=Mp.one:=by
  unfold gy;rw[iY.1,if_pos (by decide),AU.2]
 rw[e,iY.1];unfold IC;rw[if_pos ⟨by decide,by decide⟩,show uF Mp.one.back.1 1 0=(1,0) from by decide]
end
section
open Go.RowKit fF fO aF Go.Maps
theorem RZ(w:World):(Instr.build 85 #[(0,.int .i64 7),(8,.agg #[.int .i64 1,.int .i64 3,.int .i64 3,.int .u32 0,.int .i64 0,.int .i64 0,.slice none 0 0])]).run prog w=.ok (.agg (hl1.cs none 0).toArray) w:=by kernel_rfl
theorem RY(w:World):(Instr.build 85 #[(0,.int .i64 1),(1,.int .i64 4)]).run prog w=.ok (.agg (hl2.cs none 0).toArray) w:=by kernel_rfl
theorem RX(w:World):(Instr.build 85 #[(0,.int .i64 7),(1,.int .i64 4),(8,.agg #[.int .i64 1,.int .i64 2,.int .i64 1,.int .u32 255,.int .i64 0,.int .i64 0,.slice none 0 0])]).run prog w=.ok (.agg (hl3.cs none 0).toArray) w:=by kernel_rfl
theorem a1o:V3 (hits (items AV) 1 0)=.tuple #[.int .i64 4,.bool true]∧V3 (hits (items AV) 2 0)=.tuple #[.int .i64 0,.bool true]∧V3 (hits (items AV) 3 0)=.tuple #[.int .i64 0,.bool false]:=by
 rw[zh.1,zh.2.1,zh.2.2];exact⟨rfl,rfl,rfl⟩
def hlZ:ZZ:=⟨8,⟨8,9⟩,fun _=>False⟩
theorem VV:∀q∈[oN hl1,oN hl2,oN hl3],mW q.o∧q.o.lk.l=[]:=by
 intro q hq;simp only[List.mem_cons,List.not_mem_nil,or_false]at hq;rcases hq with rfl|rfl|rfl<;>exact a0F (by simp[oN])
theorem AY(w:World):Calls prog 8 #[] w (aX (.bool true) w):=by
 go_enter func8,ntmps8;go_wp2_with (fail);refine(UW (w:=w) hlZ (fun _ e=>e.elim) ⟨by decide,by decide⟩ ⟨by decide,by decide⟩ ⟨by decide,by decide⟩).mono ?_;rintro e w1 ⟨g,b,m,s,rfl,hs1,hb1,hf1,hg1⟩
 have GZ:Hid (Xq w g b m s hlZ aJ.new w1):=⟨hs1,hf1,hb1⟩
 clear hs1 hb1 hf1 hg1;go_wp2_with (fail);refine(Bh 3 3 0 w1).mono ?_;rintro e w2 ⟨rfl,hb2⟩;unfold Ku;have NS:=Hd (GZ.o.below hb2);clear hb2 GZ;go_wp2_with (first|((with_reducible show wpList _ _ _ (Oper.mk (some 25) (Op.build _ _) _ _ _ _::_) _ _);refine dw _ _ rfl rfl (by simp[go_sem]) (RZ _) ?_)|((with_reducible show wpList _ _ _ (Oper.mk (some 26) (Op.build _ _) _ _ _ _::_) _ _);refine dw _ _ rfl rfl (by simp[go_sem]) (RY _) ?_));refine(Bh 2 1 255 w2).mono ?_;rintro e w3 ⟨rfl,hb3⟩;unfold Ku;have iE:=Hd (NS.o.below hb3)
 clear hb3 NS;go_wp2_with (first|((with_reducible show wpList _ _ _ (Oper.mk (some 28) (Op.build _ _) _ _ _ _::_) _ _);refine dw _ _ rfl rfl (by simp[go_sem]) (RX _) ?_)|((with_reducible refine gB ?_);refine iT _ _ _ rfl rfl (by simp[go_sem]) (a1Q hl1 hl2 hl3 _) ?_));have Cj:=Hd (QB (w:=w3) (S:=af b m s aJ.new.t) iE.o.at_.inside [oN hl1,oN hl2,oN hl3] (fun q hq=>(VV q hq).2));rw[show[oN hl1,oN hl2,oN hl3].flatMap iZ.cs=(oN hl1).cs++((oN hl2).cs++(oN hl3).cs) from by simp]at Cj
 have gV:Hid (Below w3.heap.size w3 (w3.alloc (.cells ((oN hl1).cs++((oN hl2).cs++(oN hl3).cs)).toArray 85))):=bR.alloc nR _;generalize (w3.alloc (.cells ((oN hl1).cs++((oN hl2).cs++(oN hl3).cs)).toArray 85))=w5 at*;have sH:=Hd (iE.o.below gV.o);generalize w3.heap.size=k5 at*;have HAP:=Hd (applied sH.o.at_ aJ.Aq [oN hl1,oN hl2,oN hl3] (some ⟨k5,0,none⟩) 3 Cj.o (fun q hq=>(VV q hq).1) (a3b rfl (by decide) (by simp)) (by simp));rw[show cO hlZ.2.2 setSt aJ.new ([oN hl1,oN hl2,oN hl3].map (·.o))=(AV,3,0) from AQ]at HAP
 unfold CP at HAP;refine HAP.o.mono ?_;rintro e w6 ⟨s6,rfl,hs6,IL⟩;have Gu:=Hd (sH.o.turn hs6 IL);have zG:Hid (AV.t.length<=900):=by show _<=_;rw[iY.1];decide
 clear hs6 IL HAP sH Cj gV iE;have HA6:=Hd (zu 1 0 Gu.o.at_ mG zG.o);rw[a1o.1]at HA6;go_wp2_with (fail);refine HA6.o.mono ?_;rintro e w7 ⟨rfl,hb⟩;have JX:=Hd (Gu.o.below hb);clear hb HA6 Gu;have HA7:=Hd (zu 2 0 JX.o.at_ mG zG.o);rw[a1o.2.1]at HA7;go_wp2_with (fail);refine HA7.o.mono ?_;rintro e w8 ⟨rfl,hb⟩;have HM8:=Hd (JX.o.below hb);clear hb HA7 JX;have HA8:=Hd (zu 3 0 HM8.o.at_ mG zG.o);rw[a1o.2.2]at HA8;go_wp2_with (fail);refine HA8.o.mono ?_;rintro e w9 ⟨rfl,hb⟩;have GY:=Hd (HM8.o.below hb);clear hb HA8 HM8
 have HAL:=Hd (JB 1 0 GY.o.at_ mG zG.o);rw[zh.1]at HAL;go_wp2_with (fail);refine HAL.o.mono ?_;rintro e w10 ⟨v,rfl,ho,hb⟩;have NT:=Hd (GY.o.below hb);obtain⟨A,c,rfl,-,-,hr⟩:=ak.row ho ig;have HR:=Hd hr;have XX:=Hd (QN 4 1 0 NT.o.at_ mG (by constructor<;>decide) (by constructor<;>decide) (by constructor<;>decide));rw[a1q]at XX;clear hb ho hr HAL GY;go_wp2_with (fail);refine XX.o.mono ?_;rintro e uf ⟨rfl,hb⟩;have a2g:=Hd (NT.o.below hb)
 obtain⟨g0,o0,rA,hc⟩:=(aU.below HR.o hb) (by simp)
 have c0:uf.cell? ⟨g0,o0,none⟩=some (.int .i64 4):=hc 0 (by simp) 0 _ rfl;have i0:=World.block_lt_of_cell? uf _ c0;subst rA;clear hb hc HR XX NT;go_wp2_with (fail);go_ret;exact⟨rfl,a2g.o.bel⟩
end
section
open Go.RowKit fF fO aF Go.Maps
theorem VK{x:aJ}(hx:mV x)(hn:x.t.length<=900):∀q∈items x,q.Ok:=fun q hq=>by
 obtain⟨i,hi,he⟩:=List.mem_filterMap.1 hq;exact Fp hx.good hx.fit hx.ok (fun i hi=>jg hx.ok (fun i=>(hx.good i) |> fun h=>(iO h).1) (aj.1 hi) _ (hx.set i hi (fun _ _ h=>h) (fun h=>h))) hn (aj.1 ((iI hx.ok).1 hi)) he
def qF(X Y:Int)(q:It):Bool:=Df [X,Y]&&q.covers X Y
theorem a1t(l:List It)(X Y:Int):hits l X Y=(l.reverse.filter (qF X Y)).map (·.i):=by
 unfold hits qF;by_cases h:Df [X,Y]=true
 ·rw[if_pos h,h];simp
 ·rw[if_neg h,eq_false_of_ne_true h];simp
theorem ok_two(X Y:Int):Df [X,Y]=(decide (-16384<=X)&&(decide (-16384<=Y)&&(decide (X<=16383)&&decide (Y<=16383)))):=by
 unfold Df;simp only[List.all_cons,List.all_nil,Bool.and_true];cases decide (-16384<=X)<;>cases decide (-16384<=Y)<;>cases decide (X<=16383)<;>cases decide (Y<=16383)<;>rfl
theorem Me(l:List Int):∃i ok,V3 l=.tuple #[.int .i64 i,.bool ok]∧(ok=true->∃h:0<l.length,l[0]=i)∧(ok=false->l.length=0∧i=0):=by
 cases l with
 |nil=>exact⟨0,false,rfl,nofun,fun _=>⟨rfl,rfl⟩⟩
 |cons a l=>exact⟨a,true,rfl,(fun _=>⟨Nat.succ_pos _,rfl⟩),fun e=>nomatch e⟩
structure Xu(x:aJ)(g b m:Nat)(s:Sh)(Z:ZZ)(g9 gs:Nat)(A2:Option Addr)(l2:List DI)(c2:Nat)(w:World):Prop where
 b1:aA w g9 [.slice A2 l2.length c2]
 b2:aA w gs [.pointer (some ⟨g,0,none⟩)]
 row:aU 35 DI.cs w A2 l2
 at_:∀q∈l2,xX w q
 same:l2.map (·.it)=items x
 sc:ax w g b m s Z x
theorem Xu.below{x:aJ}{g b m:Nat}{s:Sh}{Z:ZZ}{g9 gs:Nat}{A2:Option Addr}{l2:List DI}{c2:Nat}{w w':World}(h:Xu x g b m s Z g9 gs A2 l2 c2 w)(hb:bz w w'):Xu x g b m s Z g9 gs A2 l2 c2 w':=
 ⟨h.b1.below' hb,h.b2.below' hb,aU.below h.row hb,fun q hq=>(h.at_ q hq).below hb,h.same,h.sc.below hb⟩
theorem IV{x:aJ}{g b m:Nat}{s:Sh}{Z:ZZ}{g9 gs:Nat}{A2:Option Addr}{l2:List DI}{c2:Nat}{w:World}(h:Xu x g b m s Z g9 gs A2 l2 c2 w)(hx:mV x)(hn:x.t.length<=900)(X Y:Int) :
  Calls prog 11 #[.int .i64 X,.int .i64 Y,.pointer (some ⟨g9,0,none⟩),.pointer (some ⟨gs,0,none⟩)] w (aX (.bool true) w):=by
 have HW:=Hd h;have HX:=Hd hx;have HN:=Hd hn;have dW:=Hd (VK hx hn)
 have Dx:Hid (l2.length<=1000):=by
  have h1:=congrArg List.length h.same;rw[List.length_map]at h1;have h2:(items x).length<=(aF.walk x.t 0).length:=List.length_filterMap_le _ _;have h3:=oz hx.ok;show _<=_;omega
 obtain⟨L,hL⟩:∃L,L=(items x).reverse:=⟨_,rfl⟩
 have TY:Hid (hits (items x) X Y=(L.filter (qF X Y)).map (·.i)):=by show _=_;rw[a1t,hL]
 have mX:Hid (L.length=l2.length):=by show _=_;rw[hL,List.length_reverse,←h.same,List.length_map]
 have HLQ:Hid (∀k (hk:k<l2.length),L[k]?=some (l2[l2.length - 1 - k]'(by omega)).it):=fun k hk=>by
  have hk2:(items x).length=l2.length:=by rw[←h.same,List.length_map]
  rw[hL,List.getElem?_reverse (by omega),hk2,←h.same,List.getElem?_map,List.getElem?_eq_getElem (by omega)];rfl
 have c9:=h.b1.c 0 rfl;have i9:=h.b1.inside
 obtain⟨b1,hb1⟩:∃z,decide (-16384<=X)=z:=⟨_,rfl⟩
 obtain⟨b2,hb2⟩:∃z,decide (-16384<=Y)=z:=⟨_,rfl⟩
 obtain⟨b3,hb3⟩:∃z,decide (X<=16383)=z:=⟨_,rfl⟩
 obtain⟨b4,hb4⟩:∃z,decide (Y<=16383)=z:=⟨_,rfl⟩
 have HOB:Hid (Df [X,Y]=(b1&&(b2&&(b3&&b4)))):=by show _=_;rw[ok_two,hb1,hb2,hb3,hb4]
 have sJ:=Hd (And.intro hb1 (And.intro hb2 (And.intro hb3 hb4)))
 have HNR:Hid (Df [X,Y]=true->(-32768<=X∧X<=32767)∧-32768<=Y∧Y<=32767):=fun e=>by
  rw[ok_two]at e;simp only[Bool.and_eq_true,decide_eq_true_eq]at e;omega
 clear h hx hn hL hb1 hb2 hb3 hb4;go_enter func11,ntmps11;go_wp2_with (fail);clear c9 i9
 go_loopw [16,7] (fun i v wr=>∃k:Nat,k<=l2.length∧i=.int .i64 k∧Hid (aP wr w.heap.size v (((L.take k).filter (qF X Y)).map (·.i)))∧Hid (bz w wr)) (fun i _ _=>l2.length - (intOf i).toNat)
 case atStart=>exact⟨0,Nat.zero_le _,rfl,ak.nil _ _,bR⟩
 case round=>
  obtain⟨k,hk,rfl,HO,lX⟩:=hrel;generalize wr=wj at*;obtain⟨A3,n3,c3,rfl⟩:=ak.shape HO.o;have hlb:((l2.length:Nat):Int)<=1000:=by have:=Dx.o;omega
  by_cases hlt:k<l2.length
  ·have t1:decide (k<l2.length)=true:=by simpa using hlt
   have dV:=Hd hlt;have KD:=Hd (HW.o.below lX.o)
   obtain⟨M,hM⟩:=aB (l2.length - 1 - k)
   have e1:((l2.length:Nat):Int) - 1 - (k:Nat)=(M:Nat):=by omega
   have hml:M<l2.length:=by omega
   have hLQ:=HLQ.o k hlt
   obtain⟨q,hq⟩:∃q,q=l2[M]'hml:=⟨_,rfl⟩
   have HLJ:Hid (L[k]?=some q.it):=by show _=_;rw[hLQ,hq];congr 2;simp[hM]
   have hmem:q∈l2:=by rw[hq];exact List.getElem_mem hml
   have JP:Hid q.it.Ok:=dW.o _ (by rw[←HW.o.same];exact List.mem_map_of_mem hmem);obtain⟨rb,ro,rA,hrc⟩:=KD.o.row (Nat.lt_of_le_of_lt (Nat.zero_le M) hml)
   have oh:Hid (wj.rangeAt rb (ro+M*35) q.cs):=by
    rw[hq];exact fun i v hv=>hrc M hml i v hv
   have i2:rb<wj.heap.size:=World.block_lt_of_cell? wj ⟨rb,_,none⟩ (oh.o 0 (.int .i64 q.it.i) rfl)
   have KF:Hid (((L.take (k+1)).filter (qF X Y)).map (·.i)=((L.take k).filter (qF X Y)).map (·.i)++(if qF X Y q.it=true then [q.it.i] else [])):=by
    obtain⟨h1,h2⟩:=List.getElem?_eq_some_iff.1 HLJ.o;show _=_;rw[List.take_succ_eq_append_getElem h1,List.filter_append,List.map_append,h2,List.filter_cons,List.filter_nil];split<;>rfl
   have Gx:Hid (qF X Y q.it=(Df [X,Y]&&q.it.covers X Y)):=rfl;have c9:=KD.o.b1.c 0 rfl;have i9:=KD.o.b1.inside;have hmb:((M:Nat):Int)<=1000:=by omega
   have Yl:Hid (Below wj.heap.size wj (wj.alloc (.cells DI.zero.cs.toArray 48))):=bR.alloc nR _;have HZA:Hid (aA (wj.alloc (.cells DI.zero.cs.toArray 48)) wj.heap.size DI.zero.cs):=az wj DI.zero.cs _;have HKN:Hid (k<=1000):=by show _<=_;omega
   have HMX:=Hd (And.intro e1 hml);have HDI:=Hd (KD.o.at_ q hmem);rw[rA]at c9;clear hM hLQ hq hmem hrc rA hlt hk
   go_upto_region 6 with(first|((with_reducible show wpList _ _ _ (Oper.mk _ (Op.load 48 _) _ _ _ _::_) _ _);refine lF 48 _ rfl rfl _ _ rfl (q.cs) oh.o _ underlying48 rfl ag ?_)|((with_reducible refine gS ?_);first|(refine ay 48 _ _ rfl rfl rfl _ 0 rfl (q.cs) rfl (DI.zero.cs) HZA.o (q.cs) rfl (nE rfl) ag rfl ?_;intro w6 sG EH)))
   have ou:Hid (Below wj.heap.size wj w6):=sG.o.below Yl.o nR;have HDJ:=Hd (HDI.o.below ou.o);have XO:=Hd (ak.below HO.o ou.o);have Tm:=Hd (lX.o.trans (ou.o.mono lX.o.size))
   obtain⟨g6,zk⟩:=aB wj.heap.size
   rw[zk]at EH ⊢;have i6:=EH.o.inside;have hkb:((k:Nat):Int)<=1000:=by have:=HKN.o;omega
   obtain⟨x1,x2,x3,x4⟩:=sJ.o;clear e1 hml c9 i9 i2 hmb Yl HZA sG oh HDI ou zk HO lX KD HMX t1 hlb
   have X8:Hid (∀W,bz w6 W->qF X Y q.it=false->aP W w.heap.size (.slice A3 n3 c3) (((L.take (k+1)).filter (qF X Y)).map (·.i))):=fun W hb e=>by
    rw[KF.o,e]
    simpa using ak.below XO.o hb
   cases b1 with
   |false=>
    have JH:Hid (qF X Y q.it=false):=by show _=_;rw[Gx.o,HOB.o];rfl
    clear i6;go_wp2_with (fail)
    go_roundw
    case rel=>exact⟨k+1,dV.o,by go_num,X8.o _ bR JH.o,Tm.o⟩
    case measure=>have:=dV.o;simp[intOf];omega
   |true=>
   cases b2 with
   |false=>
    have JH:Hid (qF X Y q.it=false):=by show _=_;rw[Gx.o,HOB.o];rfl
    clear i6;go_wp2_with (fail)
    go_roundw
    case rel=>exact⟨k+1,dV.o,by go_num,X8.o _ bR JH.o,Tm.o⟩
    case measure=>have:=dV.o;simp[intOf];omega
   |true=>
   cases b3 with
   |false=>
    have JH:Hid (qF X Y q.it=false):=by show _=_;rw[Gx.o,HOB.o];rfl
    clear i6;go_wp2_with (fail)
    go_roundw
    case rel=>exact⟨k+1,dV.o,by go_num,X8.o _ bR JH.o,Tm.o⟩
    case measure=>have:=dV.o;simp[intOf];omega
   |true=>
   cases b4 with
   |false=>
    have JH:Hid (qF X Y q.it=false):=by show _=_;rw[Gx.o,HOB.o];rfl
    clear i6;go_wp2_with (fail)
    go_roundw
    case rel=>exact⟨k+1,dV.o,by go_num,X8.o _ bR JH.o,Tm.o⟩
    case measure=>have:=dV.o;simp[intOf];omega
   |true=>
   have HON:Hid (Df [X,Y]=true):=HOB.o;have Ti:=Hd (WI q X Y w6 HDJ.o JP.o (HNR.o HON.o).1 (HNR.o HON.o).2);rw[HON.o,Bool.true_and]at Gx;generalize q.it.covers X Y=cv at*;go_wp2_with (first|(with_reducible refine gL ?_;first|(refine wt 48 0 rfl rfl rfl EH.o (q.cs) rfl underlying48 rfl ?_)));refine Ti.o.mono ?_;rintro e w7 ⟨rfl,hb7⟩;have sN:=Hd hb7;have Yk:=Hd (Tm.o.trans (hb7.mono Tm.o.size));have xK:=Hd (ak.below XO.o hb7);have c6:=(EH.o.below' hb7).c 0 rfl;have i6:=(EH.o.below' hb7).inside;clear hb7 Ti EH HDJ XO
   cases cv with
   |false=>
    clear c6 i6;go_wp2_with (fail)
    go_roundw
    case rel=>exact⟨k+1,dV.o,by go_num,X8.o _ sN.o Gx.o,Yk.o⟩
    case measure=>have:=dV.o;simp[intOf];omega
   |true=>
    have hbw:bz w7 (w7.alloc (.cells #[.int .i64 q.it.i] 3)):=bR.alloc nR _
    have hll:(((L.take k).filter (qF X Y)).map (·.i)).length<=1000:=by
     rw[List.length_map];have h1:=List.length_filter_le (qF X Y) (L.take k);have h2:=List.length_take_le k L;have:=HKN.o;omega
    have hs9:(w7.alloc (.cells #[.int .i64 q.it.i] 3)).heap.size=w7.heap.size+1:=by simp
    obtain⟨v',w8,hrun,Qy,hgr,-⟩:=zA (g:=w7.heap.size) (o:=0) (c:=1) (xs:=[q.it.i]) (ak.below xK.o hbw) (fun _=>⟨_,0,rfl,fun j hj=>by
     match j,hj with
     |0,_=>exact(az w7 [.int .i64 q.it.i] _).cell 0⟩) (by rw[List.length_singleton];omega) (by have:=Yk.o.size;omega)
    have HO8:Hid (aP w8 w.heap.size v' (((L.take (k+1)).filter (qF X Y)).map (·.i))):=by
     show aP _ _ _ _;rw[KF.o,Gx.o,if_pos rfl];exact Qy
    have a6E:Hid (bz w w8):=(Yk.o.trans (hbw.mono Yk.o.size)).grown hgr (by have:=Yk.o.size;omega) fun k e=>(ak.block xK.o e).1;obtain⟨A4,n4,c4,rfl⟩:=ak.shape Qy;clear hbw hll hs9 Qy hgr;go_wp2_with (at_builtin;refine bg rfl _ _ 35 35 35 rfl rfl _ _ _ _ rfl rfl hrun ?_;clear hrun)
    go_roundw
    case rel=>exact⟨k+1,dV.o,by go_num,HO8.o,a6E.o⟩
    case measure=>have:=dV.o;simp[intOf];omega
  ·obtain rfl:k=l2.length:=by omega
   have t1:decide (l2.length<l2.length)=false:=by simp
   rw[←mX.o,List.take_length,←TY.o]at HO;have KD:=Hd (HW.o.below lX.o);have cs:=KD.o.b2.cell 0;have is:=KD.o.b2.inside;simp only[List.getElem?_cons_zero]at cs;have HAL:=Hd (JB X Y KD.o.sc HX.o HN.o);clear hlt hk;go_wp2_with (fail);refine HAL.o.mono ?_;rintro e w5 ⟨v5,rfl,Mc,hb5⟩;have Cj:=Hd Mc;have HOW:=Hd (ak.below HO.o hb5);have vM:=Hd (KD.o.below hb5);have gV:=Hd (lX.o.trans (hb5.mono lX.o.size));have HAT:=Hd (zu X Y vM.o.sc HX.o HN.o);have zG:=Hd (IQ X Y HX.o HN.o);clear Mc hb5 cs is HAL HO KD lX
   have cs:=vM.o.b2.cell 0;have is:=vM.o.b2.inside;simp only[List.getElem?_cons_zero]at cs;obtain⟨A5,n5,k5,rfl⟩:=ak.shape Cj.o
   obtain⟨hl,hhl⟩:∃l,hits (items x) X Y=l:=⟨_,rfl⟩
   rw[hhl]at HAT Cj HOW zG;obtain⟨i0,ok,hv0,hy0,hn0⟩:=Me hl;rw[hv0]at HAT;have HY0:=Hd hy0;have TU:=Hd hn0;clear hv0 hy0 hn0 hhl;go_wp2_with (fail);refine HAT.o.mono ?_;rintro e w9 ⟨rfl,aY⟩;have pV:=Hd (gV.o.trans (aY.mono gV.o.size));obtain⟨B1,d1,e1,-,-,hr1⟩:=aP.kE (ak.below Cj.o aY);obtain⟨B2,d2,e2,-,-,hr2⟩:=aP.kE (ak.below HOW.o aY)
   injection e1 with e11 e12 e13
   injection e2 with e21 e22 e23
   subst e11 e12 e13 e21 e22 e23;have HR1:=Hd hr1;have HR2:=Hd hr2;clear aY cs is hr1 hr2 Cj HOW vM gV HAT TY;have hnb:((hl.length:Nat):Int)<=1000:=by have:=zG.o;omega
   cases ok with
   |false=>
    obtain⟨hz,rfl⟩:=TU.o rfl;have tn:decide (0<hl.length)=false:=decide_eq_false (by omega);clear hz;go_wp2_with (fail);clear tn
    go_loopw [96] (fun i wr=>∃k:Nat,k<=(hl).length∧i=.int .i64 k∧Hid (bz w9 wr)) (fun i _=>(hl).length - (intOf i).toNat)
    case atStart=>exact⟨0,Nat.zero_le _,rfl,bR⟩
    case round=>
     obtain⟨k,hk,rfl,lX⟩:=hrel;generalize wr=wj at*;by_cases hlt:k<(hl).length
     ·have t2:decide (k<(hl).length)=true:=by simpa using hlt
      have dV:=Hd hlt;obtain⟨p2,o2,r2,k2⟩:=(HR1.o.below lX.o).at_ hlt;obtain⟨p3,o3,r3,k3⟩:=(HR2.o.below lX.o).at_ hlt;unfold eI at k2 k3;generalize (hl)[k]=z at*;cases r2;cases r3;have i2:=World.block_lt_of_cell? wj _ k2;have i3:=World.block_lt_of_cell? wj _ k3;have hkb:((k:Nat):Int)<=1000:=by omega
      go_upto_region 16 with(fail)
      go_quiet (fail)
      have PZ:Hid (bz w9 (wj.drewN nq)):=lX.o.trans ((dK.below ⟨_,rfl⟩ _).mono lX.o.size);generalize (wj.drewN nq)=wq at*;clear k2 k3 i2 i3;go_wp2_with (fail)
      go_roundw
      case rel=>exact⟨k+1,dV.o,by go_num,PZ.o⟩
      case measure=>have:=dV.o;simp[intOf];omega
     ·obtain rfl:k=(hl).length:=by omega
      have t2:decide ((hl).length<(hl).length)=false:=by simp
      clear hlt hk;go_wp2_with (fail);go_ret;exact⟨rfl,pV.o.trans (lX.o.mono pV.o.size)⟩
   |true=>
    obtain⟨hp,h0⟩:=HY0.o rfl;have tn:decide (0<hl.length)=true:=decide_eq_true hp;obtain⟨p1,o1,r1,k1⟩:=HR2.o.at_ hp;rw[h0,Nat.add_zero]at k1;subst r1;unfold eI at k1;have ip:=World.block_lt_of_cell? w9 _ k1;clear h0;go_wp2_with (fail);clear k1 ip tn hp
    go_loopw [96] (fun i wr=>∃k:Nat,k<=(hl).length∧i=.int .i64 k∧Hid (bz w9 wr)) (fun i _=>(hl).length - (intOf i).toNat)
    case atStart=>exact⟨0,Nat.zero_le _,rfl,bR⟩
    case round=>
     obtain⟨k,hk,rfl,lX⟩:=hrel;generalize wr=wj at*;by_cases hlt:k<(hl).length
     ·have t2:decide (k<(hl).length)=true:=by simpa using hlt
      have dV:=Hd hlt;obtain⟨p2,o2,r2,k2⟩:=(HR1.o.below lX.o).at_ hlt;obtain⟨p3,o3,r3,k3⟩:=(HR2.o.below lX.o).at_ hlt;unfold eI at k2 k3;generalize (hl)[k]=z at*;cases r2;cases r3;have i2:=World.block_lt_of_cell? wj _ k2;have i3:=World.block_lt_of_cell? wj _ k3;have hkb:((k:Nat):Int)<=1000:=by omega
      go_upto_region 16 with(fail)
      go_quiet (fail)
      have PZ:Hid (bz w9 (wj.drewN nq)):=lX.o.trans ((dK.below ⟨_,rfl⟩ _).mono lX.o.size);generalize (wj.drewN nq)=wq at*;clear k2 k3 i2 i3;go_wp2_with (fail)
      go_roundw
      case rel=>exact⟨k+1,dV.o,by go_num,PZ.o⟩
      case measure=>have:=dV.o;simp[intOf];omega
     ·obtain rfl:k=(hl).length:=by omega
      have t2:decide ((hl).length<(hl).length)=false:=by simp
      clear hlt hk;go_wp2_with (fail);go_ret;exact⟨rfl,pV.o.trans (lX.o.mono pV.o.size)⟩
end
end Go.Proofs.YthmegninhpihkaaGreat
