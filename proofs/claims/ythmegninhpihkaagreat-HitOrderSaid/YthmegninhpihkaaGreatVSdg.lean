import Derived.Test.YthmegninhpihkaaGreatVDca
set_option maxHeartbeats 16000000
set_option maxRecDepth 100000
open Go.Proofs.Tryz
namespace Go.Proofs.YthmegninhpihkaaGreat
section
open Go.RowKit fG gm aF Go.Maps
def DU(o:dH):Nd:=⟨o.m,o.N,o.on,o.on,o.r,o.lk⟩
def dH.fF(o:dH)(A:Option Addr)(c:Nat):List Value:=.int .i64 o.k::.int .i64 o.i::.int .i64 o.p::.int .i64 o.n::(DU o).cs A c
theorem dH.done(o:dH)(A:Option Addr)(c:Nat):(o.fF A c).all (·.oneCell')=true:=rfl
theorem Xz(r:Bx):r.QL.all (·.oneCell')=true:=rfl
theorem TQ(o:dH)(Ao:Option Addr)(co:Nat)(n:Nd)(An:Option Addr)(cn:Nat)(w:World) :
  Calls prog 83 #[.agg (n.cs An cn).toArray,.agg (o.fF Ao co).toArray] w (aZ (.agg ((bT n o).cs (aW o Ao An) (aW o co cn)).toArray) w):=by
 have HB0:Hid (bz w (((w.alloc (.cells (n.cs An cn).toArray 46)).alloc (.cells (o.fF Ao co).toArray 154)).alloc (.cells Va.toArray 46))):=((bR.alloc nR _).alloc (by simp) _).alloc (by simp;omega) _;have xN:Hid (az (((w.alloc (.cells (n.cs An cn).toArray 46)).alloc (.cells (o.fF Ao co).toArray 154)).alloc (.cells Va.toArray 46)) w.heap.size (n.cs An cn)):=((aA w (n.cs An cn) _).alloc _).alloc _
 have jM:Hid (az (((w.alloc (.cells (n.cs An cn).toArray 46)).alloc (.cells (o.fF Ao co).toArray 154)).alloc (.cells Va.toArray 46)) (w.heap.size+1) (o.fF Ao co)):=(aY (w.alloc _) _ (by simp) (o.fF Ao co) _).alloc _;have jd:Hid (az (((w.alloc (.cells (n.cs An cn).toArray 46)).alloc (.cells (o.fF Ao co).toArray 154)).alloc (.cells Va.toArray 46)) (w.heap.size+2) Va):=aY ((w.alloc _).alloc _) _ (by simp) Va _
 have iL:Hid ((((w.alloc (.cells (n.cs An cn).toArray 46)).alloc (.cells (o.fF Ao co).toArray 154)).alloc (.cells Va.toArray 46)).heap.size=w.heap.size+3):=by show _=_;simp
 obtain⟨X,hX⟩:=aC ((.agg ((bT n o).cs (aW o Ao An) (aW o co cn)).toArray:Value))
 have HX:=Hd hX;rw[hX];clear hX;go_enter func83,ntmps83
 go_upto_region 1 with(fail)
 generalize (((w.alloc (.cells (n.cs An cn).toArray 46)).alloc (.cells (o.fF Ao co).toArray 154)).alloc (.cells Va.toArray 46))=wz at*;have c0:wz.cell? ⟨w.heap.size+1,0,none⟩=some (.int .i64 o.k):=jM.o.cell 0;have c10:wz.cell? ⟨w.heap.size+1,10,none⟩=some (.int .i64 o.N):=jM.o.cell 10;have c11:wz.cell? ⟨w.heap.size+1,11,none⟩=some (.bool o.on):=jM.o.cell 11;have c12:wz.cell? ⟨w.heap.size+1,12,none⟩=some (.bool o.on):=jM.o.cell 12;have i0:w.heap.size<wz.heap.size:=xN.o.inside;have i1:w.heap.size+1<wz.heap.size:=jM.o.inside;by_cases h4:o.k=4
 ·have t4:(o.k==4)=true:=by simpa using h4
  have HE:Hid (X=.agg ((({ n with m:=o.m }:Nd).cs An cn)).toArray):=by show _=_;rw[←HX.o,show bT n o={ n with m:=o.m } from by unfold bT;rw[if_pos h4],show aW o Ao An=An from if_neg (by omega),show aW o co cn=cn from if_neg (by omega)]
  clear h4
  go_upto_region 3 with(first|(with_reducible refine gL ?_;first|(refine wt 37 4 rfl rfl rfl jM.o (o.m.cs) rfl underlying37 rfl ?_))|(with_reducible refine gS ?_;first|(refine ay 37 _ _ rfl rfl rfl _ 0 rfl (o.m.cs) rfl (n.cs An cn) xN.o (({ n with m:=o.m }:Nd).cs An cn) rfl (nE rfl) ag (Mp.one1 _) ?_;intro w2 HS dE)))
  have HR2:=Hd (HS.o.blk (show w.heap.size+2≠w.heap.size by omega) jd.o);have HB2:=Hd (HS.o.below HB0.o (by omega));have kY:=Hd (HS.o.blk (show w.heap.size+1≠w.heap.size by omega) jM.o);have e0:w2.cell? ⟨w.heap.size+1,0,none⟩=some (.int .i64 o.k):=kY.o.cell 0;have j1:=kY.o.inside;have s5:(o.k==5)=false:=by simp at t4 ⊢;omega
  have s6:(o.k==6)=false:=by simp at t4 ⊢;omega
  have s7:(o.k==7)=false:=by simp at t4 ⊢;omega
  have s8:(o.k==8)=false:=by simp at t4 ⊢;omega
  go_wp2_with (first|(with_reducible refine gL ?_;first|(refine wt 46 0 rfl rfl rfl dE.o (({ n with m:=o.m }:Nd).cs An cn) rfl underlying46 rfl ?_))|(with_reducible refine gS ?_;first|(refine ay 46 _ _ rfl rfl rfl _ 0 rfl (({ n with m:=o.m }:Nd).cs An cn) rfl (Va) HR2.o (({ n with m:=o.m }:Nd).cs An cn) rfl (nE rfl) ag (Nd.one _ _ _) ?_;intro w3 HW3 dM)));rw[HE.o];exact bJ rfl rfl dM.o underlying46 rfl ag ⟨rfl,HW3.o.below HB2.o (by omega)⟩
 by_cases h5:o.k=5
 ·have t4:(o.k==4)=false:=by simpa using h4
  have t5:(o.k==5)=true:=by simpa using h5
  have HE:Hid (X=.agg ((({ n with cl:=o.on,r:=o.r }:Nd).cs An cn)).toArray):=by show _=_;rw[←HX.o,show bT n o={ n with cl:=o.on,r:=o.r } from by unfold bT;rw[if_neg h4,if_pos h5],show aW o Ao An=An from if_neg (by omega),show aW o co cn=cn from if_neg (by omega)]
  clear h4;clear h5;have d8:=xN.o.cell 8;have f8:=xN.o.free 8;simp only[Nd.cs,List.getElem?_cons_zero,List.getElem?_cons_succ]at d8
  have HSa:Hid (Wrote w.heap.size wz (wz.setCell ⟨w.heap.size,8,none⟩ (.bool o.on))):=⟨8,[.bool o.on],rfl⟩
  have Vz:Hid (az (wz.setCell ⟨w.heap.size,8,none⟩ (.bool o.on)) w.heap.size (({ n with cl:=o.on }:Nd).cs An cn)):=xN.o.set 8 _
  go_upto_region 5 with(fail)
  generalize (wz.setCell ⟨w.heap.size,8,none⟩ (.bool o.on))=wy at*;have a2S:=Hd (HSa.o.blk (show w.heap.size+1≠w.heap.size by omega) jM.o);have a4C:=Hd (HSa.o.blk (show w.heap.size+2≠w.heap.size by omega) jd.o);have iO:=Hd (HSa.o.below HB0.o (by omega))
  go_upto_region 6 with(first|(with_reducible refine gL ?_;first|(refine wt 40 13 rfl rfl rfl a2S.o (o.r.QL) rfl underlying40 rfl ?_))|(with_reducible refine gS ?_;first|(refine ay 40 _ _ rfl rfl rfl _ 9 rfl (o.r.QL) rfl (({ n with cl:=o.on }:Nd).cs An cn) Vz.o (({ n with cl:=o.on,r:=o.r }:Nd).cs An cn) rfl (nE rfl) ag (Xz _) ?_;intro w2 HS dE)))
  have HR2:=Hd (HS.o.blk (show w.heap.size+2≠w.heap.size by omega) a4C.o);have HB2:=Hd (HS.o.below iO.o (by omega));have kY:=Hd (HS.o.blk (show w.heap.size+1≠w.heap.size by omega) a2S.o);have e0:w2.cell? ⟨w.heap.size+1,0,none⟩=some (.int .i64 o.k):=kY.o.cell 0;have j1:=kY.o.inside;have s6:(o.k==6)=false:=by simp at t5 ⊢;omega
  have s7:(o.k==7)=false:=by simp at t5 ⊢;omega
  have s8:(o.k==8)=false:=by simp at t5 ⊢;omega
  go_wp2_with (first|(with_reducible refine gL ?_;first|(refine wt 46 0 rfl rfl rfl dE.o (({ n with cl:=o.on,r:=o.r }:Nd).cs An cn) rfl underlying46 rfl ?_))|(with_reducible refine gS ?_;first|(refine ay 46 _ _ rfl rfl rfl _ 0 rfl (({ n with cl:=o.on,r:=o.r }:Nd).cs An cn) rfl (Va) HR2.o (({ n with cl:=o.on,r:=o.r }:Nd).cs An cn) rfl (nE rfl) ag (Nd.one _ _ _) ?_;intro w3 HW3 dM)));rw[HE.o];exact bJ rfl rfl dM.o underlying46 rfl ag ⟨rfl,HW3.o.below HB2.o (by omega)⟩
 by_cases h6:o.k=6
 ·have t4:(o.k==4)=false:=by simpa using h4
  have t5:(o.k==5)=false:=by simpa using h5
  have t6:(o.k==6)=true:=by simpa using h6
  have HE:Hid (X=.agg ((({ n with op:=o.N }:Nd).cs An cn)).toArray):=by show _=_;rw[←HX.o,show bT n o={ n with op:=o.N } from by unfold bT;rw[if_neg h4,if_neg h5,if_pos h6],show aW o Ao An=An from if_neg (by omega),show aW o co cn=cn from if_neg (by omega)]
  clear h4;clear h5;clear h6;have d6:=xN.o.cell 6;have f6:=xN.o.free 6;simp only[Nd.cs,List.getElem?_cons_zero,List.getElem?_cons_succ]at d6
  have HS:Hid (Wrote w.heap.size wz (wz.setCell ⟨w.heap.size,6,none⟩ (.int .i64 o.N))):=⟨6,[.int .i64 o.N],rfl⟩
  have dE:Hid (az (wz.setCell ⟨w.heap.size,6,none⟩ (.int .i64 o.N)) w.heap.size (({ n with op:=o.N }:Nd).cs An cn)):=xN.o.set 6 _
  go_upto_region 8 with(fail)
  generalize (wz.setCell ⟨w.heap.size,6,none⟩ (.int .i64 o.N))=w2 at*;have HR2:=Hd (HS.o.blk (show w.heap.size+2≠w.heap.size by omega) jd.o);have HB2:=Hd (HS.o.below HB0.o (by omega));have kY:=Hd (HS.o.blk (show w.heap.size+1≠w.heap.size by omega) jM.o);have e0:w2.cell? ⟨w.heap.size+1,0,none⟩=some (.int .i64 o.k):=kY.o.cell 0;have j1:=kY.o.inside;have s7:(o.k==7)=false:=by simp at t6 ⊢;omega
  have s8:(o.k==8)=false:=by simp at t6 ⊢;omega
  go_wp2_with (first|(with_reducible refine gL ?_;first|(refine wt 46 0 rfl rfl rfl dE.o (({ n with op:=o.N }:Nd).cs An cn) rfl underlying46 rfl ?_))|(with_reducible refine gS ?_;first|(refine ay 46 _ _ rfl rfl rfl _ 0 rfl (({ n with op:=o.N }:Nd).cs An cn) rfl (Va) HR2.o (({ n with op:=o.N }:Nd).cs An cn) rfl (nE rfl) ag (Nd.one _ _ _) ?_;intro w3 HW3 dM)));rw[HE.o];exact bJ rfl rfl dM.o underlying46 rfl ag ⟨rfl,HW3.o.below HB2.o (by omega)⟩
 by_cases h7:o.k=7
 ·have t4:(o.k==4)=false:=by simpa using h4
  have t5:(o.k==5)=false:=by simpa using h5
  have t6:(o.k==6)=false:=by simpa using h6
  have t7:(o.k==7)=true:=by simpa using h7
  have HE:Hid (X=.agg ((({ n with lk:=o.lk }:Nd).cs Ao co)).toArray):=by show _=_;rw[←HX.o,show bT n o={ n with lk:=o.lk } from by unfold bT;rw[if_neg h4,if_neg h5,if_neg h6,if_pos h7],show aW o Ao An=Ao from if_pos h7,show aW o co cn=co from if_pos h7]
  clear h4;clear h5;clear h6;clear h7
  have AY:Hid (JF w.heap.size [(w.heap.size+1,o.fF Ao co),(w.heap.size+2,Va)] w.heap.size (n.cs An cn) wz):=⟨⟨jM.o,jd.o,trivial⟩,by omega,by simp,by omega,xN.o⟩
  go_upto_region 9 with(fail)
  refine wR (Below w.heap.size) (fun L wx=>JF w.heap.size [(w.heap.size+1,o.fF Ao co),(w.heap.size+2,Va)] w.heap.size [.int .i64 n.m.a,.int .i64 n.m.b,.int .i64 n.m.c,.int .i64 n.m.d,.int .i64 n.m.e,.int .i64 n.m.f,.int .i64 n.op,.bool n.hi,.bool n.cl,.int .i64 n.r.a,.int .i64 n.r.b,.int .i64 n.r.c,.int .i64 n.r.d,bif L 16 then .int .i64 o.lk.k else .int .i64 n.lk.k,bif L 18 then .int .i64 o.lk.W else .int .i64 n.lk.W,bif L 20 then .int .i64 o.lk.H else .int .i64 n.lk.H,bif L 22 then .int .u32 (o.lk.p:Nat) else .int .u32 (n.lk.p:Nat),bif L 24 then .int .i64 o.lk.iw else .int .i64 n.lk.iw,bif L 24 then .int .i64 o.lk.ih else .int .i64 n.lk.ih,bif L 24 then .slice Ao o.lk.l.length co else .slice An n.lk.l.length cn] wx) [33,34,35,36,37,38,39,40,41,42,43,44,45,46,47,48,49,50,51,52] (fun _=>bR) (fun _ _ _ h k=>h.trans k) (fun i=>match i with
   |0|3|6|9|12=>rp (w.heap.size+1) 4
   |1=>rp (w.heap.size+1) 17
   |2=>rV (.int .i64 o.lk.k)
   |4=>rp (w.heap.size+1) 18
   |5=>rV (.int .i64 o.lk.W)
   |7=>rp (w.heap.size+1) 19
   |8=>rV (.int .i64 o.lk.H)
   |10=>rp (w.heap.size+1) 20
   |11=>rV (.int .u32 (o.lk.p:Nat))
   |13=>rp (w.heap.size+1) 21
   |14=>rV (.agg ((Vn o.lk.iw o.lk.ih Ao o.lk.l.length co)).toArray)
   |15=>rp w.heap.size 13
   |17=>rp w.heap.size 14
   |19=>rp w.heap.size 15
   |21=>rp w.heap.size 16
   |23=>rp w.heap.size 17
   |_=>ra) (bR.drew) (AY.o.below bR.drew) ⟨?_,?_,?_,?_,?_,?_,?_,?_,?_,?_,?_,?_,?_,?_,?_,?_,?_,?_,?_,?_,?_,?_,?_,?_,?_,trivial⟩ ?_
  any_goals (first|refine zp fun L a w1 hh=>?_|fail)
  have h3:=hh.p 3 ((w.heap.size+1)) 0;have i0:=(hh.st.old.1).inside;rotate_left;have VV:=rq (hh.d 0 33);have i0:=(hh.st.old.1).inside;rotate_left;have Xm:=rq (hh.d 1 34);have hB:=Hd (hh.st.old.1);have c0:w1.cell? ⟨(w.heap.size+1),17,none⟩=some (.int .i64 o.lk.k):=hB.o.cell 17;have i0:=hB.o.inside;rotate_left;have h3:=hh.p 3 ((w.heap.size+1)) 0;have i0:=(hh.st.old.1).inside;rotate_left;have Xl:=rq (hh.d 3 36);have i0:=(hh.st.old.1).inside;rotate_left;have h37:=rq (hh.d 4 37);have hB:=Hd (hh.st.old.1)
  have c0:w1.cell? ⟨(w.heap.size+1),18,none⟩=some (.int .i64 o.lk.W):=hB.o.cell 18;have i0:=hB.o.inside;rotate_left;have h3:=hh.p 3 ((w.heap.size+1)) 0;have i0:=(hh.st.old.1).inside;rotate_left;have TD:=rq (hh.d 6 39);have i0:=(hh.st.old.1).inside;rotate_left;have VU:=rq (hh.d 7 40);have hB:=Hd (hh.st.old.1);have c0:w1.cell? ⟨(w.heap.size+1),19,none⟩=some (.int .i64 o.lk.H):=hB.o.cell 19;have i0:=hB.o.inside;rotate_left;have h3:=hh.p 3 ((w.heap.size+1)) 0;have i0:=(hh.st.old.1).inside;rotate_left;have h42:=rq (hh.d 9 42);have i0:=(hh.st.old.1).inside;rotate_left
  have h43:=rq (hh.d 10 43);have hB:=Hd (hh.st.old.1);have c0:w1.cell? ⟨(w.heap.size+1),20,none⟩=some (.int .u32 (o.lk.p:Nat)):=hB.o.cell 20;have i0:=hB.o.inside;rotate_left;have h3:=hh.p 3 ((w.heap.size+1)) 0;have i0:=(hh.st.old.1).inside;rotate_left;have h45:=rq (hh.d 12 45);have i0:=(hh.st.old.1).inside;rotate_left
  ·have h46:=rq (hh.d 13 46);have hB:=Hd (hh.st.old.1);have hJ:=Hd hh.st;exact aK 44 _ rfl (w.heap.size+1) 21 (by simpa[go_sem]using h46) _ hB.o ((Vn o.lk.iw o.lk.ih Ao o.lk.l.length co)) rfl _ underlying44 rfl ag ⟨_,rfl,bR,rfl,hJ.o⟩
  have h2:=hh.p 2 w.heap.size 0;have i0:=(hh.st.blk).inside;rotate_left
  ·have h35:=rq (hh.d 2 35);have h48:=rq (hh.d 15 48);have hB:=hh.st.blk;rw[hh.un]at hB;have c0:=hB.cell 13;have f0:=hB.free 13;have i0:=hB.inside;simp only[List.getElem?_cons_zero,List.getElem?_cons_succ]at c0;have hP:=Hd (hh.st.put (i:=13) (v:=.int .i64 o.lk.k) rfl);clear hh hB;go_simp;exact⟨hP.o.2,⟨undef,trivial⟩,hP.o.1⟩
  have h2:=hh.p 2 w.heap.size 0;have i0:=(hh.st.blk).inside;rotate_left
  ·have h38:=rq (hh.d 5 38);have h49:=rq (hh.d 17 49);have hB:=hh.st.blk;rw[hh.un]at hB;have c0:=hB.cell 14;have f0:=hB.free 14;have i0:=hB.inside;simp only[List.getElem?_cons_zero,List.getElem?_cons_succ]at c0;have hP:=Hd (hh.st.put (i:=14) (v:=.int .i64 o.lk.W) rfl);clear hh hB;go_simp;exact⟨hP.o.2,⟨undef,trivial⟩,hP.o.1⟩
  have h2:=hh.p 2 w.heap.size 0;have i0:=(hh.st.blk).inside;rotate_left
  ·have VT:=rq (hh.d 8 41);have h50:=rq (hh.d 19 50);have hB:=hh.st.blk;rw[hh.un]at hB;have c0:=hB.cell 15;have f0:=hB.free 15;have i0:=hB.inside;simp only[List.getElem?_cons_zero,List.getElem?_cons_succ]at c0;have hP:=Hd (hh.st.put (i:=15) (v:=.int .i64 o.lk.H) rfl);clear hh hB;go_simp;exact⟨hP.o.2,⟨undef,trivial⟩,hP.o.1⟩
  have h2:=hh.p 2 w.heap.size 0;have i0:=(hh.st.blk).inside;rotate_left
  ·have QJ:=rq (hh.d 11 44);have h51:=rq (hh.d 21 51);have hB:=hh.st.blk;rw[hh.un]at hB;have c0:=hB.cell 16;have f0:=hB.free 16;have i0:=hB.inside;simp only[List.getElem?_cons_zero,List.getElem?_cons_succ]at c0;have hP:=Hd (hh.st.put (i:=16) (v:=.int .u32 (o.lk.p:Nat)) rfl);clear hh hB;go_simp;exact⟨hP.o.2,⟨undef,trivial⟩,hP.o.1⟩
  have h2:=hh.p 2 w.heap.size 0;have i0:=(hh.st.blk).inside;rotate_left
  ·have h47:=rq (hh.d 14 47);have h52:=rq (hh.d 23 52);have hJ:=Hd hh.st;refine dn 44 _ _ rfl w.heap.size 17 (by simpa[go_sem]using h52) ((Vn o.lk.iw o.lk.ih Ao o.lk.l.length co)) (by simpa[go_sem]using h47) _ hJ.o.blk (nE rfl) ag (by rfl) ?_;intro w9 ng gK;have hP:=hJ.o.wrote ng gK;exact⟨undef,rfl,hP.2,trivial,hP.1⟩
  any_goals (have hJ:=hh.j;clear hh;go_simp;exact⟨_,rfl,bR,rfl,hJ.o⟩)
  intro L w4 val hL hJ hR hv;have HR4:=Hd hR;have QT:=Hd hJ;have e16:=hL 16 (by decide);have e18:=hL 18 (by decide);have e20:=hL 20 (by decide);have e22:=hL 22 (by decide);have e24:=hL 24 (by decide);rw[e16,e18,e20,e22,e24]at QT;clear hv hL hJ hR e16 e18 e20 e22 e24;simp only[regs.aG,List.map_cons,List.map_nil];simp only[Act.put,List.setIfInBounds_toArray,List.set_cons_zero,List.set_cons_succ]
  skip
  have dE:Hid (az w4 w.heap.size (({ n with lk:=o.lk }:Nd).cs Ao co)):=QT.o.blk;have HR2:=Hd QT.o.old.2.1;have kY:=Hd QT.o.old.1;have HB2:Hid (bz w w4):=HB0.o.trans HR4.o;have e0:w4.cell? ⟨w.heap.size+1,0,none⟩=some (.int .i64 o.k):=kY.o.cell 0;have j1:=kY.o.inside;have s8:(o.k==8)=false:=by simp at t7 ⊢;omega
  clear QT;go_wp2_with (first|(with_reducible refine gL ?_;first|(refine wt 46 0 rfl rfl rfl dE.o (({ n with lk:=o.lk }:Nd).cs Ao co) rfl underlying46 rfl ?_))|(with_reducible refine gS ?_;first|(refine ay 46 _ _ rfl rfl rfl _ 0 rfl (({ n with lk:=o.lk }:Nd).cs Ao co) rfl (Va) HR2.o (({ n with lk:=o.lk }:Nd).cs Ao co) rfl (nE rfl) ag (Nd.one _ _ _) ?_;intro w3 HW3 dM)));rw[HE.o];exact bJ rfl rfl dM.o underlying46 rfl ag ⟨rfl,HW3.o.below HB2.o (by omega)⟩
 by_cases h8:o.k=8
 ·have t4:(o.k==4)=false:=by simpa using h4
  have t5:(o.k==5)=false:=by simpa using h5
  have t6:(o.k==6)=false:=by simpa using h6
  have t7:(o.k==7)=false:=by simpa using h7
  have t8:(o.k==8)=true:=by simpa using h8
  have HE:Hid (X=.agg ((({ n with hi:=o.on }:Nd).cs An cn)).toArray):=by show _=_;rw[←HX.o,show bT n o={ n with hi:=o.on } from by unfold bT;rw[if_neg h4,if_neg h5,if_neg h6,if_neg h7,if_pos h8],show aW o Ao An=An from if_neg (by omega),show aW o co cn=cn from if_neg (by omega)]
  clear h4;clear h5;clear h6;clear h7;clear h8;have d7:=xN.o.cell 7;have f7:=xN.o.free 7;simp only[Nd.cs,List.getElem?_cons_zero,List.getElem?_cons_succ]at d7
  have HS:Hid (Wrote w.heap.size wz (wz.setCell ⟨w.heap.size,7,none⟩ (.bool o.on))):=⟨7,[.bool o.on],rfl⟩
  have dE:Hid (az (wz.setCell ⟨w.heap.size,7,none⟩ (.bool o.on)) w.heap.size (({ n with hi:=o.on }:Nd).cs An cn)):=xN.o.set 7 _
  go_upto_region 12 with(fail)
  generalize (wz.setCell ⟨w.heap.size,7,none⟩ (.bool o.on))=w2 at*;have HR2:=Hd (HS.o.blk (show w.heap.size+2≠w.heap.size by omega) jd.o);have HB2:=Hd (HS.o.below HB0.o (by omega));have kY:=Hd (HS.o.blk (show w.heap.size+1≠w.heap.size by omega) jM.o);have e0:w2.cell? ⟨w.heap.size+1,0,none⟩=some (.int .i64 o.k):=kY.o.cell 0;have j1:=kY.o.inside
  go_wp2_with (first|(with_reducible refine gL ?_;first|(refine wt 46 0 rfl rfl rfl dE.o (({ n with hi:=o.on }:Nd).cs An cn) rfl underlying46 rfl ?_))|(with_reducible refine gS ?_;first|(refine ay 46 _ _ rfl rfl rfl _ 0 rfl (({ n with hi:=o.on }:Nd).cs An cn) rfl (Va) HR2.o (({ n with hi:=o.on }:Nd).cs An cn) rfl (nE rfl) ag (Nd.one _ _ _) ?_;intro w3 HW3 dM)));rw[HE.o];exact bJ rfl rfl dM.o underlying46 rfl ag ⟨rfl,HW3.o.below HB2.o (by omega)⟩
 have t4:(o.k==4)=false:=by simpa using h4
 have t5:(o.k==5)=false:=by simpa using h5
 have t6:(o.k==6)=false:=by simpa using h6
 have t7:(o.k==7)=false:=by simpa using h7
 have t8:(o.k==8)=false:=by simpa using h8
 have HE:Hid (X=.agg (((n:Nd).cs An cn)).toArray):=by show _=_;rw[←HX.o,show bT n o=n from by unfold bT;rw[if_neg h4,if_neg h5,if_neg h6,if_neg h7,if_neg h8],show aW o Ao An=An from if_neg (by omega),show aW o co cn=cn from if_neg (by omega)]
 clear h4;clear h5;clear h6;clear h7;clear h8;go_wp2_with (first|(with_reducible refine gL ?_;first|(refine wt 46 0 rfl rfl rfl xN.o ((n:Nd).cs An cn) rfl underlying46 rfl ?_))|(with_reducible refine gS ?_;first|(refine ay 46 _ _ rfl rfl rfl _ 0 rfl ((n:Nd).cs An cn) rfl (Va) jd.o ((n:Nd).cs An cn) rfl (nE rfl) ag (Nd.one _ _ _) ?_;intro w3 HW3 dM)));rw[HE.o];exact bJ rfl rfl dM.o underlying46 rfl ag ⟨rfl,HW3.o.below HB0.o (by omega)⟩
end
section
open Go.RowKit fG gm aF Go.Maps
theorem xU(w:World):(zeroValue 46).run prog w=.ok (.agg (Nd.zero.cs none 0).toArray) w:=by kernel_rfl
theorem wU.zero(w:World):wU w (.agg (Nd.zero.cs none 0).toArray) Nd.zero:=⟨none,0,rfl,oU.none_ rfl⟩
def Sm(H:Int->Bool)(nd:Int->Nd):Int->Nd:=fun i=>if H i=true then nd i else Nd.zero
theorem Xw{w:World}{H:Int->Bool}{nd:Int->Nd}{es:LV}(h1:∀i,omap.look es i≠none->H i=true)(h2:∀i,H i=true->∃v,omap.look es i=some v∧wU w v (nd i))(i:Int):wU w ((omap.look es i).getD (.agg (Nd.zero.cs none 0).toArray)) (Sm H nd i):=by
 unfold Sm;by_cases h:H i=true
 ·rw[if_pos h];obtain⟨v,e,hv⟩:=h2 i h;rw[e];exact hv
 ·rw[if_neg h]
  have e:omap.look es i=none:=by
   cases hl:omap.look es i with
   |none=>rfl
   |some v=>exact absurd (h1 i (by rw[hl];simp)) h
  rw[e];exact wU.zero w
def First(l:List Int)(k:Nat)(val:Int->Value)(es:LV):Prop:=es.length<=k∧∀i,omap.look es i=if i∈l.take k then some (val i) else none
theorem First.start(l:List Int)(val:Int->Value):First l 0 val []:=⟨nR,fun i=>by rw[List.take_zero,if_neg (by simp)];rfl⟩
theorem First.step{l:List Int}{k:Nat}{val:Int->Value}{es:LV}(h:First l k val es)(hk:k<l.length):First l (k+1) val (omap.put lt l[k] (val l[k]) es):=by
 refine⟨Nat.le_trans (iF _ _ _) (Nat.succ_le_succ h.1),fun i=>?_⟩;rw[omap.dw,h.2 i,List.take_succ_eq_append_getElem hk];by_cases e:i=l[k]
 ·rw[if_pos e,if_pos (by rw[e];exact List.mem_append_right _ (List.mem_singleton.2 rfl)),e]
 ·rw[if_neg e];by_cases h2:i∈l.take k
  ·rw[if_pos h2,if_pos (List.mem_append_left _ h2)]
  ·rw[if_neg h2,if_neg (by simp only[List.mem_append,List.mem_singleton];exact fun h=>h.elim h2 e)]
theorem mM(a b M:Int)(tv:Value)(t:T)(m:Nat)(H:Int->Bool)(nd:Int->Nd)(ok:Ok t)(hn:t.length<=1000)(w:World)(ht:aP w tv t)(hm:dN w m H nd) :
  Calls prog 54 #[.agg #[.int .i64 a,.int .i64 b,.int .i64 M,tv,.map (some m)]] w fun e w'=>∃m',e=.returned (.agg #[.int .i64 a,.int .i64 b,.int .i64 M,tv,.map (some m')])∧dN w' m' (has t) (Sm H nd)∧bz w w'∧w.heap.size<=m':=by
 obtain⟨A,c,rfl,hr,hy⟩:=ht;obtain⟨es,hvm,he1,he2⟩:=hm.ex;have HAT:=Hd (fun i=>Xw he1 he2 i);have XM:=Hd hvm;have HR:=Hd hr;have dY:=Hd ok;have HN:=Hd hn;clear hm hvm he1 he2 hr hy;have HB0:Hid (bz w ((w.alloc (.cells (Vb a b M A t.length c m).toArray 30)).alloc (.cells Vf.toArray 30))):=(bR.alloc nR _).alloc (by simp) _;have lY:Hid (az ((w.alloc (.cells (Vb a b M A t.length c m).toArray 30)).alloc (.cells Vf.toArray 30)) w.heap.size (Vb a b M A t.length c m)):=(aA w (Vb a b M A t.length c m) _).alloc _
 have jd:Hid (az ((w.alloc (.cells (Vb a b M A t.length c m).toArray 30)).alloc (.cells Vf.toArray 30)) (w.heap.size+1) Vf):=aY (w.alloc _) _ (by simp) Vf _;go_enter func54,ntmps54
 go_upto_region 1 with(fail)
 generalize ((w.alloc (.cells (Vb a b M A t.length c m).toArray 30)).alloc (.cells Vf.toArray 30))=w0 at*;have hmk:=Gv w0;have hb1:Below w0.heap.size w0 (w0.alloc (.map #[] 0)):=bR.alloc nR _;have E5:Hid (VM (w0.alloc (.map #[] 0)) w0.heap.size []):=VM.made w0;have HB1:Hid (bz w (w0.alloc (.map #[] 0))):=HB0.o.trans (hb1.mono HB0.o.size);have fV:=Hd (lY.o.below' hb1);have jm:=Hd (jd.o.below' hb1);have dE:Hid (w.heap.size+1<w0.heap.size):=jd.o.inside;clear hb1
 go_upto_region 2 with(fail)
 clear hmk lY jd HB0;generalize (w0.alloc (.map #[] 0))=w1 at*
 obtain⟨k2,hk2⟩:=aC w0.heap.size
 rw[hk2]at E5 dE ⊢;clear hk2;have c3:=fV.o.c 3 rfl;have i0:=fV.o.inside;go_wp2_with (fail);refine(TP A t c dY.o (by have:=HN.o;omega) (t.length+1) 0 w1 (aV.below HR.o HB1.o) (.inl rfl) (by omega)).mono ?_;unfold nU;rintro e w2 ⟨v2,rfl,hown,hb2⟩;have HL:Hid ((aF.walk t 0).length<=1001):=by have:=kN dY.o (i:=0) (.inl rfl);have:=HN.o;show _<=_;omega
 have HW:Hid (∀i,i∈aF.walk t 0↔has t i=true):=fun i=>jw dY.o;have hbs:=fun g=>ax.block hown (g:=g);obtain⟨vA,vc,rfl,-,-,hrow⟩:=hown.lM;have AU:=Hd hrow
 have HVB:Hid (∀b o,vA=some ⟨b,o,none⟩->k2<b):=fun b o e=>by
  subst e;have:=(hbs b rfl).1;have:=E5.o.inside;omega
 have Ll:=Hd (E5.o.below hb2);have HB2:=Hd (HB1.o.trans (hb2.mono HB1.o.size));have lW:=Hd (fV.o.below' hb2);have kX:=Hd (jm.o.below' hb2);clear hown hbs hrow hb2 E5 HB1 fV jm c3 i0
 obtain⟨l,hl⟩:=aC (aF.walk t 0)
 rw[hl]at HL HW AU ⊢;clear hl;have Vx:=Hd (And.intro (lW.o.cell 4) lW.o.inside);have HVW:Hid (∀W,bz w2 W->VM W m es):=fun W hb=>(XM.o.below HB2.o).below hb;have HID:Hid (∀i,i∈l->I64 i):=fun i hi=>mX dY.o ((HW.o i).1 hi)
 have HS2:Hid (k2<w2.heap.size∧m<w.heap.size):=⟨Ll.o.inside,XM.o.inside⟩
 go_wp2_with (fail)
 go_loopw [11,5] (fun x11 _ wr=>∃(k:Nat) (e2:LV),k<=l.length∧x11=.int .i64 k∧Hid (VM wr k2 e2)∧Hid (First l k (fun i=>(omap.look es i).getD (.agg (Nd.zero.cs none 0).toArray)) e2)∧Hid (Below k2 w2 wr)∧Hid (∀j,j<w2.heap.size->j≠k2->wr.heap[j]?=w2.heap[j]?)) (fun x11 _ _=>l.length - (intOf x11).toNat)
 case atStart=>exact⟨0,[],Nat.zero_le _,rfl,Ll.o,First.start _ _,bR,fun _ _ _=>rfl⟩
 case round=>
  obtain⟨k,e2,hk,rfl,HE,HF,QV,HST⟩:=hrel;by_cases hlt:k<l.length
  ·have t1:decide (k<l.length)=true:=decide_eq_true hlt;obtain⟨b9,o9,e9,h9⟩:=Row.at_ AU.o hlt;have h8:=World.block_lt_of_cell? w2 _ h9;have hne:=HVB.o b9 o9 e9;subst e9;have hc:wr.cell? ⟨b9,o9+k,none⟩=some (.int .i64 l[k]):=(World.cell?_of_block (a:=⟨b9,o9+k,none⟩) (HST.o b9 h8 (by omega))).trans h9;have hi:=HID.o _ (List.getElem_mem hlt);have hvo:VM wr m es:=(HVW.o w2 bR).stays (HST.o m (by have:=HS2.o.2;have:=HB2.o.size;omega) (by have:=HS2.o.2;have:=dE.o;omega));have hlk:=hvo.lookup (t:=yO) (E:=46) underlying28 (xU wr) hi
   obtain⟨w3,hrun,Tq,hg3⟩:=HE.o.store (t:=yO) (E:=46) underlying28 hi ((omap.look es l[k]).getD (.agg (Nd.zero.cs none 0).toArray)) (by have h1:=iF l[k] ((omap.look es l[k]).getD (.agg (Nd.zero.cs none 0).toArray)) e2;have h2:=HF.o.1;have:=HL.o;omega);have QU:=Hd Tq;have HF3:=Hd (HF.o.step hlt);have HB3:Hid (Below k2 w2 w3):=QV.o.grown hg3 (by have:=HS2.o.1;have:=QV.o.size;omega) fun j hj=>by cases hj;exact nR
   have qO:Hid (∀j,j<w2.heap.size->j≠k2->w3.heap[j]?=w2.heap[j]?):=fun j hj hn=>(hg3.block j (Nat.lt_of_lt_of_le hj QV.o.size) (fun e=>by cases e;exact hn rfl)).trans (HST.o j hj hn);have gQ:=Hd hlt;have hkb:(k:Int)<=1001:=by have:=HL.o;omega
   have c4:wr.cell? ⟨w.heap.size,4,none⟩=some (.map (some m)):=(World.cell?_of_block (a:=⟨w.heap.size,4,none⟩) (HST.o w.heap.size Vx.o.2 (by have h:=dE.o;omega))).trans Vx.o.1;have i0:w.heap.size<wr.heap.size:=Nat.lt_of_lt_of_le Vx.o.2 QV.o.size;clear Tq hg3 hvo hi h8 hne h9 HE HF QV HST hk;generalize l[k]=id at*;clear hlt;go_wp2_with (fail)
   go_roundw
   case rel=>exact⟨k+1,_,gQ.o,by go_num,QU,HF3,HB3,qO⟩
   case measure=>have:=gQ.o;simp[intOf];omega
  ·obtain rfl:k=l.length:=by omega
   have o5:=Hd (HB2.o.trans (QV.o.mono (by have:=dE.o;omega)));have wM:=Hd (lW.o.stays (HST.o w.heap.size lW.o.inside (by have h:=dE.o;omega)));have su:=Hd (kX.o.stays (HST.o (w.heap.size+1) kX.o.inside (by have h:=dE.o;omega)))
   have HFL:Hid (∀i,omap.look e2 i=if i∈l then some ((omap.look es i).getD (.agg (Nd.zero.cs none 0).toArray)) else none):=fun i=>by
    have h1:=HF.o.2 i;rw[List.take_length]at h1;exact h1
   have t1:decide (l.length<l.length)=false:=by simp
   clear HF QV HST lW kX hk hlt
   go_upto_region 7 with(fail)
   have d4:=wM.o.cell 4;have f4:=wM.o.free 4;have i3:=wM.o.inside;have hne:k2≠w.heap.size:=by have h:=dE.o;omega
   have HS:Hid (Wrote w.heap.size wr (wr.setCell ⟨w.heap.size,4,none⟩ (.map (some k2)))):=⟨4,[.map (some k2)],rfl⟩
   have nZ:Hid (az (wr.setCell ⟨w.heap.size,4,none⟩ (.map (some k2))) w.heap.size (Vb a b M A t.length c k2)):=wM.o.set 4 _;have HR4:=Hd (HS.o.blk (show w.heap.size+1≠w.heap.size by omega) su.o);have HB4:=Hd (HS.o.below o5.o nR);simp only[List.getElem?_cons_zero,List.getElem?_cons_succ]at d4
   go_upto_region 8 with(fail)
   generalize hw4:(wr.setCell ⟨w.heap.size,4,none⟩ (.map (some k2)))=w4 at*;clear hw4;go_wp2_with (first|(with_reducible refine gL ?_;first|(refine wt 30 0 rfl rfl rfl nZ.o ((Vb a b M A t.length c k2)) rfl underlying30 rfl ?_))|(with_reducible refine gS ?_;first|(refine ay 30 _ _ rfl rfl rfl _ 0 rfl ((Vb a b M A t.length c k2)) rfl (Vf) HR4.o ((Vb a b M A t.length c k2)) rfl (nE rfl) ag rfl ?_;intro w5 yA uS)));have NU:=yA.o.below HB4.o (by omega)
   exact bJ rfl rfl uS.o underlying30 rfl ag ⟨k2,rfl,⟨_,(HE.o.stays (HS.o.far hne)).stays (yA.o.far (by have h:=dE.o;omega)),fun i hi=>by
    by_cases e:i∈l
    ·exact(HW.o i).1 e
    ·rw[HFL.o i,if_neg e]at hi;exact absurd rfl hi,fun i hi=>⟨_,by rw[HFL.o i,if_pos ((HW.o i).2 hi)],(HAT.o i).below NU⟩⟩,NU,by have h:=dE.o;omega⟩
end
section
open Go.RowKit fG gm aF Go.Maps
theorem iK.pU(q:iK):∀u∈q.cs,u.oneCell'=true:=fun u hu=>List.all_eq_true.1 (dH.one _ _ _) u hu
end
section
open Go.RowKit fG gm aF Go.Maps
structure uN where
 A:Option Addr
 c:Nat
 l:List iK
def uN.cs(q:uN):List Value:=[.slice q.A q.l.length q.c]
theorem uN.bZ(q:uN):q.cs.length=1:=rfl
theorem uN.pU(q:uN):∀u∈q.cs,u.oneCell'=true:=by
 intro u hu;rw[List.mem_singleton.1 hu];rfl
structure Ip(o:dH):Prop where
 i:I64 o.i
 p:I64 o.p
 c:o.lk.p<4294967296
 l:∀z∈o.lk.l,z<4294967296
 len:o.lk.l.length<=maxLen
theorem Ip.ok{o:dH}(h:Ip o)(hl:o.lk.l.length<=300):kK o:=⟨h.i,h.p,h.c,h.l,hl⟩
structure AB(w:World)(A:Option Addr)(l:List iK):Prop where
 row:aV 23 iK.cs w A l
 px:∀q∈l,Row eW w q.A q.o.lk.l∧Ip q.o
theorem AB.below{w w':World}{A:Option Addr}{l:List iK}(h:AB w A l)(hb:bz w w'):AB w' A l:=⟨aV.below h.row hb,fun q hq=>⟨Row.below (h.px q hq).1 hb,(h.px q hq).2⟩⟩
theorem AB.at_{w w':World}{A:Option Addr}{l:List iK}{S:bF}(h:AB w A l)(hb:bz w w')(hS:∀k,S k->w.heap.size<=k):pY S w' A l:=
 ⟨aV.below h.row hb,fun a e hne hk=>by
  have h1:=h.row.blt (fun _=>⟨_,_,rfl⟩) e hne;have h2:=hS _ hk
  omega,fun q hq=>⟨Row.below (h.px q hq).1 hb,fun a e hne hk=>by
  have h1:=Row.lt (h.px q hq).1 e hne;have h2:=hS _ hk
  omega⟩⟩
structure KN(w:World)(A:Option Addr)(L:List uN):Prop where
 row:aV 1 uN.cs w A L
 ops:∀q∈L,AB w q.A q.l
 few:∀q∈L,q.l.length<=1099511627776
 most:L.length<=9223372036854775807
theorem KN.below{w w':World}{A:Option Addr}{L:List uN}(h:KN w A L)(hb:bz w w'):KN w' A L:=⟨aV.below h.row hb,fun q hq=>(h.ops q hq).below hb,h.few,h.most⟩
def total(L:List uN):Nat:=(L.map fun q=>q.l.length).sum
theorem yJ(L:List uN)(q:uN):total (L++[q])=total L+q.l.length:=by simp[total]
theorem Q7{L:List uN}(h:∀q∈L,q.l.length<=1099511627776):total L<=L.length*1099511627776:=by
 induction L with
 |nil=>simp[total]
 |cons q L ih=>
  have h1:=ih fun q hq=>h q (List.mem_cons_of_mem _ hq);have h2:=h q List.mem_cons_self;simp only[total,List.map_cons,List.sum_cons,List.length_cons]at h1 ⊢;omega
theorem Je{L:List uN}(j:Nat):total (L.take j)<=total L:=by
 have h:total L=total (L.take j)+total (L.drop j):=by
  conv=>lhs;rw[←List.take_append_drop j L]
  unfold total;rw[List.map_append,List.sum_append]
 omega
def thin(q:uN):Prop:=∀o∈q.l,o.o.lk.l.length<=300
def fits(L:List uN):Prop:=(∀q∈L,thin q)∧L.length<=30∧total L<=120
def Zc(L:List uN)(w:World)(e:Ending)(w':World):Prop:=∃n:Int,e=.returned (.int .i64 n)∧(0<=n↔fits L)∧I64 n∧bz w w'
theorem Wp(x:Int):I64 (wrap64 x):=by
 unfold wrap64 I64;omega
theorem size_law(L:List uN)(A:Option Addr)(c:Nat)(w:World)(h:KN w A L) :
  Calls prog 7 #[.slice A L.length c] w (Zc L w):=by
 have HT:=Hd h;have HM:Hid (L.length<=9223372036854775807):=h.most;have hlb:(L.length:Int)<=9223372036854775807:=by have:=h.most;omega
 clear h;go_enter func7,ntmps7;go_wp2_with (fail)
 go_loopw [10,3] (fun x10 x3 wr=>∃(j:Nat) (n:Int),j<=L.length∧x10=.int .i64 j∧x3=.int .i64 n∧Hid (I64 n∧(j<=30->n=(total (L.take j):Nat)))∧Hid (∀q∈L.take j,thin q)∧Hid (bz w wr)) (fun x10 _ _=>L.length - (intOf x10).toNat)
 case atStart=>exact⟨0,0,Nat.zero_le _,rfl,rfl,⟨⟨by decide,by decide⟩,fun _=>by simp[total]⟩,(fun q hq=>by simp at hq),bR⟩
 case round=>
  obtain⟨j,n,hj,rfl,rfl,HN,XQ,HB⟩:=hrel;generalize wr=wA at*;by_cases hlt:j<L.length
  ·have t1:decide (j<L.length)=true:=by simpa using hlt
   have gQ:=Hd hlt;obtain⟨lb,lo,rA,hcell⟩:=(HT.o.below HB.o).row (by omega);subst rA
   obtain⟨q,hq⟩:∃q,q=L[j]'hlt:=⟨_,rfl⟩
   have hqc:wA.cell? ⟨lb,lo+j,none⟩=some (.slice q.A q.l.length q.c):=by
    have:=hcell j hlt 0 (.slice q.A q.l.length q.c) (by rw[hq];rfl)
    rwa [Nat.mul_one,Nat.add_zero]at this
   have BK:Hid (q∈L):=by rw[hq];exact List.getElem_mem hlt
   have uO:Hid (L.take (j+1)=L.take j++[q]):=by rw[hq];exact List.take_succ_eq_append_getElem hlt
   have V8:=Hd (HT.o.ops q BK.o);have HFW:=Hd (HT.o.few q BK.o);have i0:=World.block_lt_of_cell? wA ⟨lb,_,none⟩ hqc;have hqb:(q.l.length:Int)<=1099511627776:=by have:=HFW.o;omega
   obtain⟨nv,hnv⟩:=aC (wrap64 (n+(q.l.length:Int)))
   have HNV:Hid (I64 nv∧(j+1<=30->nv=(total (L.take (j+1)):Nat))):=by
    refine⟨by rw[←hnv];exact Wp _,fun h30=>?_⟩;have h1:=HN.o.2 (by omega);have h2:=Q7 (L:=L.take j) fun q hq=>HT.o.few q (List.mem_of_mem_take hq);rw[List.length_take]at h2;rw[←hnv,uO.o,yJ,h1];have h3:=HFW.o;have h4:min j L.length*1099511627776<=30*1099511627776:=Nat.mul_le_mul_right _ (by omega);unfold wrap64;omega
   clear hcell hq hlt;go_wp2_with (fail);clear hnv hqc i0
   go_loopw [20] (fun x20 wr=>∃k:Nat,k<=q.l.length∧x20=.int .i64 k∧Hid (∀o∈q.l.take k,o.o.lk.l.length<=300)∧Hid (bz w wr)) (fun x20 _=>q.l.length - (intOf x20).toNat)
   case atStart=>exact⟨0,Nat.zero_le _,rfl,(fun o ho=>by simp at ho),HB.o⟩
   case round=>
    obtain⟨k,hk,rfl,a2v,HB2⟩:=hrel;generalize wr=wB at*;by_cases hkl:k<q.l.length
    ·have t2:decide (k<q.l.length)=true:=by simpa using hkl
     have xO:=Hd hkl;obtain⟨pb,po,rP,YJ⟩:=(V8.o.below HB2.o).row (by omega);have XY:Hid (q.A=some ⟨pb,po,none⟩):=rP;rw[rP]
     obtain⟨p,hp⟩:∃p,p=q.l[k]'hkl:=⟨_,rfl⟩
     have HPM:Hid (p∈q.l):=by rw[hp];exact List.getElem_mem hkl
     have HPT:Hid (q.l.take (k+1)=q.l.take k++[p]):=by rw[hp];exact List.take_succ_eq_append_getElem hkl
     have oZ:Hid (wB.rangeAt pb (po+k*23) p.cs):=by
      rw[hp];exact fun i v hv=>YJ k hkl i v hv
     have HPL:Hid (p.o.lk.l.length<=maxLen):=(V8.o.px p HPM.o).2.len;have HZ2:Hid (az (wB.alloc (.cells Vg.toArray 85)) wB.heap.size Vg):=aA wB Vg _;have iO:Hid (bz wB (wB.alloc (.cells Vg.toArray 85))):=bR.alloc nR _;have c0:=oZ.o 0 (.int .i64 p.o.k) rfl;have i0:pb<wB.heap.size:=World.block_lt_of_cell? wB ⟨pb,_,none⟩ c0;clear c0 rP YJ hp hkl
     go_upto_region 9 with(first|((with_reducible refine gL ?_);refine qp 85 _ rfl rfl _ _ rfl (p.cs) oZ.o _ underlying85 rfl ag ?_)|((with_reducible refine gS ?_);refine ay 85 _ _ rfl rfl rfl _ 0 rfl (p.cs) rfl (Vg) HZ2.o (p.cs) rfl (nE rfl) ag (dH.one _ _ _) ?_;intro w3 HW3 dM))
     have HB3:=Hd (HB2.o.trans ((HW3.o.below iO.o nR).mono HB2.o.size));have PW:=dM.o.c 22 rfl;have i1:=dM.o.inside;have hpl:(p.o.lk.l.length:Int)<=9223372036854775807:=by have:=HPL.o;unfold maxLen at this;omega
     clear HZ2 iO HW3 oZ i0;by_cases hth:300<p.o.lk.l.length
     ·have t3:decide ((300:Int)<(p.o.lk.l.length:Int))=true:=decide_eq_true (by omega)
      have V9:Hid (¬fits L):=fun e=>by
       have h1:=e.1 q BK.o p HPM.o;omega
      clear hth;go_wp2_with (fail);go_ret;exact⟨-1,rfl,⟨fun e=>absurd e (by decide),fun e=>absurd e V9.o⟩,⟨by decide,by decide⟩,HB3.o⟩
     ·have t3:decide ((300:Int)<(p.o.lk.l.length:Int))=false:=decide_eq_false (by omega)
      have a4g:Hid (∀o∈q.l.take (k+1),o.o.lk.l.length<=300):=fun o ho=>by
       rw[HPT.o]at ho;rcases List.mem_append.1 ho with h1|h1
       ·exact a2v.o o h1
       ·rw[List.mem_singleton.1 h1];omega
      clear hth;go_wp2_with (fail)
      go_roundw
      case rel=>exact⟨k+1,xO.o,by go_num,a4g,HB3⟩
      case measure=>have:=xO.o;simp[intOf];omega
    ·obtain rfl:k=q.l.length:=by omega
     have t2:decide (q.l.length<q.l.length)=false:=by simp
     have a4h:Hid (∀r∈L.take (j+1),thin r):=fun r hr=>by
      rw[uO.o]at hr;rcases List.mem_append.1 hr with h1|h1
      ·exact XQ.o r h1
      ·rw[List.mem_singleton.1 h1];have:=a2v.o
       rwa [List.take_length]at this
     clear hkl;go_wp2_with (fail)
     go_roundw
     case rel=>exact⟨j+1,nv,gQ.o,by go_num,rfl,HNV,a4h,HB2⟩
     case measure=>have:=gQ.o;simp[intOf];omega
  ·obtain rfl:j=L.length:=by omega
   have t1:decide (L.length<L.length)=false:=by simp
   have HTA:Hid (∀q∈L,thin q):=by have:=XQ.o;rwa [List.take_length]at this
   clear hlt;by_cases h30:30<L.length
   ·have t3:decide ((30:Int)<(L.length:Int))=true:=decide_eq_true (by omega);have V9:Hid (¬fits L):=fun e=>by have:=e.2.1;omega
    clear h30;go_wp2_with (fail);go_ret;exact⟨-1,rfl,⟨fun e=>absurd e (by decide),fun e=>absurd e V9.o⟩,⟨by decide,by decide⟩,HB.o⟩
   ·have t3:decide ((30:Int)<(L.length:Int))=false:=decide_eq_false (by omega);have hn:n=(total L:Nat):=by have:=HN.o.2 (by omega);rwa [List.take_length]at this
    have Xn:L.length<=30:=by omega
    have a5e:=Hd Xn;subst hn;by_cases a2a:120<total L
    ·have t4:decide ((120:Int)<((total L:Nat):Int))=true:=decide_eq_true (by omega);have V9:Hid (¬fits L):=fun e=>by have:=e.2.2;omega
     clear h30 a2a Xn;go_wp2_with (fail);go_ret;exact⟨-1,rfl,⟨fun e=>absurd e (by decide),fun e=>absurd e V9.o⟩,⟨by decide,by decide⟩,HB.o⟩
    ·have t4:decide ((120:Int)<((total L:Nat):Int))=false:=decide_eq_false (by omega)
     have HF:Hid (fits L):=⟨HTA.o,Xn,by omega⟩
     clear h30 a2a Xn;go_wp2_with (fail);go_ret;exact⟨(total L:Nat),rfl,⟨fun _=>HF.o,fun _=>by omega⟩,HN.o.1,HB.o⟩
end
section
open Go.RowKit fG gm aF Go.Maps
def MP(x y:aJ):Prop:=x.t=y.t∧x.nd=y.nd
theorem MP.refl(x:aJ):MP x x:=⟨rfl,rfl⟩
theorem Ji(x:aJ):MP (setSt x).1 x:=⟨sU x,sV x⟩
theorem pW{M:Int}:∀(a b:List dH) (x:aJ),aO M x (a++b)=if (aO M x a).2.2≠0 then aO M x a else ((aO M (aO M x a).1 b).1,(aO M x a).2.1+(aO M (aO M x a).1 b).2.1,(aO M (aO M x a).1 b).2.2)
 |[],b,x=>by simp[aO]
 |o::a,b,x=>by
  rw[List.cons_append,bW,bW];by_cases e:(eU M x o).2≠0
  ·rw[if_pos e,if_pos e,if_pos e]
  ·rw[if_neg e,if_neg e,pW a b];by_cases e2:(aO M (eU M x o).1 a).2.2≠0
   ·rw[if_pos e2,if_pos e2]
   ·rw[if_neg e2,if_neg e2];simp only[Nat.add_right_comm]
theorem qL{M:Int}:∀(l:List dH) (x:aJ),(aO M x l).2.2=0->(aO M x l).2.1=l.length
 |[],_,_=>rfl
 |o::l,x,h=>by
  rw[bW]at h ⊢;by_cases e:(eU M x o).2≠0
  ·rw[if_pos e]at h;exact absurd h e
  ·rw[if_neg e]at h ⊢;simp only[List.length_cons];rw[qL l _ h]
end
end Go.Proofs.YthmegninhpihkaaGreat
