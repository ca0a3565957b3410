import Derived.Test.YthpifjcddgmjnaaGreatXScE
import Derived.Test.YthpifjcddgmjnaaGreatXScJ
import Derived.BigRegion
set_option maxHeartbeats 16000000
set_option maxRecDepth 100000
namespace Go.Proofs.YthpifjcddgmjnaaGreat
section
open Go.RowKit pxm imm
structure Lk where
 k:Int
 W:Int
 H:Int
 p:Nat
 iw:Int
 ih:Int
 l:List Nat
structure Nd where
 m:Mp
 op:Int
 hi:Bool
 cl:Bool
 r:Bx
 lk:Lk
structure Op9 where
 k:Int
 i:Int
 p:Int
 n:Int
 m:Mp
 r:Bx
 on:Bool
 N:Int
 lk:Lk
def Lk.cs (q:Lk) (A:Option Addr) (c:Nat):List Value:=(Vj q.k q.W q.H q.p q.iw q.ih A q.l.length c)
def Bx.cs4 (r:Bx):List Value:=(Vl r.a r.b r.c r.d)
def Nd.cs (n:Nd) (A:Option Addr) (c:Nat):List Value:=(Vb n.m.a n.m.b n.m.c n.m.d n.m.e n.m.f n.op n.hi n.cl n.r.a n.r.b n.r.c n.r.d n.lk.k n.lk.W n.lk.H n.lk.p n.lk.iw n.lk.ih A n.lk.l.length c)
def Op9.cs (o:Op9) (A:Option Addr) (c:Nat):List Value:=[.int .i64 o.k,.int .i64 o.i,.int .i64 o.p,.int .i64 o.n,.int .i64 o.m.a,.int .i64 o.m.b,.int .i64 o.m.c,.int .i64 o.m.d,.int .i64 o.m.e,.int .i64 o.m.f,.int .i64 o.r.a,.int .i64 o.r.b,.int .i64 o.r.c,.int .i64 o.r.d,.bool o.on,.int .i64 o.N,
 .int .i64 o.lk.k,.int .i64 o.lk.W,.int .i64 o.lk.H,.int .u32 (o.lk.p:Nat),.int .i64 o.lk.iw,.int .i64 o.lk.ih,.slice A o.lk.l.length c]
def plcs (n:Nd) (A:Option Addr) (c:Nat) (u:Mp):List Value:=[.int .i64 n.m.a,.int .i64 n.m.b,.int .i64 n.m.c,.int .i64 n.m.d,.int .i64 n.m.e,.int .i64 n.m.f,.int .i64 n.op,.bool n.hi,.bool n.cl,.int .i64 n.r.a,.int .i64 n.r.b,.int .i64 n.r.c,.int .i64 n.r.d,
 .int .i64 n.lk.k,.int .i64 n.lk.W,.int .i64 n.lk.H,.int .u32 (n.lk.p:Nat),.int .i64 n.lk.iw,.int .i64 n.lk.ih,.slice A n.lk.l.length c,.int .i64 u.a,.int .i64 u.b,.int .i64 u.c,.int .i64 u.d,.int .i64 u.e,.int .i64 u.f]
def Nd.v (n:Nd) (A:Option Addr) (c:Nat):Value:=.agg (n.cs A c).toArray
def Op9.v (o:Op9) (A:Option Addr) (c:Nat):Value:=.agg (o.cs A c).toArray
def plv (n:Nd) (A:Option Addr) (c:Nat) (u:Mp):Value:=.agg (plcs n A c u).toArray
theorem Nd.v_eq (n:Nd) (A:Option Addr) (c:Nat):n.v A c=ndV n.m n.op n.hi n.cl n.r n.lk.k n.lk.W n.lk.H n.lk.p n.lk.iw n.lk.ih A n.lk.l.length c:=rfl
theorem Nd.one (n:Nd) (A:Option Addr) (c:Nat):(n.cs A c).all (·.oneCell')=true:=rfl
theorem Lk.one (q:Lk) (A:Option Addr) (c:Nat):(q.cs A c).all (·.oneCell')=true:=rfl
theorem Mp.one1 (m:Mp):m.cs.all (·.oneCell')=true:=rfl
theorem Op9.one (o:Op9) (A:Option Addr) (c:Nat):(o.cs A c).all (·.oneCell')=true:=rfl
theorem plcs_one (n:Nd) (A:Option Addr) (c:Nat) (u:Mp):(plcs n A c u).all (·.oneCell')=true:=rfl
def Nd.plain:Nd:=⟨Mp.one,255,false,false,Bx.o,⟨0,0,0,0,0,0,[]⟩⟩
def Nd.chk (n:Nd):Int:=ndC n.m n.op n.cl n.r (lkC n.lk.k n.lk.W n.lk.H n.lk.p n.lk.iw n.lk.ih n.lk.l)
def setN (n:Nd) (o:Op9):Nd:=
 if o.k=4 then { n with m:=o.m } else if o.k=5 then { n with cl:=o.on,r:=o.r } else if o.k=6 then { n with op:=o.N } else if o.k=7 then { n with lk:=o.lk } else if o.k=8 then { n with hi:=o.on } else n
def pick7 {α:Type} (o:Op9) (x y:α):α:=if o.k=7 then x else y
theorem on_any (o:Op9) (Ao:Option Addr) (co:Nat) (n:Nd) (An:Option Addr) (cn:Nat) (w:World) :
  Calls Tryz.prog 215 #[o.v Ao co,n.v An cn] w fun e w'=>e=.returned ((setN n o).v (pick7 o Ao An) (pick7 o co cn))∧Below w.heap.size w w':=by
 have HB0:Hid (Below w.heap.size w (((w.alloc (.cells (o.cs Ao co).toArray 77)).alloc (.cells (n.cs An cn).toArray 72)).alloc (.cells Va.toArray 72))):=(((Below.refl _ _).alloc (Nat.le_refl _) _).alloc (by simp) _).alloc (by simp;omega) _;have HKo:Hid (Blk (((w.alloc (.cells (o.cs Ao co).toArray 77)).alloc (.cells (n.cs An cn).toArray 72)).alloc (.cells Va.toArray 72)) w.heap.size (o.cs Ao co)):=((blk_new w (o.cs Ao co) _).alloc _).alloc _
 have HKn:Hid (Blk (((w.alloc (.cells (o.cs Ao co).toArray 77)).alloc (.cells (n.cs An cn).toArray 72)).alloc (.cells Va.toArray 72)) (w.heap.size+1) (n.cs An cn)):=(blk_at (w.alloc _) _ (by simp) (n.cs An cn) _).alloc _;have HKr:Hid (Blk (((w.alloc (.cells (o.cs Ao co).toArray 77)).alloc (.cells (n.cs An cn).toArray 72)).alloc (.cells Va.toArray 72)) (w.heap.size+2) Va):=blk_at ((w.alloc _).alloc _) _ (by simp) Va _;have HSZ:Hid ((((w.alloc (.cells (o.cs Ao co).toArray 77)).alloc (.cells (n.cs An cn).toArray 72)).alloc (.cells Va.toArray 72)).heap.size=w.heap.size+3):=by show _=_;simp
 obtain ⟨X,hX⟩:∃ X,(setN n o).v (pick7 o Ao An) (pick7 o co cn)=X:=⟨_,rfl⟩
 have HX:=Hd hX;rw [hX];clear hX;unfold Op9.v Nd.v;go_enter Tryz.func215,Tryz.ntmps215
 go_upto_region 1 with (fail)
 generalize (((w.alloc (.cells (o.cs Ao co).toArray 77)).alloc (.cells (n.cs An cn).toArray 72)).alloc (.cells Va.toArray 72))=wz at *;have c0:=HKo.out.c 0 rfl;have c14:=HKo.out.c 14 rfl;have c15:=HKo.out.c 15 rfl;have i0:w.heap.size<wz.heap.size:=HKo.out.inside;have i1:w.heap.size+1<wz.heap.size:=HKn.out.inside;by_cases h4:o.k=4
 ·have t4:(o.k==4)=true:=by simpa using h4
  have HE:Hid (X=.agg ((({ n with m:=o.m }:Nd).cs An cn)).toArray):=by show _=_;rw [← HX.out,show setN n o={ n with m:=o.m } from by unfold setN;rw [if_pos h4],show pick7 o Ao An=An from if_neg (by omega),show pick7 o co cn=cn from if_neg (by omega)];rfl
  clear h4
  go_upto_region 12 with (first | (with_reducible refine gL ?_;first | (refine wt 68 4 rfl rfl rfl HKo.out (o.m.cs) rfl Tryz.underlying68 rfl ?_)) | (with_reducible refine gS ?_;first | (refine wpl_stow 68 _ _ rfl rfl rfl _ 0 rfl (o.m.cs) rfl (n.cs An cn) HKn.out (({ n with m:=o.m }:Nd).cs An cn) rfl (Nat.le_of_ble_eq_true rfl) (by kernel_rfl) (Mp.one1 _) ?_;intro w2 HW2 HK2)))
  have HR2:=Hd (HW2.out.blk (show w.heap.size+2≠w.heap.size+1 by omega) HKr.out);have HB2:=Hd (HW2.out.below HB0.out (by omega));go_wp2_with (first | (with_reducible refine gL ?_;first | (refine wt 72 0 rfl rfl rfl HK2.out (({ n with m:=o.m }:Nd).cs An cn) rfl Tryz.underlying72 rfl ?_)) | (with_reducible refine gS ?_;first | (refine wpl_stow 72 _ _ rfl rfl rfl _ 0 rfl (({ n with m:=o.m }:Nd).cs An cn) rfl (Va) HR2.out (({ n with m:=o.m }:Nd).cs An cn) rfl (Nat.le_of_ble_eq_true rfl) (by kernel_rfl) (Nd.one _ _ _) ?_;intro w3 HW3 HK3)));rw [HE.out]
  exact blk_ret rfl rfl HK3.out Tryz.underlying72 rfl (by kernel_rfl) ⟨rfl,HW3.out.below HB2.out (by omega)⟩
 by_cases h5:o.k=5
 ·have t4:(o.k==4)=false:=by simpa using h4
  have t5:(o.k==5)=true:=by simpa using h5
  have HE:Hid (X=.agg ((({ n with cl:=o.on,r:=o.r }:Nd).cs An cn)).toArray):=by show _=_;rw [← HX.out,show setN n o={ n with cl:=o.on,r:=o.r } from by unfold setN;rw [if_neg h4,if_pos h5],show pick7 o Ao An=An from if_neg (by omega),show pick7 o co cn=cn from if_neg (by omega)];rfl
  clear h4;clear h5
  have HJ0:Hid (JF w.heap.size [(w.heap.size,o.cs Ao co),(w.heap.size+2,Va)] (w.heap.size+1) (n.cs An cn) wz):=⟨⟨HKo.out,HKr.out,trivial⟩,by omega,by simp,by omega,HKn.out⟩
  go_upto_region 5 with (fail)
  refine wR (Below w.heap.size) (fun L wx=>JF w.heap.size [(w.heap.size,o.cs Ao co),(w.heap.size+2,Va)] (w.heap.size+1) [.int .i64 n.m.a,.int .i64 n.m.b,.int .i64 n.m.c,.int .i64 n.m.d,.int .i64 n.m.e,.int .i64 n.m.f,.int .i64 n.op,.bool n.hi,bif L 5 then .bool o.on else .bool n.cl,bif L 7 then .int .i64 o.r.a else .int .i64 n.r.a,bif L 7 then .int .i64 o.r.b else .int .i64 n.r.b,bif L 7 then .int .i64 o.r.c else .int .i64 n.r.c,bif L 7 then .int .i64 o.r.d else .int .i64 n.r.d,.int .i64 n.lk.k,.int .i64 n.lk.W,.int .i64 n.lk.H,.int .u32 (n.lk.p:Nat),.int .i64 n.lk.iw,.int .i64 n.lk.ih,.slice An n.lk.l.length cn] wx) [14,15,16,17,18,19] (fun _=>Below.refl _ _) (fun _ _ _ h k=>h.trans k) (fun i=>match i with
   |0=>rp w.heap.size 14
   |1=>rV (.bool o.on)
   |2=>rp w.heap.size 10
   |3=>rV (.agg (o.r.cs4).toArray)
   |4=>rp (w.heap.size+1) 8
   |6=>rp (w.heap.size+1) 9
   | _=>ra) ((Below.refl _ _).drew) (HJ0.out.below (Below.refl _ _).drew) ⟨?_,?_,?_,?_,?_,?_,?_,?_,trivial⟩ ?_
  ·refine zp fun L a w1 hh=>?_;have h2:=hh.p 2 w.heap.size 0;have i0:=(hh.st.old.1).inside;have hJ:=hh.j;clear hh;go_simp;exact ⟨_,rfl,Below.refl _ _,rfl,hJ.out⟩
  ·refine zp fun L a w1 hh=>?_;have h14:=rq (hh.d 0 14);have hB:=Hd (hh.st.old.1);have c0:=hB.out.c 14 rfl;have i0:=hB.out.inside;have hJ:=hh.j;clear hh;go_simp;exact ⟨_,rfl,Below.refl _ _,rfl,hJ.out⟩
  ·refine zp fun L a w1 hh=>?_;have h2:=hh.p 2 w.heap.size 0;have i0:=(hh.st.old.1).inside;have hJ:=hh.j;clear hh;go_simp;exact ⟨_,rfl,Below.refl _ _,rfl,hJ.out⟩
  ·refine zp fun L a w1 hh=>?_;have h16:=rq (hh.d 2 16);have hB:=Hd (hh.st.old.1);have hJ:=Hd hh.st;exact wp_take 70 _ rfl w.heap.size 10 (by simpa [go_sem] using h16) _ hB.out (o.r.cs4) rfl _ Tryz.underlying70 rfl (by kernel_rfl) ⟨_,rfl,Below.refl _ _,rfl,hJ.out⟩
  ·refine zp fun L a w1 hh=>?_;have h3:=hh.p 3 ((w.heap.size+1)) 0;have i0:=(hh.st.blk).inside;have hJ:=hh.j;clear hh;go_simp;exact ⟨_,rfl,Below.refl _ _,rfl,hJ.out⟩
  ·refine zp fun L a w1 hh=>?_;have h15:=rq (hh.d 1 15);have h18:=rq (hh.d 4 18);have hB:=hh.st.blk;rw [hh.un] at hB;have c0:=hB.cell 8;have f0:=hB.free 8;have i0:=hB.inside;simp only [List.getElem?_cons_zero,List.getElem?_cons_succ] at c0;have hP:=Hd (hh.st.put (i:=8) (v:=.bool o.on) rfl);clear hh hB;go_simp;exact ⟨hP.out.2,⟨undef,trivial⟩,hP.out.1⟩
  ·refine zp fun L a w1 hh=>?_;have h3:=hh.p 3 ((w.heap.size+1)) 0;have i0:=(hh.st.blk).inside;have hJ:=hh.j;clear hh;go_simp;exact ⟨_,rfl,Below.refl _ _,rfl,hJ.out⟩
  ·refine zp fun L a w1 hh=>?_;have h17:=rq (hh.d 3 17);have h19:=rq (hh.d 6 19);have hJ:=Hd hh.st;refine wp_stow 70 _ _ rfl (w.heap.size+1) 9 (by simpa [go_sem] using h19) (o.r.cs4) (by simpa [go_sem] using h17) _ hJ.out.blk (Nat.le_of_ble_eq_true rfl) (by kernel_rfl) (by rfl) ?_;intro w9 hW9 hB9;have hP:=hJ.out.wrote hW9 hB9;exact ⟨undef,rfl,hP.2,trivial,hP.1⟩
  intro L w4 val hL hJ hR hv;have HR4:=Hd hR;have HJ4:=Hd hJ;have e5:=hL 5 (by decide);have e7:=hL 7 (by decide);rw [e5,e7] at HJ4;clear hv hL hJ hR e5 e7;simp only [regs.putAll,List.map_cons,List.map_nil];simp only [Act.put,List.setIfInBounds_toArray,List.set_cons_zero,List.set_cons_succ];generalize val 14=v14,val 15=v15,val 16=v16,val 17=v17,val 18=v18,val 19=v19 at *;have HK2:Hid (Blk w4 (w.heap.size+1) (({ n with cl:=o.on,r:=o.r }:Nd).cs An cn)):=HJ4.out.blk;have HR2:=Hd HJ4.out.old.2.1;have HB2:Hid (Below w.heap.size w w4):=HB0.out.trans HR4.out;clear HJ4
  go_wp2_with (first | (with_reducible refine gL ?_;first | (refine wt 72 0 rfl rfl rfl HK2.out (({ n with cl:=o.on,r:=o.r }:Nd).cs An cn) rfl Tryz.underlying72 rfl ?_)) | (with_reducible refine gS ?_;first | (refine wpl_stow 72 _ _ rfl rfl rfl _ 0 rfl (({ n with cl:=o.on,r:=o.r }:Nd).cs An cn) rfl (Va) HR2.out (({ n with cl:=o.on,r:=o.r }:Nd).cs An cn) rfl (Nat.le_of_ble_eq_true rfl) (by kernel_rfl) (Nd.one _ _ _) ?_;intro w3 HW3 HK3)));rw [HE.out];exact blk_ret rfl rfl HK3.out Tryz.underlying72 rfl (by kernel_rfl) ⟨rfl,HW3.out.below HB2.out (by omega)⟩
 by_cases h6:o.k=6
 ·have t4:(o.k==4)=false:=by simpa using h4
  have t5:(o.k==5)=false:=by simpa using h5
  have t6:(o.k==6)=true:=by simpa using h6
  have HE:Hid (X=.agg ((({ n with op:=o.N }:Nd).cs An cn)).toArray):=by show _=_;rw [← HX.out,show setN n o={ n with op:=o.N } from by unfold setN;rw [if_neg h4,if_neg h5,if_pos h6],show pick7 o Ao An=An from if_neg (by omega),show pick7 o co cn=cn from if_neg (by omega)];rfl
  clear h4;clear h5;clear h6;have d6:=HKn.out.cell 6;have f6:=HKn.out.free 6
  have HS:Hid (Wrote (w.heap.size+1) wz (wz.setCell ⟨w.heap.size+1,6,none⟩ (.int .i64 o.N))):=⟨6,[.int .i64 o.N],rfl⟩
  have HK2:Hid (Blk (wz.setCell ⟨w.heap.size+1,6,none⟩ (.int .i64 o.N)) (w.heap.size+1) (({ n with op:=o.N }:Nd).cs An cn)):=HKn.out.set 6 _;have HR2:=Hd (HS.out.blk (show w.heap.size+2≠w.heap.size+1 by omega) HKr.out);have HB2:=Hd (HS.out.below HB0.out (by omega));simp only [Nd.cs,List.getElem?_cons_zero,List.getElem?_cons_succ] at d6
  go_wp2_with (first | (with_reducible refine gL ?_;first | (refine wt 72 0 rfl rfl rfl HK2.out (({ n with op:=o.N }:Nd).cs An cn) rfl Tryz.underlying72 rfl ?_)) | (with_reducible refine gS ?_;first | (refine wpl_stow 72 _ _ rfl rfl rfl _ 0 rfl (({ n with op:=o.N }:Nd).cs An cn) rfl (Va) HR2.out (({ n with op:=o.N }:Nd).cs An cn) rfl (Nat.le_of_ble_eq_true rfl) (by kernel_rfl) (Nd.one _ _ _) ?_;intro w3 HW3 HK3)));rw [HE.out];exact blk_ret rfl rfl HK3.out Tryz.underlying72 rfl (by kernel_rfl) ⟨rfl,HW3.out.below HB2.out (by omega)⟩
 by_cases h7:o.k=7
 ·have t4:(o.k==4)=false:=by simpa using h4
  have t5:(o.k==5)=false:=by simpa using h5
  have t6:(o.k==6)=false:=by simpa using h6
  have t7:(o.k==7)=true:=by simpa using h7
  have HE:Hid (X=.agg ((({ n with lk:=o.lk }:Nd).cs Ao co)).toArray):=by show _=_;rw [← HX.out,show setN n o={ n with lk:=o.lk } from by unfold setN;rw [if_neg h4,if_neg h5,if_neg h6,if_pos h7],show pick7 o Ao An=Ao from if_pos h7,show pick7 o co cn=co from if_pos h7];rfl
  clear h4;clear h5;clear h6;clear h7
  go_upto_region 12 with (first | (with_reducible refine gL ?_;first | (refine wt 64 16 rfl rfl rfl HKo.out (o.lk.cs Ao co) rfl Tryz.underlying64 rfl ?_)) | (with_reducible refine gS ?_;first | (refine wpl_stow 64 _ _ rfl rfl rfl _ 13 rfl (o.lk.cs Ao co) rfl (n.cs An cn) HKn.out (({ n with lk:=o.lk }:Nd).cs Ao co) rfl (Nat.le_of_ble_eq_true rfl) (by kernel_rfl) (Lk.one _ _ _) ?_;intro w2 HW2 HK2)))
  have HR2:=Hd (HW2.out.blk (show w.heap.size+2≠w.heap.size+1 by omega) HKr.out);have HB2:=Hd (HW2.out.below HB0.out (by omega));go_wp2_with (first | (with_reducible refine gL ?_;first | (refine wt 72 0 rfl rfl rfl HK2.out (({ n with lk:=o.lk }:Nd).cs Ao co) rfl Tryz.underlying72 rfl ?_)) | (with_reducible refine gS ?_;first | (refine wpl_stow 72 _ _ rfl rfl rfl _ 0 rfl (({ n with lk:=o.lk }:Nd).cs Ao co) rfl (Va) HR2.out (({ n with lk:=o.lk }:Nd).cs Ao co) rfl (Nat.le_of_ble_eq_true rfl) (by kernel_rfl) (Nd.one _ _ _) ?_;intro w3 HW3 HK3)));rw [HE.out]
  exact blk_ret rfl rfl HK3.out Tryz.underlying72 rfl (by kernel_rfl) ⟨rfl,HW3.out.below HB2.out (by omega)⟩
 by_cases h8:o.k=8
 ·have t4:(o.k==4)=false:=by simpa using h4
  have t5:(o.k==5)=false:=by simpa using h5
  have t6:(o.k==6)=false:=by simpa using h6
  have t7:(o.k==7)=false:=by simpa using h7
  have t8:(o.k==8)=true:=by simpa using h8
  have HE:Hid (X=.agg ((({ n with hi:=o.on }:Nd).cs An cn)).toArray):=by show _=_;rw [← HX.out,show setN n o={ n with hi:=o.on } from by unfold setN;rw [if_neg h4,if_neg h5,if_neg h6,if_neg h7,if_pos h8],show pick7 o Ao An=An from if_neg (by omega),show pick7 o co cn=cn from if_neg (by omega)];rfl
  clear h4;clear h5;clear h6;clear h7;clear h8;have d7:=HKn.out.cell 7;have f7:=HKn.out.free 7
  have HS:Hid (Wrote (w.heap.size+1) wz (wz.setCell ⟨w.heap.size+1,7,none⟩ (.bool o.on))):=⟨7,[.bool o.on],rfl⟩
  have HK2:Hid (Blk (wz.setCell ⟨w.heap.size+1,7,none⟩ (.bool o.on)) (w.heap.size+1) (({ n with hi:=o.on }:Nd).cs An cn)):=HKn.out.set 7 _;have HR2:=Hd (HS.out.blk (show w.heap.size+2≠w.heap.size+1 by omega) HKr.out);have HB2:=Hd (HS.out.below HB0.out (by omega));simp only [Nd.cs,List.getElem?_cons_zero,List.getElem?_cons_succ] at d7
  go_wp2_with (first | (with_reducible refine gL ?_;first | (refine wt 72 0 rfl rfl rfl HK2.out (({ n with hi:=o.on }:Nd).cs An cn) rfl Tryz.underlying72 rfl ?_)) | (with_reducible refine gS ?_;first | (refine wpl_stow 72 _ _ rfl rfl rfl _ 0 rfl (({ n with hi:=o.on }:Nd).cs An cn) rfl (Va) HR2.out (({ n with hi:=o.on }:Nd).cs An cn) rfl (Nat.le_of_ble_eq_true rfl) (by kernel_rfl) (Nd.one _ _ _) ?_;intro w3 HW3 HK3)));rw [HE.out];exact blk_ret rfl rfl HK3.out Tryz.underlying72 rfl (by kernel_rfl) ⟨rfl,HW3.out.below HB2.out (by omega)⟩
 have t4:(o.k==4)=false:=by simpa using h4
 have t5:(o.k==5)=false:=by simpa using h5
 have t6:(o.k==6)=false:=by simpa using h6
 have t7:(o.k==7)=false:=by simpa using h7
 have t8:(o.k==8)=false:=by simpa using h8
 have HE:Hid (X=.agg (((n:Nd).cs An cn)).toArray):=by show _=_;rw [← HX.out,show setN n o=n from by unfold setN;rw [if_neg h4,if_neg h5,if_neg h6,if_neg h7,if_neg h8],show pick7 o Ao An=An from if_neg (by omega),show pick7 o co cn=cn from if_neg (by omega)];rfl
 clear h4;clear h5;clear h6;clear h7;clear h8;go_wp2_with (first | (with_reducible refine gL ?_;first | (refine wt 72 0 rfl rfl rfl HKn.out ((n:Nd).cs An cn) rfl Tryz.underlying72 rfl ?_)) | (with_reducible refine gS ?_;first | (refine wpl_stow 72 _ _ rfl rfl rfl _ 0 rfl ((n:Nd).cs An cn) rfl (Va) HKr.out ((n:Nd).cs An cn) rfl (Nat.le_of_ble_eq_true rfl) (by kernel_rfl) (Nd.one _ _ _) ?_;intro w3 HW3 HK3)));rw [HE.out];exact blk_ret rfl rfl HK3.out Tryz.underlying72 rfl (by kernel_rfl) ⟨rfl,HW3.out.below HB0.out (by omega)⟩
end
section
open Go.RowKit pxm imm trm Go.Maps
abbrev tScene:TypeId:=114
abbrev tPlaced:TypeId:=143
abbrev tPlaces:TypeId:=112
theorem und_places:Tryz.prog.underlying tPlaces=some (.map 3 tPlaced):=Tryz.underlying112
def plzs:List Value:=plcs ⟨⟨0,0,0,0,0,0⟩,0,false,false,⟨0,0,0,0⟩,⟨0,0,0,0,0,0,[]⟩⟩ none 0 ⟨0,0,0,0,0,0⟩
theorem zero_placed (w:World):(zeroValue tPlaced).run Tryz.prog w=.ok (.agg plzs.toArray) w:=by kernel_rfl
structure PSc where
 t:T
 nd:Int->Nd
 ws:Int->Mp
def upd {α:Type} (f:Int->α) (i:Int) (y:α):Int->α:=fun j=>if j=i then y else f j
theorem upd_same {α:Type} (f:Int->α) (i:Int) (y:α):upd f i y i=y:=if_pos rfl
theorem upd_ne {α:Type} (f:Int->α) {i j:Int} (h:j≠i) (y:α):upd f i y j=f j:=if_neg h
def SFoot (b m:Nat) (s:Sh) (t:T):Bset:=fun k=>k=m∨FootT b s t k
def Sor (b m:Nat) (s:Sh) (t:T) (E:Bset):Bset:=fun k=>SFoot b m s t k∨E k
structure ZR where
 b:Int
 c:Int
structure ZZ where
 a:Int
 r:ZR
 E:Bset
structure NdOff (E S:Bset) (w:World) (n:Nd) (A:Option Addr):Prop where
 row:Row eW w A n.lk.l
 off:∀ a,A=some a->n.lk.l≠[]->¬ S a.block
 e:∀ a,A=some a->n.lk.l≠[]->¬ E a.block
def PlAt (E S:Bset) (w:World) (v:Value) (n:Nd) (u:Mp):Prop:=∃ A c,v=plv n A c u∧NdOff E S w n A
structure Fit (n:Nd):Prop where
 p:n.lk.p<4294967296
 l:∀ z∈n.lk.l,z<4294967296
 len:n.lk.l.length<=300
theorem Row.stays {w w':World} {A:Option Addr} {l:List Nat} (h:Row eW w A l) (hb:∀ a,A=some a->l≠[]->w'.heap[a.block]?=w.heap[a.block]?):Row eW w' A l:=fun hn=>by
 obtain ⟨b,off,e,hc⟩:=h hn;have hne:l≠[]:=fun e=>by rw [e] at hn;exact absurd hn (by simp)
 refine ⟨b,off,e,fun j hj=>?_⟩;have h1:=hb _ e hne;have h2:=hc j hj;rw [← h2];unfold World.cell?;simp only at h1 ⊢;rw [h1]
theorem Row.lt {w:World} {A:Option Addr} {l:List Nat} (h:Row eW w A l) {a:Addr} (e:A=some a) (hne:l≠[]):a.block<w.heap.size:=by
 have hn:0<l.length:=List.length_pos_iff.2 hne;obtain ⟨b,off,e2,hc⟩:=h hn;rw [e] at e2;obtain rfl:=Option.some.inj e2;exact World.block_lt_of_cell? w ⟨b,_,none⟩ (hc 0 hn)
section
variable {E S S':Bset} {w w':World} {n:Nd} {A:Option Addr} {v:Value} {u:Mp}
theorem NdOff.turn (h:NdOff E S w n A) (ht:TurnP S S' w w'):NdOff E S' w' n A:=
 ⟨Row.stays h.1 fun a e hne=>(ht.far _ (Row.lt h.1 e hne) (h.2 a e hne)).2,fun a e hne=>(ht.far _ (Row.lt h.1 e hne) (h.2 a e hne)).1,h.3⟩
theorem PlAt.turn (h:PlAt E S w v n u) (ht:TurnP S S' w w'):PlAt E S' w' v n u:=by
 obtain ⟨A,c,e,h⟩:=h;exact ⟨A,c,e,h.turn ht⟩
end
structure SceneAt (w:World) (g b m:Nat) (s:Sh) (Z:ZZ) (x:PSc):Prop where
 blk:BlkT w g [.iface 109 (.pointer (some ⟨b,0,none⟩)),.pointer (some ⟨b,0,none⟩),.int .i64 Z.1,.int .i64 Z.2.1,.int .i64 Z.2.2,.map (some m)] tScene
 tree:TreeAt w b s x.t
 map:∃ es,VM w m es∧(∀ i,omap.look es i≠none->has x.t i=true)∧∀ i,has x.t i=true->∃ v,omap.look es i=some v∧PlAt Z.3 (SFoot b m s x.t) w v (x.nd i) (x.ws i)
 gfar:¬ SFoot b m s x.t g
 mfar:¬ FootT b s x.t m
 old:∀ k,Z.3 k->k<w.heap.size∧¬ SFoot b m s x.t k∧k≠g
theorem ids_len (t:T):(ids t).length=t.length:=by simp [ids]
theorem es_le {es:LV} {t:T} (hr:omap.Rises lt es) (h:∀ i,omap.look es i≠none->has t i=true):es.length<=t.length+1:=by
 have hn:(es.map (·.1)).Nodup:=by
  refine List.Pairwise.map _ (fun a b hab=>?_) hr;exact ord.ne hab
 have:=len_of_sub (m:=0::ids t) hn fun x hx=>by
  obtain ⟨p,hp,rfl⟩:=List.mem_map.1 hx;have h1:=h p.1 (by rw [omap.Rises.look_of_mem ord hr hp];simp);rcases has_iff.1 h1 with e | e
  ·exact List.mem_cons.2 (.inl e)
  ·exact List.mem_cons_of_mem _ e
 rw [List.length_map,List.length_cons,ids_len] at this;exact this
section
variable {w w':World} {g b m:Nat} {s:Sh} {Z:ZZ} {x:PSc}
theorem SceneAt.inside (h:SceneAt w g b m s Z x):∀ k,SFoot b m s x.t k->k<w.heap.size:=by
 rintro k (rfl | hk)
 ·obtain ⟨es,hm,_⟩:=h.map;exact hm.inside
 ·exact h.tree.raw.inside k hk
theorem SceneAt.top (h:SceneAt w g b m s Z x):(w.cell? ⟨g,0,none⟩=some (.iface 109 (.pointer (some ⟨b,0,none⟩)))∧w.cell? ⟨g,1,none⟩=some (.pointer (some ⟨b,0,none⟩))∧w.cell? ⟨g,2,none⟩=some (.int .i64 Z.1)∧w.cell? ⟨g,3,none⟩=some (.int .i64 Z.2.1)∧w.cell? ⟨g,4,none⟩=some (.int .i64 Z.2.2)∧w.cell? ⟨g,5,none⟩=some (.map (some m)))∧g<w.heap.size:=
 have h1:=h.blk.blk
 ⟨⟨h1.cell 0,h1.cell 1,h1.cell 2,h1.cell 3,h1.cell 4,h1.cell 5⟩,h1.inside⟩
theorem SceneAt.stays (h:SceneAt w g b m s Z x) (ht:TurnP (SFoot b m s x.t) (SFoot b m s x.t) w w') (hn:∀ k,SFoot b m s x.t k->w'.heap[k]?=w.heap[k]?):SceneAt w' g b m s Z x:=by
 obtain ⟨es,hm,h1,h2⟩:=h.map;refine ⟨h.blk.stays (ht.far g h.blk.inside h.gfar).2,h.tree.stays fun k hk=>hn k (.inr hk),⟨es,hm.stays (hn m (.inl rfl)),h1,fun i hi=>?_⟩,h.gfar,h.mfar,fun k hk=>⟨Nat.lt_of_lt_of_le (h.old k hk).1 ht.size,(h.old k hk).2⟩⟩;obtain ⟨v,e,hv⟩:=h2 i hi;exact ⟨v,e,hv.turn ht⟩
theorem SceneAt.below (h:SceneAt w g b m s Z x) (hb:Below w.heap.size w w'):SceneAt w' g b m s Z x:=h.stays (TurnP.below hb) fun k hk=>hb.block k (h.inside k hk)
theorem SceneAt.look (h:SceneAt w g b m s Z x) {i:Int} (hi:I64 i) (hh:has x.t i=true):∃ A c,(Instr.lookup tPlaces (.map (some m)) (.int .i64 i) false).run Tryz.prog w=.ok (plv (x.nd i) A c (x.ws i)) w ∧
  (Instr.lookup tPlaces (.map (some m)) (.int .i64 i) true).run Tryz.prog w=.ok (.tuple #[plv (x.nd i) A c (x.ws i),.bool true]) w∧NdOff Z.3 (SFoot b m s x.t) w (x.nd i) A:=by
 obtain ⟨es,hm,-,h2⟩:=h.map;obtain ⟨v,e,A,c,rfl,hv⟩:=h2 i hh;have h3:=hm.lookup und_places (zero_placed w) hi;have h4:=hm.look_ok und_places (zero_placed w) hi;rw [e] at h3 h4;exact ⟨A,c,h3,h4,hv⟩
theorem SceneAt.look_none (h:SceneAt w g b m s Z x) {i:Int} (hi:I64 i) (hh:¬ has x.t i=true):(Instr.lookup tPlaces (.map (some m)) (.int .i64 i) false).run Tryz.prog w=.ok (.agg plzs.toArray) w ∧
  (Instr.lookup tPlaces (.map (some m)) (.int .i64 i) true).run Tryz.prog w=.ok (.tuple #[.agg plzs.toArray,.bool false]) w:=by
 obtain ⟨es,hm,h1,-⟩:=h.map
 have e:omap.look es i=none:=by
  cases e:omap.look es i with
  | none=>rfl
  | some v=>exact absurd (h1 i (by rw [e];simp)) hh
 have h3:=hm.lookup und_places (zero_placed w) hi;have h4:=hm.look_ok und_places (zero_placed w) hi;rw [e] at h3 h4;exact ⟨h3,h4⟩
theorem TurnP.refl_grown {S:Bset} {w w':World} {m:Nat} (hg:w.grownBy w' (some m)) (hm:S m):TurnP S S w w':=TurnP.grown hg fun k e=>by
 obtain rfl:=Option.some.inj e;exact hm
theorem SceneAt.store (h:SceneAt w g b m s Z x) (hn:x.t.length<=100000) {i:Int} (hi:I64 i) (hh:has x.t i=true) {v:Value} {n:Nd} {u:Mp} (hv:PlAt Z.3 (SFoot b m s x.t) w v n u) :
  ∃ w',(Instr.mapUpdate tPlaces (.map (some m)) (.int .i64 i) v).run Tryz.prog w=.ok () w'∧SceneAt w' g b m s Z ⟨x.t,upd x.nd i n,upd x.ws i u⟩∧TurnP (SFoot b m s x.t) (SFoot b m s x.t) w w':=by
 obtain ⟨es,hm,h1,h2⟩:=h.map;have hle:=es_le hm.rises h1;obtain ⟨w',hrun,hm',hg⟩:=hm.store und_places hi v (by have:=vput_len i v es;omega);have ht:TurnP (SFoot b m s x.t) (SFoot b m s x.t) w w':=TurnP.refl_grown hg (.inl rfl);refine ⟨w',hrun,⟨h.blk.stays (ht.far g h.blk.inside h.gfar).2,h.tree.stays fun k hk=>hg.block k (h.tree.raw.inside k hk) fun e=>?_,⟨_,hm',fun j hj=>?_,fun j hj=>?_⟩,h.gfar,h.mfar,fun k hk=>⟨Nat.lt_of_lt_of_le (h.old k hk).1 ht.size,(h.old k hk).2⟩⟩,ht⟩
 ·exact h.mfar (Option.some.inj e ▸ hk)
 ·rw [omap.look_put] at hj;by_cases e:j=i
  ·rw [e];exact hh
  ·rw [if_neg e] at hj;exact h1 j hj
 ·rw [omap.look_put];by_cases e:j=i
  ·subst e;rw [if_pos rfl];exact ⟨v,rfl,by simp only [upd_same];exact hv.turn ht⟩
  ·rw [if_neg e];obtain ⟨v',e',hv'⟩:=h2 j hj;exact ⟨v',e',by simp only [upd_ne _ e];exact hv'.turn ht⟩
structure PSc.like (x y:PSc):Prop where
 ok:Ok y.t
 kids:∀ q,trm.kids x.t q=trm.kids y.t q
 nd:∀ i,has x.t i=true->y.nd i=x.nd i
 ws:∀ i,has x.t i=true->y.ws i=x.ws i
theorem TreeAt.alike {w:World} {b:Nat} {s:Sh} {t u:T} (h:TreeAt w b s u) (ok:Ok t) (al:∀ q,kids u q=kids t q):TreeAt w b s t:=by
 have h1:hasP u=hasP t:=funext fun i=>by show (has u i=true)=(has t i=true);rw [alike_has al]
 have h3:kids u=kids t:=funext al;have h2:upT u=upT t:=funext fun i=>by unfold upT;rw [alike_par h.ok ok al]
 have hr:Raw w b s (hasP u) (upT u) (kids u):=h.raw;rw [h1,h2,h3] at hr;exact ⟨hr,ok⟩
theorem SFoot.alike {b m:Nat} {s:Sh} {t u:T} (al:∀ q,kids u q=kids t q):SFoot b m s u=SFoot b m s t:=by
 have h1:hasP u=hasP t:=funext fun i=>by show (has u i=true)=(has t i=true);rw [alike_has al]
 unfold SFoot FootT;rw [h1]
theorem SceneAt.like (h:SceneAt w g b m s Z x) {y:PSc} (l:x.like y):SceneAt w g b m s Z y:=by
 obtain ⟨es,hm,h1,h2⟩:=h.map;have e:=SFoot.alike (b:=b) (m:=m) (s:=s) l.kids;refine ⟨h.blk,h.tree.alike l.ok l.kids,⟨es,hm,fun i hi=>?_,fun i hi=>?_⟩,by rw [← e];exact h.gfar,fun hk=>h.mfar ?_,fun k hk=>⟨(h.old k hk).1,by rw [← e];exact (h.old k hk).2.1,(h.old k hk).2.2⟩⟩
 ·rw [← alike_has l.kids];exact h1 i hi
 ·rw [← alike_has l.kids] at hi;rw [← e,l.nd i hi,l.ws i hi];exact h2 i hi
 ·have h1:hasP x.t=hasP y.t:=funext fun i=>by show (has x.t i=true)=(has y.t i=true);rw [alike_has l.kids]
  unfold FootT at hk ⊢;rw [h1];exact hk
end
def UndoV (g b m:Nat) (Z:ZZ) (v:Value) (w:World) (S:Bset) (x' x:PSc):Prop:=
 ∃ (K:Bset) (f:Nat) (cs:Array Value),v=.func (.func f) #[] cs∧Enters Tryz.prog f∧(∀ k,K k->k<w.heap.size∧¬ S k) ∧
  ∀ (W:World) (s1:Sh) (E:Bset),(∀ k,K k->W.heap[k]?=w.heap[k]?∧¬ SFoot b m s1 x'.t k∧¬ E k)->SceneAt W g b m s1 ⟨Z.1,Z.2,E⟩ x' ->
   Calls Tryz.prog f cs W fun e W'=>(∃ r,e=.returned r)∧∃ s2,SceneAt W' g b m s2 ⟨Z.1,Z.2,E⟩ x∧TurnP (SFoot b m s1 x'.t) (SFoot b m s2 x.t) W W'
theorem UndoV.turn {g b m:Nat} {Z:ZZ} {v:Value} {w w':World} {S S':Bset} {x' x:PSc} (h:UndoV g b m Z v w S x' x) (ht:TurnP S S' w w'):UndoV g b m Z v w' S' x' x:=by
 obtain ⟨K,f,cs,e,he,hk,hc⟩:=h;refine ⟨K,f,cs,e,he,fun k hK=>⟨Nat.lt_of_lt_of_le (hk k hK).1 ht.size,(ht.far k (hk k hK).1 (hk k hK).2).1⟩,fun W s1 E hW hs=>hc W s1 E (fun k hK=>⟨(hW k hK).1.trans (ht.far k (hk k hK).1 (hk k hK).2).2,(hW k hK).2⟩) hs⟩
def OpQ (g b m:Nat) (Z:ZZ) (s:Sh) (x:PSc) (r:PSc×Int) (w:World) (e:Ending) (w':World):Prop:=
 ∃ fv s',e=.returned (.tuple #[fv,.int .i64 r.2])∧SceneAt w' g b m s' Z r.1∧TurnP (SFoot b m s x.t) (SFoot b m s' r.1.t) w w'∧(r.2=0->UndoV g b m Z fv w' (Sor b m s' r.1.t Z.3) r.1 x)
theorem pick_row {w:World} {o:Op9} {Ao An:Option Addr} {n:Nd} (h1:Row eW w Ao o.lk.l) (h2:Row eW w An n.lk.l):Row eW w (pick7 o Ao An) (setN n o).lk.l:=by
 unfold pick7 setN;by_cases h7:o.k=7
 ·rw [if_pos h7,if_neg (by omega),if_neg (by omega),if_neg (by omega),if_pos h7];exact h1
 ·rw [if_neg h7,if_neg h7];by_cases h4:o.k=4
  ·rw [if_pos h4];exact h2
  rw [if_neg h4];by_cases h5:o.k=5
  ·rw [if_pos h5];exact h2
  rw [if_neg h5];by_cases h6:o.k=6
  ·rw [if_pos h6];exact h2
  rw [if_neg h6];by_cases h8:o.k=8
  ·rw [if_pos h8];exact h2
  rw [if_neg h8];exact h2
theorem pick_fit {o:Op9} {n:Nd} (h1:Fit { n with lk:=o.lk }) (h2:Fit n):Fit (setN n o):=by
 unfold setN;by_cases h4:o.k=4
 ·rw [if_pos h4];exact ⟨h2.p,h2.l,h2.len⟩
 rw [if_neg h4];by_cases h5:o.k=5
 ·rw [if_pos h5];exact ⟨h2.p,h2.l,h2.len⟩
 rw [if_neg h5];by_cases h6:o.k=6
 ·rw [if_pos h6];exact ⟨h2.p,h2.l,h2.len⟩
 rw [if_neg h6];by_cases h7:o.k=7
 ·rw [if_pos h7];exact h1
 rw [if_neg h7];by_cases h8:o.k=8
 ·rw [if_pos h8];exact ⟨h2.p,h2.l,h2.len⟩
 rw [if_neg h8];exact h2
end
end Go.Proofs.YthpifjcddgmjnaaGreat
