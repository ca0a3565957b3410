import Derived.Test.YtekdoeilpheklaaGreatZFlH
set_option maxHeartbeats 16000000
set_option maxRecDepth 100000
open Go.Proofs.Tryz
namespace Go.Proofs.YtekdoeilpheklaaGreat
section
section
open Go.RowKit fK fZ aB Go.Maps
theorem Vw(m:Mp)(w:World):(binOp .eql 41 (.agg m.cs.toArray) (.agg m.cs.toArray)).run prog w=.ok (.bool true) w:=by
 obtain⟨a,b,c,d,e,f⟩:=m;unfold Mp.cs;simp only;go_simp
theorem Iq(m:Mp)(w:World):(binOp .eql 39 (.agg m.cs.toArray) (.agg m.cs.toArray)).run prog w=.ok (.bool true) w:=by
 obtain⟨a,b,c,d,e,f⟩:=m;unfold Mp.cs;simp only;go_simp
theorem U9(m:Bx)(w:World):(binOp .eql 75 (.agg m.uM.toArray) (.agg m.uM.toArray)).run prog w=.ok (.bool true) w:=by
 obtain⟨a,b,c,d⟩:=m;unfold Bx.uM;simp only;go_simp
theorem wU(q:Lk)(A:Option Addr)(c:Nat)(w:World):(Instr.build 109 #[(5,.agg (q.cs A c).toArray)]).run prog w=.ok (.agg (Nd.cs ⟨Mp.o,0,false,false,Bx.o,q⟩ A c).toArray) w:=by kernel_rfl
theorem U8(m:Cl)(w:World):(binOp .neq 122 (.agg m.cs.toArray) (.agg m.cs.toArray)).run prog w=.ok (.bool false) w:=by
 obtain⟨⟨a,b,c,d,e,f⟩,⟨g,h,i,j⟩⟩:=m;unfold Cl.cs;simp only;go_simp
theorem QH(m:Cl)(x y:Operand)(w:World):(eqGuard .neq 122 x y (.agg m.cs.toArray) (.agg m.cs.toArray)).run prog w=.ok () w:=by kernel_rfl
theorem JM{P:Program}{op:Oper}{a:Act}{w:World}{K:Act->World->Prop}{Q:Exit->Act->World->Prop}(k:BinOp)(t rt:TypeId)(x y:Operand)(ho:op.op=.binOp k t x y rt){v1 v2 v:Value}(h1:a.eval x=v1)(h2:a.eval y=v2)(hg:(eqGuard k t x y v1 v2).run P w=.ok () w)(hrun:(binOp k t v1 v2).run P w=.ok v w)
  (h:K (a.put op.dst v) w):op.wp P a w K Q:=by
 subst h1 h2;unfold Oper.wp execOp;simp only[ho,Sem.run_bind,Result.andThen_ok,hg,hrun];exact h
theorem lH{w w':World}{b o:Nat}{cs:List Value}(h:w.rangeAt b o cs)(hb:bz w w'):w'.rangeAt b o cs:=fun i v hv=>(hb.cell (p:=⟨b,o+i,none⟩) (World.block_lt_of_cell? w _ (h i v hv))).trans (h i v hv)
theorem Ey(n:Nd)(A:Option Addr)(c:Nat)(A2:Option Addr)(c2:Nat)(hl:n.lk.l.length<=300)(w:World)(hr:Row eW w A n.lk.l)(hr2:Row eW w A2 n.lk.l):Calls prog 86 #[.agg (n.cs A c).toArray,.agg (n.cs A2 c2).toArray] w fun e w'=>e=.returned (.bool true)∧bz w w':=by
 have HB0:Hid (bz w ((w.alloc (.cells (n.cs A c).toArray 109)).alloc (.cells (n.cs A2 c2).toArray 109))):=(bR.alloc nR _).alloc (by simp) _;have gY:Hid (ax ((w.alloc (.cells (n.cs A c).toArray 109)).alloc (.cells (n.cs A2 c2).toArray 109)) w.heap.size (n.cs A c)):=(ay w (n.cs A c) _).alloc _;have bP:Hid (ax ((w.alloc (.cells (n.cs A c).toArray 109)).alloc (.cells (n.cs A2 c2).toArray 109)) (w.heap.size+1) (n.cs A2 c2)):=aN (w.alloc _) _ (by simp) (n.cs A2 c2) _
 have HE:Hid (∀W,bz w W->Calls prog 117 #[.agg (n.lk.cs A c).toArray,.agg (n.lk.cs A2 c2).toArray] W fun e w'=>e=.returned (.bool true)∧bz W w'):=fun W hb=>by
  have h:=IC n.lk.k n.lk.W n.lk.H n.lk.p n.lk.iw n.lk.ih A n.lk.l c n.lk.k n.lk.W n.lk.H n.lk.p n.lk.iw n.lk.ih A2 n.lk.l c2 (by unfold maxLen;omega) (by unfold maxLen;omega) W (Row.below hr hb) (Row.below hr2 hb);have h3:=Vy n;unfold eqN a1a at h3;simp only[Bool.and_eq_true] at h3;rw[h3.2.2.2.2.2] at h;exact h
 clear hl hr hr2;go_enter func86,ntmps86
 go_upto_region 1 with (fail)
 generalize ((w.alloc (.cells (n.cs A c).toArray 109)).alloc (.cells (n.cs A2 c2).toArray 109))=w0 at *;have i1:=gY.o.inside;have i2:=bP.o.inside;have q1:=fun w=>Iq n.m w;have q2:=fun w=>U9 n.r w;have q3:(n.hi==n.hi)=true:=by cases n.hi<;>rfl
 have q4:(n.cl==n.cl)=true:=by cases n.cl<;>rfl
 have c6:=gY.o.c 6 rfl;have c7:=gY.o.c 7 rfl;have c8:=gY.o.c 8 rfl;have d6:w0.cell? ⟨w.heap.size+1,6,none⟩=some (.int .i64 n.op):=bP.o.cell 6;have d7:w0.cell? ⟨w.heap.size+1,7,none⟩=some (.bool n.hi):=bP.o.cell 7;have d8:w0.cell? ⟨w.heap.size+1,8,none⟩=some (.bool n.cl):=bP.o.cell 8
 go_wp2_with (first|(with_reducible refine gL ?_;first|(refine wt 39 0 rfl rfl rfl gY.o (n.m.cs) rfl underlying39 rfl ?_)|(refine wt 39 0 rfl rfl rfl bP.o (n.m.cs) rfl underlying39 rfl ?_)|(refine wt 75 9 rfl rfl rfl gY.o (n.r.uM) rfl underlying75 rfl ?_)|(refine wt 75 9 rfl rfl rfl bP.o (n.r.uM) rfl underlying75 rfl ?_)|(refine wt 49 13 rfl rfl rfl gY.o (n.lk.cs A c) rfl underlying49 rfl ?_)|(refine wt 49 13 rfl rfl rfl bP.o (n.lk.cs A2 c2) rfl underlying49 rfl ?_)));refine(HE.o w0 HB0.o).mono ?_;rintro e w1 ⟨rfl,hb⟩
 have HB1:=Hd (HB0.o.trans (hb.mono HB0.o.size));clear hb HE;go_wp2_with (fail);go_ret;exact⟨rfl,HB1.o⟩
theorem EN(q:Lk)(A:Option Addr)(c:Nat)(A2:Option Addr)(c2:Nat)(hl:q.l.length<=300)(w:World)(hr:Row eW w A q.l)(hr2:Row eW w A2 q.l):Calls prog 56 #[.agg (q.cs A c).toArray,.agg (q.cs A2 c2).toArray] w fun e w'=>e=.returned (.bool true)∧bz w w':=by
 have HB0:Hid (bz w ((w.alloc (.cells (q.cs A c).toArray 49)).alloc (.cells (q.cs A2 c2).toArray 49))):=(bR.alloc nR _).alloc (by simp) _;have gY:Hid (ax ((w.alloc (.cells (q.cs A c).toArray 49)).alloc (.cells (q.cs A2 c2).toArray 49)) w.heap.size (q.cs A c)):=(ay w (q.cs A c) _).alloc _;have bP:Hid (ax ((w.alloc (.cells (q.cs A c).toArray 49)).alloc (.cells (q.cs A2 c2).toArray 49)) (w.heap.size+1) (q.cs A2 c2)):=aN (w.alloc _) _ (by simp) (q.cs A2 c2) _
 have HE:Hid (Calls prog 86 #[.agg (Nd.cs ⟨Mp.o,0,false,false,Bx.o,q⟩ A c).toArray,.agg (Nd.cs ⟨Mp.o,0,false,false,Bx.o,q⟩ A2 c2).toArray] ((w.alloc (.cells (q.cs A c).toArray 49)).alloc (.cells (q.cs A2 c2).toArray 49)) fun e w'=>e=.returned (.bool true)∧Below ((w.alloc (.cells (q.cs A c).toArray 49)).alloc (.cells (q.cs A2 c2).toArray 49)).heap.size ((w.alloc (.cells (q.cs A c).toArray 49)).alloc (.cells (q.cs A2 c2).toArray 49)) w'):=by
  exact Ey ⟨Mp.o,0,false,false,Bx.o,q⟩ A c A2 c2 hl ((w.alloc (.cells (q.cs A c).toArray 49)).alloc (.cells (q.cs A2 c2).toArray 49)) (Row.below hr HB0.o) (Row.below hr2 HB0.o)
 clear hl hr hr2;go_enter func56,ntmps56
 go_upto_region 1 with (fail)
 generalize ((w.alloc (.cells (q.cs A c).toArray 49)).alloc (.cells (q.cs A2 c2).toArray 49))=w0 at *;have i1:=gY.o.inside;have i2:=bP.o.inside
 go_wp2_with (first|(with_reducible refine gL ?_;first|(refine wt 49 0 rfl rfl rfl gY.o (q.cs A c) rfl underlying49 rfl ?_)|(refine wt 49 0 rfl rfl rfl bP.o (q.cs A2 c2) rfl underlying49 rfl ?_))|((with_reducible show wpList _ _ _ (Oper.mk (some 6) (Op.build _ _) _ _ _ _::_) _ _);refine bZ _ _ rfl rfl (by simp[go_sem]) (wU q A c _) ?_)|((with_reducible show wpList _ _ _ (Oper.mk (some 8) (Op.build _ _) _ _ _ _::_) _ _);refine bZ _ _ rfl rfl (by simp[go_sem]) (wU q A2 c2 _) ?_));refine HE.o.mono ?_;rintro e w1 ⟨rfl,hb⟩
 have HB1:=Hd (HB0.o.trans (hb.mono HB0.o.size));clear hb HE;go_wp2_with (fail);go_ret;exact⟨rfl,HB1.o⟩
theorem EP(l:List Cl)(A:Option Addr)(c:Nat)(A2:Option Addr)(c2:Nat)(hn:l.length<=2000)(w:World)(hr:aS 10 Cl.cs w A l)(hr2:aS 10 Cl.cs w A2 l):Calls prog 55 #[.slice A l.length c,.slice A2 l.length c2] w fun e w'=>e=.returned (.bool true)∧bz w w':=by
 have HR:=Hd (And.intro hr hr2);have hlb:(l.length:Int)<=2000:=by omega
 have t0:decide (l.length=l.length)=true:=by simp
 clear hr hr2 hn;go_enter func55,ntmps55
 go_upto_region 4 with (fail)
 go_loopw [13] (fun i wr=>∃j:Nat,j<=l.length∧i=.int .i64 j∧bz w wr) (fun i _=>l.length - (intOf i).toNat)
 case atStart=>exact⟨0,Nat.zero_le _,rfl,bR⟩
 case round=>
  obtain⟨j,hj,rfl,hw⟩:=hrel;generalize wr=wA at *;have mF:Hid (bz w wA):=hw;clear hw;by_cases hlt:j<l.length
  ·have t4:decide (j<l.length)=true:=by simpa using hlt
   have eU:=Hd hlt
   obtain⟨b1,o1,rfl,hc1⟩:=(aS.below HR.o.1 mF.o) (by omega)
   obtain⟨b2,o2,rfl,hc2⟩:=(aS.below HR.o.2 mF.o) (by omega)
   obtain⟨u,hu⟩:∃u,u=l[j]'hlt:=⟨_,rfl⟩
   have HR1:Hid (wA.rangeAt b1 (o1+j*10) u.cs):=fun i v hv=>hc1 j hlt i v (by (try show Below _ _ _);rw[← hu];exact hv);have HR2:Hid (wA.rangeAt b2 (o2+j*10) u.cs):=fun i v hv=>hc2 j hlt i v (by (try show Below _ _ _);rw[← hu];exact hv);have hcl:=fun w=>U8 u w;clear hc1 hc2 hu hlt hj;have Ju:=Hd hcl;have HT4:=Hd t4;clear hcl
   go_upto_region 6 with (fail)
   refine Gs [16,17,18,19,20,21,22,23,24] (fun i=>match i with
    |0=>rV (.slice (some ⟨b1,o1,none⟩) l.length c)
    |1|5=>rV (.int .i64 j)
    |2=>rV (.pointer (some ⟨b1,(o1+j*10),none⟩))
    |3|7=>rV (.agg (u.cs).toArray)
    |4=>rV (.slice (some ⟨b2,o2,none⟩) l.length c2)
    |6=>rV (.pointer (some ⟨b2,(o2+j*10),none⟩))
    |8=>rV (.bool false)
    | _=>ra) ⟨?_,?_,?_,?_,?_,?_,?_,?_,?_,trivial⟩ ?_
   any_goals (first|refine zp fun L a w1 hh=>?_|fail)
   have h0:=hh.o 0 (v:=.slice (some ⟨b1,o1,none⟩) l.length c) rfl;rotate_left;have h5:=hh.o 5 (v:=.int .i64 j) rfl;rotate_left;have h16:=rq (hh.d 0 16);have h17:=rq (hh.d 1 17);have hlt:=eU.o;rotate_left
   ·have h18:=rq (hh.d 2 18)
    have wJ:=(lH HR1.o hh.rel)
    have hJ:=Hd hh.st;exact wp_load_mid 122 _ rfl b1 (o1+j*10) (by simpa[go_sem] using h18) u.cs _ wJ underlying122 rfl (by kernel_rfl) ⟨_,rfl,rB,rfl,hJ.o⟩
   have h1:=hh.o 1 (v:=.slice (some ⟨b2,o2,none⟩) l.length c2) rfl;rotate_left;have h5:=hh.o 5 (v:=.int .i64 j) rfl;rotate_left;have h20:=rq (hh.d 4 20);have h21:=rq (hh.d 5 21);have hlt:=eU.o;rotate_left
   ·have h22:=rq (hh.d 6 22)
    have wJ:=(lH HR2.o hh.rel)
    have hJ:=Hd hh.st;exact wp_load_mid 122 _ rfl b2 (o2+j*10) (by simpa[go_sem] using h22) u.cs _ wJ underlying122 rfl (by kernel_rfl) ⟨_,rfl,rB,rfl,hJ.o⟩
   ·have h19:=rq (hh.d 3 19);have h23:=rq (hh.d 7 23);have hJ:=Hd hh.st;exact JM _ _ _ _ _ rfl (by simpa[go_sem] using h19) (by simpa[go_sem] using h23) (QH u _ _ w1) (Ju.o w1) ⟨_,rfl,rB,rfl,hJ.o⟩
   any_goals (clear hh;go_simp;exact⟨_,rfl,rB,rfl,trivial⟩)
   intro L w4 val hL hJ hR hv;have vg:val 24=.bool false:=hv 8 24 (by kernel_rfl);have HR4:=Hd hR;clear hv hL hJ hR;simp only[regs.aA,List.map_cons,List.map_nil,vg];simp only[Act.put,List.setIfInBounds_toArray,List.set_cons_zero,List.set_cons_succ];clear vg
   skip
   have HB4:=Hd (mF.o.trans (Below.mono HR4.o mF.o.size));have hlt:=eU.o;clear HR4 HR1 HR2 Ju mF;go_wp2_with (fail)
   go_roundw
   case rel=>exact⟨j+1,eU.o,by go_num,HB4.o⟩
   case measure=>have:=eU.o;simp[intOf];omega
  ·obtain rfl:j=l.length:=by omega
   have t4:decide (l.length<l.length)=false:=by simp
   clear hlt;go_wp2_with (fail);go_ret;exact⟨rfl,mF.o⟩
theorem Ir(I:It)(Ac:Option Addr)(cc:Nat)(A:Option Addr)(c:Nat)(D6:Option Addr)(Ci:Nat)(A2:Option Addr)(c2:Nat)(hc:I.c.length<=2000)(hl:I.lk.l.length<=300)(w:World)(hq:ou w ⟨I,Ac,cc,A,c⟩)(hq2:ou w ⟨I,D6,Ci,A2,c2⟩):Calls prog 21 #[.agg (gQ.cs ⟨I,Ac,cc,A,c⟩).toArray,.agg (gQ.cs ⟨I,D6,Ci,A2,c2⟩).toArray] w fun e w'=>e=.returned (.bool true)∧bz w w':=by
 obtain⟨q,hqq⟩:∃q:gQ,q=⟨I,Ac,cc,A,c⟩:=⟨_,rfl⟩
 obtain⟨q2,a2Q⟩:∃q:gQ,q=⟨I,D6,Ci,A2,c2⟩:=⟨_,rfl⟩
 have HB0:Hid (bz w ((w.alloc (.cells q.cs.toArray 51)).alloc (.cells q2.cs.toArray 51))):=(bR.alloc nR _).alloc (by simp) _;have gY:Hid (ax ((w.alloc (.cells q.cs.toArray 51)).alloc (.cells q2.cs.toArray 51)) w.heap.size q.cs):=(ay w q.cs _).alloc _;have bP:Hid (ax ((w.alloc (.cells q.cs.toArray 51)).alloc (.cells q2.cs.toArray 51)) (w.heap.size+1) q2.cs):=aN (w.alloc _) _ (by simp) q2.cs _
 have HE:Hid (∀W,bz w W->_):=(fun W hb=>EN I.lk A c A2 c2 hl W (Row.below hq.px hb) (Row.below hq2.px hb))
 have HC:Hid (∀W,bz w W->_):=(fun W hb=>EP I.c Ac cc D6 Ci hc W (aS.below hq.ru hb) (aS.below hq2.ru hb))
 rw[← hqq,← a2Q];go_enter func21,ntmps21
 go_upto_region 1 with (fail)
 subst hqq a2Q;clear hc hl hq hq2;generalize ((w.alloc (.cells (gQ.cs ⟨I,Ac,cc,A,c⟩).toArray 51)).alloc (.cells (gQ.cs ⟨I,D6,Ci,A2,c2⟩).toArray 51))=w0 at *;have i1:=gY.o.inside;have i2:=bP.o.inside;have q1:=fun w=>Iq I.w w;have q2:=fun w=>Vw I.b w;have c0:=gY.o.c 0 rfl;have c13:=gY.o.c 13 rfl;have c14:=gY.o.c 14 rfl;have d0:w0.cell? ⟨w.heap.size+1,0,none⟩=some (.int .i64 I.i):=bP.o.cell 0;have d13:w0.cell? ⟨w.heap.size+1,13,none⟩=some (.slice D6 I.c.length Ci):=bP.o.cell 13
 have d14:w0.cell? ⟨w.heap.size+1,14,none⟩=some (.int .i64 (I.o:Nat)):=bP.o.cell 14;go_wp2_with (first|(with_reducible refine gL ?_;first|(refine wt 39 1 rfl rfl rfl gY.o (I.w.cs) rfl underlying39 rfl ?_)|(refine wt 39 1 rfl rfl rfl bP.o (I.w.cs) rfl underlying39 rfl ?_)|(refine wt 41 7 rfl rfl rfl gY.o (I.b.cs) rfl underlying41 rfl ?_)|(refine wt 41 7 rfl rfl rfl bP.o (I.b.cs) rfl underlying41 rfl ?_)));refine(HC.o _ HB0.o).mono ?_;rintro e w1 ⟨rfl,hb⟩;have HB1:=Hd (HB0.o.trans (hb.mono HB0.o.size));have dh:=Hd (gY.o.below' hb)
 have lX:=Hd (bP.o.below' hb);clear hb HC c0 c13 c14 d0 d13 d14 i1 i2 gY bP;have i1:=dh.o.inside;have i2:=lX.o.inside;go_wp2_with (first|(with_reducible refine gL ?_;first|(refine wt 49 15 rfl rfl rfl dh.o (I.lk.cs A c) rfl underlying49 rfl ?_)|(refine wt 49 15 rfl rfl rfl lX.o (I.lk.cs A2 c2) rfl underlying49 rfl ?_)));refine(HE.o w1 HB1.o).mono ?_;rintro e w2 ⟨rfl,hb⟩;have HB2:=Hd (HB1.o.trans (hb.mono HB1.o.size));clear hb HE;go_wp2_with (fail);go_ret;exact⟨rfl,HB2.o⟩
end
section
open Go.RowKit fK fZ aB Go.Maps
theorem Q4(w:World):(Instr.build 77 #[(0,.int .i64 1),(1,.int .i64 1)]).run prog w=.ok (.agg (SB.cs none 0).toArray) w:=by kernel_rfl
theorem Q3(w:World):(Instr.build 77 #[(0,.int .i64 4),(1,.int .i64 1),(4,.agg #[.int .i64 65536,.int .i64 0,.int .i64 0,.int .i64 65536,.int .i64 65536,.int .i64 0])]).run prog w=.ok (.agg (Du.cs none 0).toArray) w:=by kernel_rfl
theorem QZ(w:World):(Instr.build 77 #[(0,.int .i64 7),(1,.int .i64 1),(8,.agg #[.int .i64 1,.int .i64 2,.int .i64 1,.int .u32 255,.int .i64 0,.int .i64 0,.slice none 0 0])]).run prog w=.ok (.agg (Lj.cs none 0).toArray) w:=by kernel_rfl
theorem QY(w:World):(Instr.build 77 #[(0,.int .i64 6),(7,.int .i64 128)]).run prog w=.ok (.agg (QC.cs none 0).toArray) w:=by kernel_rfl
theorem a1s(a b c d:dJ)(w:World):(Instr.buildSlice a4P 4 #[(0,.agg (a.cs none 0).toArray),(1,.agg (b.cs none 0).toArray),(2,.agg (c.cs none 0).toArray),(3,.agg (d.cs none 0).toArray)]).run prog w=.ok (.slice (some ⟨w.heap.size,0,none⟩) 4 4) (w.alloc (.cells ([oN a,oN b,oN c,oN d].flatMap iO.cs).toArray 77)):=by kernel_rfl
def flZ:ZZ:=⟨4,⟨3,9⟩,fun _=>False⟩
theorem a2z{Z:ZZ}(hZ:Z.2.2=9){x:aJ}{n:Nat}(h:x.t.length<=10)(hn:n<=1024):n<=1024->Room Z.2.2 x n:=fun _=>⟨hn,.inr ⟨by omega,by rw[hZ];decide⟩⟩
theorem U3:∀q∈[oN SB,oN Du,oN Lj,oN QC],lV q.o∧q.o.lk.l=[]:=by
 intro q hq;simp only[List.mem_cons,List.not_mem_nil,or_false] at hq;rcases hq with rfl|rfl|rfl|rfl<;>exact a0k (by simp[U7,oN])
structure MF(w:World)(lb lo:Nat)(q:gQ):Prop where
 row:w.rangeAt lb lo q.cs
 at_:ou w q
theorem MF.below{w w':World}{lb lo:Nat}{q:gQ}(h:MF w lb lo q)(hb:bz w w'):MF w' lb lo q:=⟨fun i v hv=>(hb.cell (p:=⟨lb,lo+i,none⟩) (World.block_lt_of_cell? w _ (h.row i v hv))).trans (h.row i v hv),h.at_.below hb⟩
theorem MF.inside{w:World}{lb lo:Nat}{q:gQ}(h:MF w lb lo q):lb<w.heap.size:=World.block_lt_of_cell? w ⟨lb,_,none⟩ (h.row 0 (.int .i64 q.it.i) rfl)
theorem Aq(w:World):Calls prog 6 #[] w fun e w'=>e=.returned (.bool true)∧bz w w':=by
 go_enter func6,ntmps6;go_wp2_with (fail);refine(Uf (w:=w) flZ (fun _ e=>e.elim) ⟨by decide,by decide⟩ ⟨by decide,by decide⟩ ⟨by decide,by decide⟩).mono ?_;rintro e w1 ⟨g,b,m,s,rfl,hs1,hb1,hf1,hg1⟩
 have Gh:Hid (WM w g b m s flZ aJ.new w1):=⟨hs1,hf1,hb1⟩
 clear hs1 hb1 hf1 hg1;go_wp2_with (first|((with_reducible show wpList _ _ _ (Oper.mk (some 15) (Op.build _ _) _ _ _ _::_) _ _);refine bZ _ _ rfl rfl (by simp[go_sem]) (Q4 _) ?_));refine(Ui 65536 0 w1).mono ?_;rintro e w2 ⟨rfl,hb2⟩;unfold Mp.v;have Na:=Hd (Gh.o.below hb2);clear hb2 Gh;go_wp2_with (first|((with_reducible show wpList _ _ _ (Oper.mk (some 17) (Op.build _ _) _ _ _ _::_) _ _);refine bZ _ _ rfl rfl (by simp[go_sem]) (Q3 _) ?_));refine(Ll 2 1 255 w2).mono ?_;rintro e w3 ⟨rfl,hb3⟩;unfold BX;have gV:=Hd (Na.o.below hb3)
 clear hb3 Na;go_wp2_with (first|((with_reducible show wpList _ _ _ (Oper.mk (some 19) (Op.build _ _) _ _ _ _::_) _ _);refine bZ _ _ rfl rfl (by simp[go_sem]) (QZ _) ?_)|((with_reducible show wpList _ _ _ (Oper.mk (some 20) (Op.build _ _) _ _ _ _::_) _ _);refine bZ _ _ rfl rfl (by simp[go_sem]) (QY _) ?_)|((with_reducible refine gB ?_);refine jQ _ _ _ rfl rfl (by simp[go_sem]) (a1s SB Du Lj QC _) ?_));have F9:=Hd (PW (w:=w3) (S:=af b m s aJ.new.t) gV.o.at_.inside [oN SB,oN Du,oN Lj,oN QC] (fun q hq=>(U3 q hq).2))
 rw[show[oN SB,oN Du,oN Lj,oN QC].flatMap iO.cs=(oN SB).cs++((oN Du).cs++((oN Lj).cs++(oN QC).cs)) from by simp] at F9;have gz:Hid (Below w3.heap.size w3 (w3.alloc (.cells ((oN SB).cs++((oN Du).cs++((oN Lj).cs++(oN QC).cs))).toArray 77))):=bR.alloc nR _;generalize (w3.alloc (.cells ((oN SB).cs++((oN Du).cs++((oN Lj).cs++(oN QC).cs))).toArray 77))=w5 at *;have rE:=Hd (gV.o.below gz.o);generalize w3.heap.size=k5 at *
 have HAP:=Hd (applied rE.o.at_ aJ.zO [oN SB,oN Du,oN Lj,oN QC] (some ⟨k5,0,none⟩) 4 F9.o (fun q hq=>(U3 q hq).1) (a2z rfl (by decide) (by simp)) (by simp));rw[show bU flZ.2.2 setSt aJ.new ([oN SB,oN Du,oN Lj,oN QC].map (·.o))=(XQ,4,0) from uG] at HAP;unfold BD at HAP;refine HAP.o.mono ?_;rintro e w6 ⟨s6,rfl,hs6,Ie⟩;have DW:=Hd (rE.o.turn hs6 Ie);clear hs6 Ie HAP rE F9 gz gV;go_wp2_with (fail);refine(H7 DW.o.at_ Iw (by rw[Oc];decide)).mono ?_;unfold OM;rintro e w7 ⟨A,c,l,rfl,hrow,hqs,hmap,-,hb7⟩
 rw[U4] at hmap
 obtain⟨q,rfl,hq⟩:∃q,l=[q]∧q.it=YL:=by
  match l,hmap with
  | [],h=>simp at h
  | [q],h=>exact⟨q,rfl,by simpa using h⟩
  | _::_::_,h=>simp at h
 obtain⟨lb,lo,rfl,hc⟩:=hrow (by simp)
 have sZ:Hid (MF w7 lb lo q):=⟨fun i v hv=>by have:=hc 0 (by simp) i v hv;simpa using this,(hqs q List.mem_cons_self).1⟩
 have sU:Hid (bz w w7):=DW.o.bel.trans (hb7.mono DW.o.bel.size);have HQK:Hid (q.it.Ok):=by rw[hq];exact a09
 have HQ:=Hd hq;have d0:w7.cell? ⟨lb,lo,none⟩=some (.int .i64 1):=by have h:=sZ.o.row 0 (.int .i64 q.it.i) rfl;rw[hq] at h;exact h
 have d14:w7.cell? ⟨lb,lo+14,none⟩=some (.int .i64 128):=by have h:=sZ.o.row 14 (.int .i64 (q.it.o:Nat)) rfl;rw[hq] at h;exact h
 have di:=sZ.o.inside;clear hrow hqs hmap hb7 hq hc DW;simp only[List.length_cons,List.length_nil,Nat.zero_add];have FO:Hid (∀W,bz w7 W->MF W lb lo q):=fun W hb=>sZ.o.below hb
 have FD:Hid (∀W,bz w7 W->W.cell? ⟨lb,lo,none⟩=some (.int .i64 1)∧W.cell? ⟨lb,lo+14,none⟩=some (.int .i64 128)∧lb<W.heap.size):=fun W hb=>⟨(hb.cell (p:=⟨lb,lo,none⟩) di).trans d0,(hb.cell (p:=⟨lb,lo+14,none⟩) di).trans d14,(FO.o W hb).inside⟩
 have a6l:Hid (∀W,bz w7 W->Calls prog 15 #[.agg q.cs.toArray,.int .i64 1,.int .i64 0] W fun e w'=>e=.returned (.bool true)∧bz W w'):=fun W hb=>by
  have h:=qG q 1 0 W (FO.o W hb).at_ HQK.o (by decide) (by decide);rw[show q.it.covers 1 0=true from by rw[HQ.o];exact qK.1] at h;exact h
 have a6j:Hid (∀W,bz w7 W->Calls prog 15 #[.agg q.cs.toArray,.int .i64 2,.int .i64 0] W fun e w'=>e=.returned (.bool true)∧bz W w'):=fun W hb=>by
  have h:=qG q 2 0 W (FO.o W hb).at_ HQK.o (by decide) (by decide);rw[show q.it.covers 2 0=true from by rw[HQ.o];exact qK.2.1] at h;exact h
 have a6m:Hid (∀W,bz w7 W->Calls prog 15 #[.agg q.cs.toArray,.int .i64 0,.int .i64 0] W fun e w'=>e=.returned (.bool false)∧bz W w'):=fun W hb=>by
  have h:=qG q 0 0 W (FO.o W hb).at_ HQK.o (by decide) (by decide);rw[show q.it.covers 0 0=false from by rw[HQ.o];exact qK.2.2.1] at h;exact h
 have a6k:Hid (∀W,bz w7 W->Calls prog 15 #[.agg q.cs.toArray,.int .i64 1,.int .i64 1] W fun e w'=>e=.returned (.bool false)∧bz W w'):=fun W hb=>by
  have h:=qG q 1 1 W (FO.o W hb).at_ HQK.o (by decide) (by decide);rw[show q.it.covers 1 1=false from by rw[HQ.o];exact qK.2.2.2.1] at h;exact h
 have a6o:Hid (∀W,bz w7 W->Calls prog 13 #[.agg q.cs.toArray,.int .i64 2,.int .i64 0] W fun e w'=>e=.returned (.int .u32 128)∧bz W w'):=fun W hb=>by
  have h:=Ia q 2 0 W (FO.o W hb).at_ HQK.o (by decide) (by decide);rw[show q.it.at_ 2 0=128 from by rw[HQ.o];exact qK.2.2.2.2.1] at h;exact h
 have a6n:Hid (∀W,bz w7 W->Calls prog 13 #[.agg q.cs.toArray,.int .i64 3,.int .i64 0] W fun e w'=>e=.returned (.int .u32 0)∧bz W w'):=fun W hb=>by
  have h:=Ia q 3 0 W (FO.o W hb).at_ HQK.o (by decide) (by decide);rw[show q.it.at_ 3 0=0 from by rw[HQ.o];exact qK.2.2.2.2.2] at h;exact h
 have FE:Hid (∀W,bz w7 W->Calls prog 21 #[.agg q.cs.toArray,.agg q.cs.toArray] W fun e w'=>e=.returned (.bool true)∧bz W w'):=fun W hb=>Ir q.it q.Ac q.cc q.A q.c q.Ac q.cc q.A q.c (by rw[HQ.o];decide) (by rw[HQ.o];decide) W (FO.o W hb).at_ (FO.o W hb).at_;have FT:Hid (∀W,Calls prog 11 #[.int .i64 1,.int .i64 0] W fun e w'=>e=.returned (.agg #[.int .i64 98304,.int .i64 32768])∧bz W w'):=fun W=>sH 1 0 W (by constructor<;>decide) (by constructor<;>decide);clear d0 d14 di sZ HQK HQ
 go_upto_region 6 with (fail)
 simp only[List.append]
 refine Gs [25,26,27,28,29,30,31,32,33,34,35,36,37,38,39,40,41,42,43,44,45,46,47,48,49,50,51,52,53,54,55,56,57,58,59,60,61,62,63,64,65,66,67,68,69,70,71,72,73,74,75,76,77,78,79,80,81,82,83,84,85,86,87,88,89,90,91,92,93,94,95,0] (fun i=>match i with
  |0|4|11|18|24|30|37|44|51|58|61=>rV (.slice (some ⟨lb,lo,none⟩) 1 c)
  |1|7=>rV (.int .i64 1)
  |2|3|8|9|10|15|16|17|21|22|23|27|28|29|34|35|36|41|42|43|48|49|50|55|56|57|64|65|66|69|70|71=>rT
  |5|6|12|19|25|31|38|45|52|59|62=>rV (.pointer (some ⟨lb,lo,none⟩))
  |13=>rV (.pointer (some ⟨lb,(lo+14),none⟩))
  |14=>rV (.int .i64 128)
  |20|26|32|39|46|53|60|63=>rV (.agg (q.cs).toArray)
  |33|40=>rV (.bool false)
  |47=>rV (.int .u32 128)
  |54=>rV (.int .u32 0)
  |67|68=>rV (.agg ([.int .i64 98304,.int .i64 32768]).toArray)
  | _=>ra) ⟨?_,?_,?_,?_,?_,?_,?_,?_,?_,?_,?_,?_,?_,?_,?_,?_,?_,?_,?_,?_,?_,?_,?_,?_,?_,?_,?_,?_,?_,?_,?_,?_,?_,?_,?_,?_,?_,?_,?_,?_,?_,?_,?_,?_,?_,?_,?_,?_,?_,?_,?_,?_,?_,?_,?_,?_,?_,?_,?_,?_,?_,?_,?_,?_,?_,?_,?_,?_,?_,?_,?_,?_,trivial⟩ ?_
 any_goals (first|refine zp fun L a w1 hh=>?_|fail)
 any_goals (first|refine sy rfl rfl fun L a w1 hh=>?_|fail)
 have h3:=hh.o 3 (v:=.slice (some ⟨lb,lo,none⟩) 1 c) rfl;rotate_left;have yL:=rq (hh.d 0 25);rotate_left;have EJ:=rq (hh.d 1 26);rotate_left;have h27:=rq (hh.d 2 27);rotate_left;have h3:=hh.o 3 (v:=.slice (some ⟨lb,lo,none⟩) 1 c) rfl;rotate_left;have Ag:=rq (hh.d 4 29);have li:=(FD.o _ hh.rel).2.2;rotate_left;have h30:=rq (hh.d 5 30);have li:=(FD.o _ hh.rel).2.2;rotate_left
 ·have h31:=rq (hh.d 6 31);obtain⟨c0,-,li⟩:=FD.o _ hh.rel;clear hh;go_simp;exact⟨_,rfl,rB,rfl,trivial⟩
 have h32:=rq (hh.d 7 32);rotate_left;have h28:=rq (hh.d 3 28);have Qw:=rq (hh.d 8 33);rotate_left;have UY:=rq (hh.d 9 34);rotate_left;have h3:=hh.o 3 (v:=.slice (some ⟨lb,lo,none⟩) 1 c) rfl;rotate_left;have UX:=rq (hh.d 11 36);have li:=(FD.o _ hh.rel).2.2;rotate_left;have h37:=rq (hh.d 12 37);have li:=(FD.o _ hh.rel).2.2;rotate_left
 ·have h38:=rq (hh.d 13 38);obtain⟨-,c0,li⟩:=FD.o _ hh.rel;clear hh;go_simp;exact⟨_,rfl,rB,rfl,trivial⟩
 have Qv:=rq (hh.d 14 39);rotate_left;have h35:=rq (hh.d 10 35);have SA:=rq (hh.d 15 40);rotate_left;have Sz:=rq (hh.d 16 41);rotate_left;have h3:=hh.o 3 (v:=.slice (some ⟨lb,lo,none⟩) 1 c) rfl;rotate_left;have h43:=rq (hh.d 18 43);have li:=(FD.o _ hh.rel).2.2;rotate_left
 ·have La:=rq (hh.d 19 44);have wJ:=(FO.o _ hh.rel).row;have hJ:=Hd hh.st;exact wp_load_mid 51 _ rfl lb lo (by simpa[go_sem] using La) q.cs _ wJ underlying51 rfl (by kernel_rfl) ⟨_,rfl,rB,rfl,hJ.o⟩
 ·have h45:=rq (hh.d 20 45);have hC:=Hd (a6l.o _ hh.rel);have hJ:=hh.j;clear hh;go_simp;refine hC.o.mono ?_;rintro e w9 ⟨rfl,aU⟩;exact⟨_,rfl,aU,rfl,hJ.o⟩
 have h42:=rq (hh.d 17 42);have h46:=rq (hh.d 21 46);rotate_left;have h47:=rq (hh.d 22 47);rotate_left;have h3:=hh.o 3 (v:=.slice (some ⟨lb,lo,none⟩) 1 c) rfl;rotate_left;have h49:=rq (hh.d 24 49);have li:=(FD.o _ hh.rel).2.2;rotate_left
 ·have h50:=rq (hh.d 25 50);have wJ:=(FO.o _ hh.rel).row;have hJ:=Hd hh.st;exact wp_load_mid 51 _ rfl lb lo (by simpa[go_sem] using h50) q.cs _ wJ underlying51 rfl (by kernel_rfl) ⟨_,rfl,rB,rfl,hJ.o⟩
 ·have h51:=rq (hh.d 26 51);have hC:=Hd (a6j.o _ hh.rel);have hJ:=hh.j;clear hh;go_simp;refine hC.o.mono ?_;rintro e w9 ⟨rfl,aU⟩;exact⟨_,rfl,aU,rfl,hJ.o⟩
 have h48:=rq (hh.d 23 48);have h52:=rq (hh.d 27 52);rotate_left;have h53:=rq (hh.d 28 53);rotate_left;have h3:=hh.o 3 (v:=.slice (some ⟨lb,lo,none⟩) 1 c) rfl;rotate_left;have h55:=rq (hh.d 30 55);have li:=(FD.o _ hh.rel).2.2;rotate_left
 ·have h56:=rq (hh.d 31 56);have wJ:=(FO.o _ hh.rel).row;have hJ:=Hd hh.st;exact wp_load_mid 51 _ rfl lb lo (by simpa[go_sem] using h56) q.cs _ wJ underlying51 rfl (by kernel_rfl) ⟨_,rfl,rB,rfl,hJ.o⟩
 ·have h57:=rq (hh.d 32 57);have hC:=Hd (a6m.o _ hh.rel);have hJ:=hh.j;clear hh;go_simp;refine hC.o.mono ?_;rintro e w9 ⟨rfl,aU⟩;exact⟨_,rfl,aU,rfl,hJ.o⟩
 have h58:=rq (hh.d 33 58);rotate_left;have h54:=rq (hh.d 29 54);have h59:=rq (hh.d 34 59);rotate_left;have h60:=rq (hh.d 35 60);rotate_left;have h3:=hh.o 3 (v:=.slice (some ⟨lb,lo,none⟩) 1 c) rfl;rotate_left;have h62:=rq (hh.d 37 62);have li:=(FD.o _ hh.rel).2.2;rotate_left
 ·have h63:=rq (hh.d 38 63);have wJ:=(FO.o _ hh.rel).row;have hJ:=Hd hh.st;exact wp_load_mid 51 _ rfl lb lo (by simpa[go_sem] using h63) q.cs _ wJ underlying51 rfl (by kernel_rfl) ⟨_,rfl,rB,rfl,hJ.o⟩
 ·have h64:=rq (hh.d 39 64);have hC:=Hd (a6k.o _ hh.rel);have hJ:=hh.j;clear hh;go_simp;refine hC.o.mono ?_;rintro e w9 ⟨rfl,aU⟩;exact⟨_,rfl,aU,rfl,hJ.o⟩
 have h65:=rq (hh.d 40 65);rotate_left;have h61:=rq (hh.d 36 61);have h66:=rq (hh.d 41 66);rotate_left;have h67:=rq (hh.d 42 67);rotate_left;have h3:=hh.o 3 (v:=.slice (some ⟨lb,lo,none⟩) 1 c) rfl;rotate_left;have h69:=rq (hh.d 44 69);have li:=(FD.o _ hh.rel).2.2;rotate_left
 ·have h70:=rq (hh.d 45 70);have wJ:=(FO.o _ hh.rel).row;have hJ:=Hd hh.st;exact wp_load_mid 51 _ rfl lb lo (by simpa[go_sem] using h70) q.cs _ wJ underlying51 rfl (by kernel_rfl) ⟨_,rfl,rB,rfl,hJ.o⟩
 ·have h71:=rq (hh.d 46 71);have hC:=Hd (a6o.o _ hh.rel);have hJ:=hh.j;clear hh;go_simp;refine hC.o.mono ?_;rintro e w9 ⟨rfl,aU⟩;exact⟨_,rfl,aU,rfl,hJ.o⟩
 have h72:=rq (hh.d 47 72);rotate_left;have h68:=rq (hh.d 43 68);have h73:=rq (hh.d 48 73);rotate_left;have h74:=rq (hh.d 49 74);rotate_left;have h3:=hh.o 3 (v:=.slice (some ⟨lb,lo,none⟩) 1 c) rfl;rotate_left;have h76:=rq (hh.d 51 76);have li:=(FD.o _ hh.rel).2.2;rotate_left
 ·have h77:=rq (hh.d 52 77);have wJ:=(FO.o _ hh.rel).row;have hJ:=Hd hh.st;exact wp_load_mid 51 _ rfl lb lo (by simpa[go_sem] using h77) q.cs _ wJ underlying51 rfl (by kernel_rfl) ⟨_,rfl,rB,rfl,hJ.o⟩
 ·have h78:=rq (hh.d 53 78);have hC:=Hd (a6n.o _ hh.rel);have hJ:=hh.j;clear hh;go_simp;refine hC.o.mono ?_;rintro e w9 ⟨rfl,aU⟩;exact⟨_,rfl,aU,rfl,hJ.o⟩
 have h79:=rq (hh.d 54 79);rotate_left;have h75:=rq (hh.d 50 75);have h80:=rq (hh.d 55 80);rotate_left;have h81:=rq (hh.d 56 81);rotate_left;have h3:=hh.o 3 (v:=.slice (some ⟨lb,lo,none⟩) 1 c) rfl;rotate_left;have h83:=rq (hh.d 58 83);have li:=(FD.o _ hh.rel).2.2;rotate_left
 ·have h84:=rq (hh.d 59 84);have wJ:=(FO.o _ hh.rel).row;have hJ:=Hd hh.st;exact wp_load_mid 51 _ rfl lb lo (by simpa[go_sem] using h84) q.cs _ wJ underlying51 rfl (by kernel_rfl) ⟨_,rfl,rB,rfl,hJ.o⟩
 have h3:=hh.o 3 (v:=.slice (some ⟨lb,lo,none⟩) 1 c) rfl;rotate_left;have h86:=rq (hh.d 61 86);have li:=(FD.o _ hh.rel).2.2;rotate_left
 ·have h87:=rq (hh.d 62 87);have wJ:=(FO.o _ hh.rel).row;have hJ:=Hd hh.st;exact wp_load_mid 51 _ rfl lb lo (by simpa[go_sem] using h87) q.cs _ wJ underlying51 rfl (by kernel_rfl) ⟨_,rfl,rB,rfl,hJ.o⟩
 ·have h85:=rq (hh.d 60 85);have h88:=rq (hh.d 63 88);have hC:=Hd (FE.o _ hh.rel);have hJ:=hh.j;clear hh;go_simp;refine hC.o.mono ?_;rintro e w9 ⟨rfl,aU⟩;exact⟨_,rfl,aU,rfl,hJ.o⟩
 have h82:=rq (hh.d 57 82);have h89:=rq (hh.d 64 89);rotate_left;have h90:=rq (hh.d 65 90);rotate_left
 ·have hC:=Hd (FT.o w1);have hJ:=hh.j;clear hh;go_simp;refine hC.o.mono ?_;rintro e w9 ⟨rfl,aU⟩;exact⟨_,rfl,aU,rfl,hJ.o⟩
 ·have hJ:=Hd hh.st;exact wp_build _ _ rfl (by simp[go_sem]) (We ⟨98304,32768⟩ w1) ⟨_,rfl,rB,rfl,hJ.o⟩
 have h92:=rq (hh.d 67 92);have h93:=rq (hh.d 68 93);rotate_left;have h91:=rq (hh.d 66 91);have h94:=rq (hh.d 69 94);rotate_left;have h95:=rq (hh.d 70 95);rotate_left
 any_goals (clear hh;go_simp;exact⟨_,rfl,rB,rfl,trivial⟩)
 intro L w8 val hL hJ hR hv;have h0:val 0=.bool true:=hv 71 0 (by kernel_rfl);have HR8:=Hd hR;clear hv hL hJ hR;simp only[regs.aA,List.map_cons,List.map_nil,h0];simp only[Act.put,List.setIfInBounds_toArray,List.set_cons_zero,List.set_cons_succ];clear h0
 skip
 go_wp2_with (fail);go_ret;exact⟨rfl,sU.o.trans (Below.mono HR8.o sU.o.size)⟩
end
end
section
open Go.RowKit
theorem a0C(n:Int):(n.tmod 65536<0->n / 65536=n.tdiv 65536 - 1∧n % 65536=n.tmod 65536+65536)∧(0<=n.tmod 65536->n / 65536=n.tdiv 65536∧n % 65536=n.tmod 65536)∧(-65536<n.tmod 65536∧n.tmod 65536<65536):=by
 have g1:=Int.emod_nonneg n (show(65536:Int)≠0 by omega);have g2:=Int.emod_lt_of_pos n (show(0:Int)<65536 by omega);have g3:=Int.tdiv_eq_ediv (a:=n) (b:=65536);have g4:=Int.tmod_eq_emod (a:=n) (b:=65536);have hs:(65536:Int).sign=1:=rfl;have hn:((65536:Int).natAbs:Int)=65536:=rfl;rw[hs] at g3
 have hdv:(65536 ∣ n)↔n % 65536=0:=⟨Int.emod_eq_zero_of_dvd,Int.dvd_of_emod_eq_zero⟩
 by_cases h:0<=n∨(65536:Int) ∣ n
 ·rw[if_pos h] at g3 g4;omega
 ·rw[if_neg h] at g3 g4;rw[hn] at g4;rw[hdv] at h;omega
theorem a3l(n:Int)(w:World)(h1:-9223372036854710272<=n)(h2:n<=9223372036854710272) :
  Calls prog 78 #[.int .i64 n,.int .i64 65536] w fun e w'=>e=.returned (.int .i64 (n / 65536))∧w=w':=by
 obtain⟨a5,a6,a3,a4⟩:=a0C n;have hmul:n.tdiv 65536*65536+n.tmod 65536=n:=by rw[Int.mul_comm];exact Int.mul_tdiv_add_tmod n 65536
 by_cases hn:n.tmod 65536<0
 ·have HF:=Hd (a5 hn).1
  obtain⟨Q,hQ⟩:∃Q,n.tdiv 65536=Q:=⟨_,rfl⟩
  rw[hQ] at HF hmul;have b1:-140737488355329<=Q∧Q<=140737488355329:=by omega
  obtain⟨M,hM⟩:∃M,Q*65536=M:=⟨_,rfl⟩
  have hM2:(Q - 1)*65536=M - 65536:=by omega
  rw[hM] at hmul;have q3:wrap64 Q=Q:=IntWalk.wrap64_in _ (by omega);have q4:wrap64 M=M:=IntWalk.wrap64_in _ (by omega);have q5:wrap64 (Q - 1)=Q - 1:=IntWalk.wrap64_in _ (by omega);have q6:wrap64 (M - 65536)=M - 65536:=IntWalk.wrap64_in _ (by omega);have t1:decide (n<M)=true:=by simp;omega
  have t2:decide (n<M - 65536)=false:=by simp;omega
  obtain⟨b1,b2⟩:=b1;have b3:-9223372036854775808<=M∧M<=9223372036854775807:=by omega
  obtain⟨b3,b4⟩:=b3;clear a3 a4 a5 a6 hmul hn h1 h2;go_enter func78,ntmps78;go_wp2_with (fail)
  go_loop [5] (fun q=>q=.int .i64 Q∨q=.int .i64 (Q - 1)) (fun q=>(intOf q - (Q - 1)).toNat)
  case atStart=>exact .inl rfl
  case round=>
   rcases hrel with rfl|rfl
   ·go_wp2_with (fail)
    go_round
    case rel=>exact .inr rfl
    case measure=>simp[intOf];omega
   ·go_wp2_with (fail);go_ret;exact⟨az HF.o.symm,rfl⟩
 ·have HF:=Hd (a6 (by omega)).1
  obtain⟨Q,hQ⟩:∃Q,n.tdiv 65536=Q:=⟨_,rfl⟩
  rw[hQ] at HF hmul;have b1:-140737488355329<=Q∧Q<=140737488355329:=by omega
  obtain⟨M,hM⟩:∃M,Q*65536=M:=⟨_,rfl⟩
  rw[hM] at hmul;have q3:wrap64 Q=Q:=IntWalk.wrap64_in _ (by omega);have q4:wrap64 M=M:=IntWalk.wrap64_in _ (by omega);have t1:decide (n<M)=false:=by simp;omega
  obtain⟨b1,b2⟩:=b1;have b3:-9223372036854775808<=M∧M<=9223372036854775807:=by omega
  obtain⟨b3,b4⟩:=b3;clear a3 a4 a5 a6 hmul hn h1 h2;go_enter func78,ntmps78;go_wp2_with (fail)
  go_loop [5] (fun q=>q=.int .i64 Q) (fun q=>0)
  case atStart=>rfl
  case round=>
   obtain rfl:=hrel;go_wp2_with (fail);go_ret;exact⟨az HF.o.symm,rfl⟩
end
section
open Go.RowKit
def yf(Z:List Int)(t:List Value)(k:Nat):List Value:=(Z.take k).map eI++(List.replicate (Z.length - k) (eI 0)++t)
theorem PU(Z:List Int)(t:List Value){k:Nat}(hk:k<Z.length):(yf Z t k).set k (eI Z[k])=yf Z t (k+1):=by
 unfold yf;have e:Z.length - k=(Z.length - (k+1))+1:=by omega
 rw[List.take_succ_eq_append_getElem hk,List.map_append,e,List.replicate_succ,List.set_append,if_neg (by simp[Nat.min_eq_left (Nat.le_of_lt hk)])];simp[Nat.min_eq_left (Nat.le_of_lt hk)]
theorem Yg(Z:List Int)(t:List Value){k:Nat}(hk:k<Z.length):(yf Z t k)[k]?=some (.int .i64 0):=by
 unfold yf;rw[List.getElem?_append_right (by simp[Nat.min_eq_left (Nat.le_of_lt hk)]),List.getElem?_append_left (by simp[Nat.min_eq_left (Nat.le_of_lt hk)];omega)];simp only[List.length_map,List.length_take,Nat.min_eq_left (Nat.le_of_lt hk),Nat.sub_self,List.getElem?_replicate];rw[if_pos (by omega)];rfl
theorem TZ(Z:List Int)(t:List Value){k:Nat}(hk:k<Z.length):(yf Z t (k+1))[k]?=some (.int .i64 Z[k]):=by
 unfold yf;rw[List.getElem?_append_left (by simp;omega),List.getElem?_map,List.getElem?_take_of_lt (Nat.lt_succ_self _),List.getElem?_eq_getElem hk];rfl
def Mp.l4b(m:Mp):List Int:=[m.d,-m.b,-m.c,m.a]
theorem a3v(m:Mp):m.bk.l4=m.l4b.map fun x=>zH x m.F6:=rfl
theorem a0T(m:Mp)(w:World)(hr:m.right=true):Calls prog 68 #[m.v] w fun e w'=>e=.returned (.tuple #[m.back.1.v,.int .i64 m.back.2])∧bz w w':=by
 have uY:Hid (m.back=if m.F6=0 then (Mp.o,43) else if dH m.bk.l4=true then (m.bk,0) else (Mp.o,35)):=by
  show _=_;unfold Mp.back;rw[if_neg (by rw[hr];decide)]
 obtain⟨ra,rb,rc,rd,re,rf⟩:=tX hr
 obtain⟨R,hR⟩:∃R,m.back=R:=⟨_,rfl⟩
 rw[hR] at uY ⊢;clear hR hr;obtain⟨RM,RE⟩:=R;have Jt:Hid (m.F6=m.a*m.d - m.b*m.c):=rfl
 obtain⟨Z,hZ⟩:∃Z,m.bk.l4=Z:=⟨_,rfl⟩
 obtain⟨L4,hL4⟩:∃L,m.l4b=L:=⟨_,rfl⟩
 have HLZ:Hid (L4.length=4∧Z.length=4):=by rw[← hZ,← hL4];exact⟨rfl,rfl⟩
 have HZ4:Hid (∀k (h:k<Z.length) (h':k<L4.length),Z[k]=zH L4[k] m.F6):=by
  intro k h h';subst hZ;subst hL4;simp[a3v]
 have a1O:Hid (∀x∈L4,-1073741824<=x∧x<=1073741824):=by
  intro x hx;rw[← hL4] at hx;simp only[Mp.l4b,List.mem_cons,List.not_mem_nil,or_false] at hx;rcases hx with rfl|rfl|rfl|rfl<;>omega
 have OV:Hid (yf Z [.int .i64 m.e,.int .i64 m.f] 4=m.bk.cs):=by rw[← hZ];rfl
 have OW:Hid (yf Z [.int .i64 m.e,.int .i64 m.f] 0=[.int .i64 0,.int .i64 0,.int .i64 0,.int .i64 0,.int .i64 m.e,.int .i64 m.f]):=by rw[← hZ];rfl
 have nJ:Hid (L4.map eI=(Vm m.d (-m.b) (-m.c) m.a)):=by rw[← hL4];rfl
 rw[hZ] at uY;clear hZ hL4;generalize m.F6=D at *;generalize m.bk=K at *;obtain⟨ka,kb,kc,kd,ke,kf⟩:=m;unfold Mp.v;simp only at ra rb rc rd re rf Jt OV OW nJ ⊢;have EF:=Jt.o;obtain⟨x1,x2⟩:=mP ra.1 ra.2 rd.1 rd.2;obtain⟨y1,y2⟩:=mP rb.1 rb.2 rc.1 rc.2
 obtain⟨X,hX⟩:∃X,ka*kd=X:=⟨_,rfl⟩
 obtain⟨Y,hY⟩:∃Y,kb*kc=Y:=⟨_,rfl⟩
 rw[hX,hY] at EF;rw[hX] at x1 x2;rw[hY] at y1 y2;have q3:X - Y=D:=EF.symm;have tC:Hid (-2305843009213693952<=D∧D<=2305843009213693952):=by rw[EF];show _∧_;omega
 obtain⟨d1,d2⟩:=tC.o;obtain⟨rb1,rb2⟩:=rb;obtain⟨rc1,rc2⟩:=rc
 obtain⟨NB,hNB⟩:∃x,-kb=x:=⟨_,rfl⟩
 obtain⟨NC,hNC⟩:∃x,-kc=x:=⟨_,rfl⟩
 rw[hNB,hNC] at nJ;have nb1:-1073741824<=NB∧NB<=1073741824:=by omega
 have nc1:-1073741824<=NC∧NC<=1073741824:=by omega
 obtain⟨nb1,nb2⟩:=nb1;obtain⟨nc1,nc2⟩:=nc1;clear EF Jt ra rd re rf;by_cases hD:D=0
 ·have t:(D==0)=true:=by simpa using hD
  have hT:=uY.o.trans (if_pos hD)
  injection hT with h1 h2
  subst h1;subst h2;clear hD uY tC HLZ HZ4 a1O OV OW nJ;go_enter func68,ntmps68;go_wp2_with (fail);exact aH rfl rfl rfl (aN (w.alloc _) _ (by simp) Mp.o.cs _) underlying54 rfl (by kernel_rfl) ⟨rfl,(bR.alloc nR _).alloc (by simp) _⟩
 ·have t:(D==0)=false:=by simpa using hD
  have Fq:=Hd (uY.o.trans (if_neg hD));have HD0:=Hd hD;clear hD uY;go_enter func68,ntmps68;go_wp2_with (fail)
  go_loopw [7] (fun i wr=>∃k:Nat,k<=4∧i=.int .i64 k∧Hid (dH (Z.take k)=true)∧Hid (bz w wr)∧Hid (ax wr w.heap.size (Vh ka kb kc kd ke kf))∧Hid (ax wr (w.heap.size+1) Mp.o.cs)∧Hid (ax wr (w.heap.size+1+1) (L4.map eI))∧Hid (ax wr (w.heap.size+1+1+1) (yf Z [.int .i64 ke,.int .i64 kf] k))) (fun i _=>4 - (intOf i).toNat)
  case atStart=>
   refine⟨0,Nat.zero_le _,rfl,by simp[Hid,dH],?_,?_,?_,?_,?_⟩
   ·show Below _ _ _;refine Below.alloc (Below.alloc (Below.alloc (bR.alloc nR _) ?_ _) ?_ _) ?_ _
    all_goals simp only[World.size_alloc]
    all_goals omega
   ·exact(((ay w (Vh ka kb kc kd ke kf) _).alloc _).alloc _).alloc _
   ·exact((aN (w.alloc _) _ (by simp) Mp.o.cs _).alloc _).alloc _
   ·rw[nJ.o];exact(aN _ _ (by simp) (Vm kd NB NC ka) _).alloc _
   ·rw[OW.o];exact aN _ _ (by simp) [.int .i64 0,.int .i64 0,.int .i64 0,.int .i64 0,.int .i64 ke,.int .i64 kf] _
  case round=>
   obtain⟨k,hk,rfl,HK,HB,HM,HR,HL,HN⟩:=hrel;clear hX hY q3 x1 x2 y1 y2 hNB hNC rb1 rb2 rc1 rc2 nb1 nb2 nc1 nc2 OW nJ;by_cases hlt:k<4
   ·have hkl:k<L4.length:=by rw[HLZ.o.1];exact hlt
    have hkz:k<Z.length:=by rw[HLZ.o.2];exact hlt
    have hc:=HL.o.at6 hkl;have H1:=Hd (qP HK.o hkz);have H0:=Hd (uS (l:=Z) hkz);have HS:=Hd (PU Z [.int .i64 ke,.int .i64 kf] hkz);have a2j:=Hd (TZ Z [.int .i64 ke,.int .i64 kf] hkz);have hz0:=(HN.o.cell k).trans (Yg Z [.int .i64 ke,.int .i64 kf] hkz);have hzf:=HN.o.free k;obtain⟨b1,b2⟩:=a1O.o _ (List.getElem_mem hkl);rw[HZ4.o k hkz hkl] at H1 H0 HS a2j;generalize L4[k]=x at *
    obtain⟨N,hN⟩:∃N,x*4294967296=N:=⟨_,rfl⟩
    have n1:-4611686018427387904<=N∧N<=4611686018427387904:=by omega
    obtain⟨n1,n2⟩:=n1;have hl4:=HL.o.inside;have YG:=HN.o.inside;clear HK hkl hkz;by_cases hneg:D<0
    ·clear t;have t2:decide (D<0)=true:=by simpa using hneg
     have HZ:Hid (zH x D=nH (-N) (-D)):=by
      show _=_;unfold zH;rw[if_pos hneg,show -x*4294967296=-N by omega]
     have hd0:D≠0:=HD0.o;have F7:=Hd (fun w=>sF (-N) (-D) w (by omega) (by omega) (by omega) (by omega));rw[← HZ.o] at F7
     obtain⟨NN,hNN⟩:∃x,-N=x:=⟨_,rfl⟩
     obtain⟨DD,hDD⟩:∃x,-D=x:=⟨_,rfl⟩
     rw[hNN,hDD] at F7;have n3:-4611686018427387904<=NN∧NN<=4611686018427387904:=by omega
     have n4:-2305843009213693952<=DD∧DD<=2305843009213693952:=by omega
     obtain⟨n3,n5⟩:=n3;obtain⟨n4,n6⟩:=n4;clear hneg HZ hd0;generalize zH x D=z at *;go_wp2_with (fail);refine(F7.o _).mono ?_;rintro e2 w2 ⟨rfl,rfl⟩
     have bn:Hid (ax (wr.setCell ⟨w.heap.size+1+1+1,k,none⟩ (.int .i64 z)) (w.heap.size+1+1+1) (yf Z [.int .i64 ke,.int .i64 kf] (k+1))):=by
      show ax _ _ _;rw[← HS.o];exact HN.o.set k _
     have c0:(wr.setCell ⟨w.heap.size+1+1+1,k,none⟩ (.int .i64 z)).cell? ⟨w.heap.size+1+1+1,k,none⟩=some (.int .i64 z):=(bn.o.cell k).trans a2j.o;have hB2:=Hd (dF (i:=k) (v:=.int .i64 z) HB.o (show w.heap.size<=w.heap.size+1+1+1 by omega));have hm2:=Hd (HM.o.other (show w.heap.size≠w.heap.size+1+1+1 by omega) k (.int .i64 z));have hr2:=Hd (HR.o.other (show w.heap.size+1≠w.heap.size+1+1+1 by omega) k (.int .i64 z));have hl2:=Hd (HL.o.other (show w.heap.size+1+1≠w.heap.size+1+1+1 by omega) k (.int .i64 z));clear F7 HD0
     go_wp2_with (fail);generalize wr.setCell ⟨w.heap.size+1+1+1,k,none⟩ (.int .i64 z)=wx at *;refine(jW z wx).mono ?_;cases hx:bT z with
     | true=>
      rw[hx] at H1;have HB2:=Hd (H1.o rfl);clear H1 H0 hx c0 hc hz0 hzf;rintro e3 w3 ⟨rfl,rfl⟩;go_wp2_with (fail)
      go_roundw
      case rel=>exact⟨k+1,by omega,by go_num,HB2,hB2,hm2,hr2,hl2,bn⟩
      case measure=>simp[intOf];omega
     | false=>
      rw[hx] at H0;have hT:=Fq.o.trans (if_neg (by rw[H0.o rfl];decide))
      injection hT with h1 h2
      subst h1;subst h2;clear H1 H0 hx c0 hc hz0 hzf Fq;obtain⟨⟨c0,c1,c2,c3,c4,c5⟩,⟨f0,f1,f2,f3,f4,f5⟩,ri⟩:=ax.c6 hr2.o;rintro e3 w3 ⟨rfl,rfl⟩;go_wp2_with (fail);exact aH rfl rfl rfl (ax.oL hr2.o _ _ _ _ _ _) underlying54 rfl (by kernel_rfl) ⟨rfl,gy hB2.o (by omega) _ _ _ _ _ _⟩
    ·clear t;have t2:decide (D<0)=false:=by simpa using hneg
     have HZ:Hid (zH x D=nH N D):=by
      show _=_;unfold zH;rw[if_neg hneg,hN]
     have hd0:D≠0:=HD0.o;have F7:=Hd (fun w=>sF N D w (by omega) (by omega) (by omega) (by omega));rw[← HZ.o] at F7;clear hneg HZ hd0;generalize zH x D=z at *;go_wp2_with (fail);refine(F7.o _).mono ?_;rintro e2 w2 ⟨rfl,rfl⟩
     have bn:Hid (ax (wr.setCell ⟨w.heap.size+1+1+1,k,none⟩ (.int .i64 z)) (w.heap.size+1+1+1) (yf Z [.int .i64 ke,.int .i64 kf] (k+1))):=by
      show ax _ _ _;rw[← HS.o];exact HN.o.set k _
     have c0:(wr.setCell ⟨w.heap.size+1+1+1,k,none⟩ (.int .i64 z)).cell? ⟨w.heap.size+1+1+1,k,none⟩=some (.int .i64 z):=(bn.o.cell k).trans a2j.o;have hB2:=Hd (dF (i:=k) (v:=.int .i64 z) HB.o (show w.heap.size<=w.heap.size+1+1+1 by omega));have hm2:=Hd (HM.o.other (show w.heap.size≠w.heap.size+1+1+1 by omega) k (.int .i64 z));have hr2:=Hd (HR.o.other (show w.heap.size+1≠w.heap.size+1+1+1 by omega) k (.int .i64 z));have hl2:=Hd (HL.o.other (show w.heap.size+1+1≠w.heap.size+1+1+1 by omega) k (.int .i64 z));clear F7 HD0
     go_wp2_with (fail);generalize wr.setCell ⟨w.heap.size+1+1+1,k,none⟩ (.int .i64 z)=wx at *;refine(jW z wx).mono ?_;cases hx:bT z with
     | true=>
      rw[hx] at H1;have HB2:=Hd (H1.o rfl);clear H1 H0 hx c0 hc hz0 hzf;rintro e3 w3 ⟨rfl,rfl⟩;go_wp2_with (fail)
      go_roundw
      case rel=>exact⟨k+1,by omega,by go_num,HB2,hB2,hm2,hr2,hl2,bn⟩
      case measure=>simp[intOf];omega
     | false=>
      rw[hx] at H0;have hT:=Fq.o.trans (if_neg (by rw[H0.o rfl];decide))
      injection hT with h1 h2
      subst h1;subst h2;clear H1 H0 hx c0 hc hz0 hzf Fq;obtain⟨⟨c0,c1,c2,c3,c4,c5⟩,⟨f0,f1,f2,f3,f4,f5⟩,ri⟩:=ax.c6 hr2.o;rintro e3 w3 ⟨rfl,rfl⟩;go_wp2_with (fail);exact aH rfl rfl rfl (ax.oL hr2.o _ _ _ _ _ _) underlying54 rfl (by kernel_rfl) ⟨rfl,gy hB2.o (by omega) _ _ _ _ _ _⟩
   ·have hk4:k=Z.length:=by rw[HLZ.o.2];omega
    have HA:Hid (dH Z=true):=by
     have h:=HK.o;rw[hk4,List.take_length] at h;exact h
    have hT:=Fq.o.trans (if_pos HA.o)
    injection hT with h1 h2
    subst h1;subst h2
    have bn:Hid (ax wr (w.heap.size+1+1+1) RM.cs):=by
     show ax _ _ _;rw[← OV.o,← HLZ.o.2,← hk4];exact HN.o
    obtain rfl:k=4:=by rw[hk4,HLZ.o.2]
    clear Fq OV HK HA HN hk4 HZ4 a1O HLZ tC;obtain⟨va,vb,vc,vd,ve,vf⟩:=RM;obtain⟨⟨c0,c1,c2,c3,c4,c5⟩,⟨f0,f1,f2,f3,f4,f5⟩,ri⟩:=ax.c6 HR.o;obtain⟨⟨e0,e1,e2,e3,e4,e5⟩,-,ei⟩:=ax.c6 bn.o;simp only at e0 e1 e2 e3 e4 e5;go_wp2_with (fail);exact aH rfl rfl rfl (ax.oL HR.o _ _ _ _ _ _) underlying54 rfl (by kernel_rfl) ⟨rfl,gy HB.o (by omega) _ _ _ _ _ _⟩
end
end Go.Proofs.YtekdoeilpheklaaGreat
