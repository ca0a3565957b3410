import Derived.Test.YtekdoeilpheklaaGreatWFlH
set_option maxHeartbeats 16000000
set_option maxRecDepth 100000
open Go.Proofs.Tryz
namespace Go.Proofs.YtekdoeilpheklaaGreat
section
section
open Go.RowKit fH fV aF Go.Maps
theorem V5(m:Mp)(w:World):(binOp .eql 41 (.agg m.cs.toArray) (.agg m.cs.toArray)).run prog w=.ok (.bool true) w:=by
 obtain⟨a,b,c,d,e,f⟩:=m;unfold Mp.cs;simp only;go_simp
theorem I8(m:Mp)(w:World):(binOp .eql 39 (.agg m.cs.toArray) (.agg m.cs.toArray)).run prog w=.ok (.bool true) w:=by
 obtain⟨a,b,c,d,e,f⟩:=m;unfold Mp.cs;simp only;go_simp
theorem V4(m:Bx)(w:World):(binOp .eql 75 (.agg m.yJ.toArray) (.agg m.yJ.toArray)).run prog w=.ok (.bool true) w:=by
 obtain⟨a,b,c,d⟩:=m;unfold Bx.yJ;simp only;go_simp
theorem Em(q:Lk)(A:Option Addr)(c:Nat)(w:World):(Instr.build 109 #[(5,.agg (q.cs A c).toArray)]).run prog w=.ok (.agg (Nd.cs ⟨Mp.o,0,false,false,Bx.o,q⟩ A c).toArray) w:=by kernel_rfl
theorem V3(m:Cl)(w:World):(binOp .neq 122 (.agg m.cs.toArray) (.agg m.cs.toArray)).run prog w=.ok (.bool false) w:=by
 obtain⟨⟨a,b,c,d,e,f⟩,⟨g,h,i,j⟩⟩:=m;unfold Cl.cs;simp only;go_simp
theorem Rh(m:Cl)(x y:Operand)(w:World):(eqGuard .neq 122 x y (.agg m.cs.toArray) (.agg m.cs.toArray)).run prog w=.ok () w:=by kernel_rfl
theorem a0U{P:Program}{op:Oper}{a:Act}{w:World}{K:Act->World->Prop}{Q:Exit->Act->World->Prop}(k:BinOp)(t rt:TypeId)(x y:Operand)(ho:op.op=.binOp k t x y rt){v1 v2 v:Value}(h1:a.eval x=v1)(h2:a.eval y=v2)(hg:(eqGuard k t x y v1 v2).run P w=.ok () w)(hrun:(binOp k t v1 v2).run P w=.ok v w)
  (h:K (a.put op.dst v) w):op.wp P a w K Q:=by
 subst h1 h2;unfold Oper.wp execOp;simp only[ho,Sem.run_bind,Result.andThen_ok,hg,hrun];exact h
theorem lS{w w':World}{b o:Nat}{cs:List Value}(h:w.rangeAt b o cs)(hb:bz w w'):w'.rangeAt b o cs:=fun i v hv=>(hb.cell (p:=⟨b,o+i,none⟩) (World.block_lt_of_cell? w _ (h i v hv))).trans (h i v hv)
theorem Fe(n:Nd)(A:Option Addr)(c:Nat)(A2:Option Addr)(c2:Nat)(hl:n.lk.l.length<=300)(w:World)(hr:Row eW w A n.lk.l)(hr2:Row eW w A2 n.lk.l):Calls prog 86 #[.agg (n.cs A c).toArray,.agg (n.cs A2 c2).toArray] w (aJ (.bool true) w):=by
 have HB0:Hid (bz w ((w.alloc (.cells (n.cs A c).toArray 109)).alloc (.cells (n.cs A2 c2).toArray 109))):=(bR.alloc nR _).alloc (by simp) _;have gJ:Hid (ax ((w.alloc (.cells (n.cs A c).toArray 109)).alloc (.cells (n.cs A2 c2).toArray 109)) w.heap.size (n.cs A c)):=(az w (n.cs A c) _).alloc _;have bQ:Hid (ax ((w.alloc (.cells (n.cs A c).toArray 109)).alloc (.cells (n.cs A2 c2).toArray 109)) (w.heap.size+1) (n.cs A2 c2)):=aQ (w.alloc _) _ (by simp) (n.cs A2 c2) _
 have HE:Hid (∀W,bz w W->Calls prog 117 #[.agg (n.lk.cs A c).toArray,.agg (n.lk.cs A2 c2).toArray] W (aJ (.bool true) W)):=fun W hb=>by
  have h:=Jg n.lk.k n.lk.W n.lk.H n.lk.p n.lk.iw n.lk.ih A n.lk.l c n.lk.k n.lk.W n.lk.H n.lk.p n.lk.iw n.lk.ih A2 n.lk.l c2 (by unfold maxLen;omega) (by unfold maxLen;omega) W (Row.below hr hb) (Row.below hr2 hb);have h3:=V7 n;unfold eqN a1A at h3;simp only[Bool.and_eq_true]at h3;rw[h3.2.2.2.2.2]at h;exact h
 clear hl hr hr2;go_enter func86,ntmps86
 go_upto_region 1 with(fail)
 generalize ((w.alloc (.cells (n.cs A c).toArray 109)).alloc (.cells (n.cs A2 c2).toArray 109))=w0 at*;have i1:=gJ.o.inside;have i2:=bQ.o.inside;have q1:=fun w=>I8 n.m w;have q2:=fun w=>V4 n.r w;have q3:(n.hi==n.hi)=true:=by cases n.hi<;>rfl
 have q4:(n.cl==n.cl)=true:=by cases n.cl<;>rfl
 have c6:=gJ.o.c 6 rfl;have c7:=gJ.o.c 7 rfl;have c8:=gJ.o.c 8 rfl;have d6:w0.cell? ⟨w.heap.size+1,6,none⟩=some (.int .i64 n.op):=bQ.o.cell 6;have d7:w0.cell? ⟨w.heap.size+1,7,none⟩=some (.bool n.hi):=bQ.o.cell 7;have d8:w0.cell? ⟨w.heap.size+1,8,none⟩=some (.bool n.cl):=bQ.o.cell 8
 go_wp2_with (first|(with_reducible refine gL ?_;first|(refine wt 39 0 rfl rfl rfl gJ.o (n.m.cs) rfl underlying39 rfl ?_)|(refine wt 39 0 rfl rfl rfl bQ.o (n.m.cs) rfl underlying39 rfl ?_)|(refine wt 75 9 rfl rfl rfl gJ.o (n.r.yJ) rfl underlying75 rfl ?_)|(refine wt 75 9 rfl rfl rfl bQ.o (n.r.yJ) rfl underlying75 rfl ?_)|(refine wt 49 13 rfl rfl rfl gJ.o (n.lk.cs A c) rfl underlying49 rfl ?_)|(refine wt 49 13 rfl rfl rfl bQ.o (n.lk.cs A2 c2) rfl underlying49 rfl ?_)));refine(HE.o w0 HB0.o).mono ?_;rintro e w1 ⟨rfl,hb⟩
 have HB1:=Hd (HB0.o.trans (hb.mono HB0.o.size));clear hb HE;go_wp2_with (fail);go_ret;exact⟨rfl,HB1.o⟩
theorem FY(q:Lk)(A:Option Addr)(c:Nat)(A2:Option Addr)(c2:Nat)(hl:q.l.length<=300)(w:World)(hr:Row eW w A q.l)(hr2:Row eW w A2 q.l):Calls prog 56 #[.agg (q.cs A c).toArray,.agg (q.cs A2 c2).toArray] w (aJ (.bool true) w):=by
 have HB0:Hid (bz w ((w.alloc (.cells (q.cs A c).toArray 49)).alloc (.cells (q.cs A2 c2).toArray 49))):=(bR.alloc nR _).alloc (by simp) _;have gJ:Hid (ax ((w.alloc (.cells (q.cs A c).toArray 49)).alloc (.cells (q.cs A2 c2).toArray 49)) w.heap.size (q.cs A c)):=(az w (q.cs A c) _).alloc _;have bQ:Hid (ax ((w.alloc (.cells (q.cs A c).toArray 49)).alloc (.cells (q.cs A2 c2).toArray 49)) (w.heap.size+1) (q.cs A2 c2)):=aQ (w.alloc _) _ (by simp) (q.cs A2 c2) _
 have HE:Hid (Calls prog 86 #[.agg (Nd.cs ⟨Mp.o,0,false,false,Bx.o,q⟩ A c).toArray,.agg (Nd.cs ⟨Mp.o,0,false,false,Bx.o,q⟩ A2 c2).toArray] ((w.alloc (.cells (q.cs A c).toArray 49)).alloc (.cells (q.cs A2 c2).toArray 49)) fun e w'=>e=.returned (.bool true)∧Below ((w.alloc (.cells (q.cs A c).toArray 49)).alloc (.cells (q.cs A2 c2).toArray 49)).heap.size ((w.alloc (.cells (q.cs A c).toArray 49)).alloc (.cells (q.cs A2 c2).toArray 49)) w'):=by
  exact Fe ⟨Mp.o,0,false,false,Bx.o,q⟩ A c A2 c2 hl ((w.alloc (.cells (q.cs A c).toArray 49)).alloc (.cells (q.cs A2 c2).toArray 49)) (Row.below hr HB0.o) (Row.below hr2 HB0.o)
 clear hl hr hr2;go_enter func56,ntmps56
 go_upto_region 1 with(fail)
 generalize ((w.alloc (.cells (q.cs A c).toArray 49)).alloc (.cells (q.cs A2 c2).toArray 49))=w0 at*;have i1:=gJ.o.inside;have i2:=bQ.o.inside
 go_wp2_with (first|(with_reducible refine gL ?_;first|(refine wt 49 0 rfl rfl rfl gJ.o (q.cs A c) rfl underlying49 rfl ?_)|(refine wt 49 0 rfl rfl rfl bQ.o (q.cs A2 c2) rfl underlying49 rfl ?_))|((with_reducible show wpList _ _ _ (Oper.mk (some 6) (Op.build _ _) _ _ _ _::_) _ _);refine dH _ _ rfl rfl (by simp[go_sem]) (Em q A c _) ?_)|((with_reducible show wpList _ _ _ (Oper.mk (some 8) (Op.build _ _) _ _ _ _::_) _ _);refine dH _ _ rfl rfl (by simp[go_sem]) (Em q A2 c2 _) ?_));refine HE.o.mono ?_;rintro e w1 ⟨rfl,hb⟩
 have HB1:=Hd (HB0.o.trans (hb.mono HB0.o.size));clear hb HE;go_wp2_with (fail);go_ret;exact⟨rfl,HB1.o⟩
theorem FZ(l:List Cl)(A:Option Addr)(c:Nat)(A2:Option Addr)(c2:Nat)(hn:l.length<=2000)(w:World)(hr:aT 10 Cl.cs w A l)(hr2:aT 10 Cl.cs w A2 l):Calls prog 55 #[.slice A l.length c,.slice A2 l.length c2] w (aJ (.bool true) w):=by
 have HR:=Hd (And.intro hr hr2);have hlb:(l.length:Int)<=2000:=by omega
 have t0:decide (l.length=l.length)=true:=by simp
 clear hr hr2 hn;go_enter func55,ntmps55
 go_upto_region 4 with(fail)
 go_loopw [13] (fun i wr=>∃j:Nat,j<=l.length∧i=.int .i64 j∧bz w wr) (fun i _=>l.length - (intOf i).toNat)
 case atStart=>exact⟨0,Nat.zero_le _,rfl,bR⟩
 case round=>
  obtain⟨j,hj,rfl,hw⟩:=hrel;generalize wr=wA at*;have mV:Hid (bz w wA):=hw;clear hw;by_cases hlt:j<l.length
  ·have t4:decide (j<l.length)=true:=by simpa using hlt
   have fC:=Hd hlt
   obtain⟨b1,o1,rfl,hc1⟩:=(aT.below HR.o.1 mV.o) (by omega)
   obtain⟨b2,o2,rfl,hc2⟩:=(aT.below HR.o.2 mV.o) (by omega)
   obtain⟨u,hu⟩:∃u,u=l[j]'hlt:=⟨_,rfl⟩
   have HR1:Hid (wA.rangeAt b1 (o1+j*10) u.cs):=fun i v hv=>hc1 j hlt i v (by (try show Below _ _ _);rw[←hu];exact hv);have HR2:Hid (wA.rangeAt b2 (o2+j*10) u.cs):=fun i v hv=>hc2 j hlt i v (by (try show Below _ _ _);rw[←hu];exact hv);have hcl:=fun w=>V3 u w;clear hc1 hc2 hu hlt hj;have Ko:=Hd hcl;have HT4:=Hd t4;clear hcl
   go_upto_region 6 with(fail)
   refine Kt [16,17,18,19,20,21,22,23,24] (fun i=>match i with
    |0=>rV (.slice (some ⟨b1,o1,none⟩) l.length c)
    |1|5=>rV (.int .i64 j)
    |2=>rV (.pointer (some ⟨b1,(o1+j*10),none⟩))
    |3|7=>rV (.agg (u.cs).toArray)
    |4=>rV (.slice (some ⟨b2,o2,none⟩) l.length c2)
    |6=>rV (.pointer (some ⟨b2,(o2+j*10),none⟩))
    |8=>rV (.bool false)
    |_=>ra) ⟨?_,?_,?_,?_,?_,?_,?_,?_,?_,trivial⟩ ?_
   any_goals (first|refine zp fun L a w1 hh=>?_|fail)
   have h0:=hh.o 0 (v:=.slice (some ⟨b1,o1,none⟩) l.length c) rfl;rotate_left;have h5:=hh.o 5 (v:=.int .i64 j) rfl;rotate_left;have h16:=rq (hh.d 0 16);have h17:=rq (hh.d 1 17);have hlt:=fC.o;rotate_left
   ·have h18:=rq (hh.d 2 18)
    have uY:=(lS HR1.o hh.rel)
    have hJ:=Hd hh.st;exact wp_load_mid 122 _ rfl b1 (o1+j*10) (by simpa[go_sem]using h18) u.cs _ uY underlying122 rfl af ⟨_,rfl,rB,rfl,hJ.o⟩
   have h1:=hh.o 1 (v:=.slice (some ⟨b2,o2,none⟩) l.length c2) rfl;rotate_left;have h5:=hh.o 5 (v:=.int .i64 j) rfl;rotate_left;have h20:=rq (hh.d 4 20);have h21:=rq (hh.d 5 21);have hlt:=fC.o;rotate_left
   ·have h22:=rq (hh.d 6 22)
    have uY:=(lS HR2.o hh.rel)
    have hJ:=Hd hh.st;exact wp_load_mid 122 _ rfl b2 (o2+j*10) (by simpa[go_sem]using h22) u.cs _ uY underlying122 rfl af ⟨_,rfl,rB,rfl,hJ.o⟩
   ·have h19:=rq (hh.d 3 19);have h23:=rq (hh.d 7 23);have hJ:=Hd hh.st;exact a0U _ _ _ _ _ rfl (by simpa[go_sem]using h19) (by simpa[go_sem]using h23) (Rh u _ _ w1) (Ko.o w1) ⟨_,rfl,rB,rfl,hJ.o⟩
   any_goals (clear hh;go_simp;exact⟨_,rfl,rB,rfl,trivial⟩)
   intro L w4 val hL hJ hR hv;have tq:val 24=.bool false:=hv 8 24 af;have HR4:=Hd hR;clear hv hL hJ hR;simp only[regs.aC,List.map_cons,List.map_nil,tq];simp only[Act.put,List.setIfInBounds_toArray,List.set_cons_zero,List.set_cons_succ];clear tq
   skip
   have HB4:=Hd (mV.o.trans (Below.mono HR4.o mV.o.size));have hlt:=fC.o;clear HR4 HR1 HR2 Ko mV;go_wp2_with (fail)
   go_roundw
   case rel=>exact⟨j+1,fC.o,by go_num,HB4.o⟩
   case measure=>have:=fC.o;simp[intOf];omega
  ·obtain rfl:j=l.length:=by omega
   have t4:decide (l.length<l.length)=false:=by simp
   clear hlt;go_wp2_with (fail);go_ret;exact⟨rfl,mV.o⟩
theorem I9(I:It)(Ac:Option Addr)(cc:Nat)(A:Option Addr)(c:Nat)(Ac2:Option Addr)(cc2:Nat)(A2:Option Addr)(c2:Nat)(hc:I.c.length<=2000)(hl:I.lk.l.length<=300)(w:World)(hq:pI w ⟨I,Ac,cc,A,c⟩)(hq2:pI w ⟨I,Ac2,cc2,A2,c2⟩):Calls prog 21 #[.agg (iG.cs ⟨I,Ac,cc,A,c⟩).toArray,.agg (iG.cs ⟨I,Ac2,cc2,A2,c2⟩).toArray] w (aJ (.bool true) w):=by
 obtain⟨q,hqq⟩:∃q:iG,q=⟨I,Ac,cc,A,c⟩:=⟨_,rfl⟩
 obtain⟨q2,a3t⟩:∃q:iG,q=⟨I,Ac2,cc2,A2,c2⟩:=⟨_,rfl⟩
 have HB0:Hid (bz w ((w.alloc (.cells q.cs.toArray 51)).alloc (.cells q2.cs.toArray 51))):=(bR.alloc nR _).alloc (by simp) _;have gJ:Hid (ax ((w.alloc (.cells q.cs.toArray 51)).alloc (.cells q2.cs.toArray 51)) w.heap.size q.cs):=(az w q.cs _).alloc _;have bQ:Hid (ax ((w.alloc (.cells q.cs.toArray 51)).alloc (.cells q2.cs.toArray 51)) (w.heap.size+1) q2.cs):=aQ (w.alloc _) _ (by simp) q2.cs _
 have HE:Hid (∀W,bz w W->_):=(fun W hb=>FY I.lk A c A2 c2 hl W (Row.below hq.px hb) (Row.below hq2.px hb))
 have HC:Hid (∀W,bz w W->_):=(fun W hb=>FZ I.c Ac cc Ac2 cc2 hc W (aT.below hq.rW hb) (aT.below hq2.rW hb))
 rw[←hqq,←a3t];go_enter func21,ntmps21
 go_upto_region 1 with(fail)
 subst hqq a3t;clear hc hl hq hq2;generalize ((w.alloc (.cells (iG.cs ⟨I,Ac,cc,A,c⟩).toArray 51)).alloc (.cells (iG.cs ⟨I,Ac2,cc2,A2,c2⟩).toArray 51))=w0 at*;have i1:=gJ.o.inside;have i2:=bQ.o.inside;have q1:=fun w=>I8 I.w w;have q2:=fun w=>V5 I.b w;have c0:=gJ.o.c 0 rfl;have c13:=gJ.o.c 13 rfl;have c14:=gJ.o.c 14 rfl;have d0:w0.cell? ⟨w.heap.size+1,0,none⟩=some (.int .i64 I.i):=bQ.o.cell 0;have d13:w0.cell? ⟨w.heap.size+1,13,none⟩=some (.slice Ac2 I.c.length cc2):=bQ.o.cell 13
 have d14:w0.cell? ⟨w.heap.size+1,14,none⟩=some (.int .i64 (I.o:Nat)):=bQ.o.cell 14;go_wp2_with (first|(with_reducible refine gL ?_;first|(refine wt 39 1 rfl rfl rfl gJ.o (I.w.cs) rfl underlying39 rfl ?_)|(refine wt 39 1 rfl rfl rfl bQ.o (I.w.cs) rfl underlying39 rfl ?_)|(refine wt 41 7 rfl rfl rfl gJ.o (I.b.cs) rfl underlying41 rfl ?_)|(refine wt 41 7 rfl rfl rfl bQ.o (I.b.cs) rfl underlying41 rfl ?_)));refine(HC.o _ HB0.o).mono ?_;rintro e w1 ⟨rfl,hb⟩;have HB1:=Hd (HB0.o.trans (hb.mono HB0.o.size));have dI:=Hd (gJ.o.below' hb)
 have mG:=Hd (bQ.o.below' hb);clear hb HC c0 c13 c14 d0 d13 d14 i1 i2 gJ bQ;have i1:=dI.o.inside;have i2:=mG.o.inside;go_wp2_with (first|(with_reducible refine gL ?_;first|(refine wt 49 15 rfl rfl rfl dI.o (I.lk.cs A c) rfl underlying49 rfl ?_)|(refine wt 49 15 rfl rfl rfl mG.o (I.lk.cs A2 c2) rfl underlying49 rfl ?_)));refine(HE.o w1 HB1.o).mono ?_;rintro e w2 ⟨rfl,hb⟩;have HB2:=Hd (HB1.o.trans (hb.mono HB1.o.size));clear hb HE;go_wp2_with (fail);go_ret;exact⟨rfl,HB2.o⟩
end
section
open Go.RowKit fH fV aF Go.Maps
theorem RI(w:World):(Instr.build 77 #[(0,.int .i64 1),(1,.int .i64 1)]).run prog w=.ok (.agg (TC.cs none 0).toArray) w:=by kernel_rfl
theorem RH(w:World):(Instr.build 77 #[(0,.int .i64 4),(1,.int .i64 1),(4,.agg #[.int .i64 65536,.int .i64 0,.int .i64 0,.int .i64 65536,.int .i64 65536,.int .i64 0])]).run prog w=.ok (.agg (Eb.cs none 0).toArray) w:=by kernel_rfl
theorem RG(w:World):(Instr.build 77 #[(0,.int .i64 7),(1,.int .i64 1),(8,.agg #[.int .i64 1,.int .i64 2,.int .i64 1,.int .u32 255,.int .i64 0,.int .i64 0,.slice none 0 0])]).run prog w=.ok (.agg (Md.cs none 0).toArray) w:=by kernel_rfl
theorem RF(w:World):(Instr.build 77 #[(0,.int .i64 6),(7,.int .i64 128)]).run prog w=.ok (.agg (Q5.cs none 0).toArray) w:=by kernel_rfl
theorem a1Q(a b c d:dN)(w:World):(Instr.buildSlice a5o 4 #[(0,.agg (a.cs none 0).toArray),(1,.agg (b.cs none 0).toArray),(2,.agg (c.cs none 0).toArray),(3,.agg (d.cs none 0).toArray)]).run prog w=.ok (.slice (some ⟨w.heap.size,0,none⟩) 4 4) (w.alloc (.cells ([oN a,oN b,oN c,oN d].flatMap iV.cs).toArray 77)):=by kernel_rfl
def flZ:ZZ:=⟨4,⟨3,9⟩,fun _=>False⟩
theorem a3b{Z:ZZ}(hZ:Z.2.2=9){x:aO}{n:Nat}(h:x.t.length<=10)(hn:n<=1024):n<=1024->Room Z.2.2 x n:=fun _=>⟨hn,.inr ⟨by omega,by rw[hZ];decide⟩⟩
theorem VX:∀q∈[oN TC,oN Eb,oN Md,oN Q5],mD q.o∧q.o.lk.l=[]:=by
 intro q hq;simp only[List.mem_cons,List.not_mem_nil,or_false]at hq;rcases hq with rfl|rfl|rfl|rfl<;>exact a0G (by simp[VZ,oN])
structure Ns(w:World)(lb lo:Nat)(q:iG):Prop where
 row:w.rangeAt lb lo q.cs
 at_:pI w q
theorem Ns.below{w w':World}{lb lo:Nat}{q:iG}(h:Ns w lb lo q)(hb:bz w w'):Ns w' lb lo q:=⟨fun i v hv=>(hb.cell (p:=⟨lb,lo+i,none⟩) (World.block_lt_of_cell? w _ (h.row i v hv))).trans (h.row i v hv),h.at_.below hb⟩
theorem Ns.inside{w:World}{lb lo:Nat}{q:iG}(h:Ns w lb lo q):lb<w.heap.size:=World.block_lt_of_cell? w ⟨lb,_,none⟩ (h.row 0 (.int .i64 q.it.i) rfl)
theorem jZ(w:World):Calls prog 6 #[] w (aJ (.bool true) w):=by
 go_enter func6,ntmps6;go_wp2_with (fail);refine(UO (w:=w) flZ (fun _ e=>e.elim) ⟨by decide,by decide⟩ ⟨by decide,by decide⟩ ⟨by decide,by decide⟩).mono ?_;rintro e w1 ⟨g,b,m,s,rfl,hs1,hb1,hf1,hg1⟩
 have G8:Hid (Xp w g b m s flZ aO.new w1):=⟨hs1,hf1,hb1⟩
 clear hs1 hb1 hf1 hg1;go_wp2_with (first|((with_reducible show wpList _ _ _ (Oper.mk (some 15) (Op.build _ _) _ _ _ _::_) _ _);refine dH _ _ rfl rfl (by simp[go_sem]) (RI _) ?_));refine(UT 65536 0 w1).mono ?_;rintro e w2 ⟨rfl,hb2⟩;unfold Mp.v;have ED:=Hd (G8.o.below hb2);clear hb2 G8;go_wp2_with (first|((with_reducible show wpList _ _ _ (Oper.mk (some 17) (Op.build _ _) _ _ _ _::_) _ _);refine dH _ _ rfl rfl (by simp[go_sem]) (RH _) ?_));refine(Me 2 1 255 w2).mono ?_;rintro e w3 ⟨rfl,hb3⟩;unfold Dc;have gZ:=Hd (ED.o.below hb3)
 clear hb3 ED;go_wp2_with (first|((with_reducible show wpList _ _ _ (Oper.mk (some 19) (Op.build _ _) _ _ _ _::_) _ _);refine dH _ _ rfl rfl (by simp[go_sem]) (RG _) ?_)|((with_reducible show wpList _ _ _ (Oper.mk (some 20) (Op.build _ _) _ _ _ _::_) _ _);refine dH _ _ rfl rfl (by simp[go_sem]) (RF _) ?_)|((with_reducible refine gB ?_);refine jV _ _ _ rfl rfl (by simp[go_sem]) (a1Q TC Eb Md Q5 _) ?_));have GZ:=Hd (Qv (w:=w3) (S:=ag b m s aO.new.t) gZ.o.at_.inside [oN TC,oN Eb,oN Md,oN Q5] (fun q hq=>(VX q hq).2))
 rw[show[oN TC,oN Eb,oN Md,oN Q5].flatMap iV.cs=(oN TC).cs++((oN Eb).cs++((oN Md).cs++(oN Q5).cs)) from by simp]at GZ;have iq:Hid (Below w3.heap.size w3 (w3.alloc (.cells ((oN TC).cs++((oN Eb).cs++((oN Md).cs++(oN Q5).cs))).toArray 77))):=bR.alloc nR _;generalize (w3.alloc (.cells ((oN TC).cs++((oN Eb).cs++((oN Md).cs++(oN Q5).cs))).toArray 77))=w5 at*;have rY:=Hd (gZ.o.below iq.o);generalize w3.heap.size=k5 at*
 have HAP:=Hd (applied rY.o.at_ aO.Ap [oN TC,oN Eb,oN Md,oN Q5] (some ⟨k5,0,none⟩) 4 GZ.o (fun q hq=>(VX q hq).1) (a3b rfl (by decide) (by simp)) (by simp));rw[show bY flZ.2.2 setSt aO.new ([oN TC,oN Eb,oN Md,oN Q5].map (·.o))=(Yi,4,0) from uZ]at HAP;unfold CB at HAP;refine HAP.o.mono ?_;rintro e w6 ⟨s6,rfl,hs6,IW⟩;have EC:=Hd (rY.o.turn hs6 IW);clear hs6 IW HAP rY GZ iq gZ;go_wp2_with (fail);refine(IM EC.o.at_ Jb (by rw[OT];decide)).mono ?_;unfold Pz;rintro e w7 ⟨A,c,l,rfl,hrow,hqs,hmap,-,hb7⟩
 rw[VY]at hmap
 obtain⟨q,rfl,hq⟩:∃q,l=[q]∧q.it=Zf:=by
  match l,hmap with
  |[],h=>simp at h
  |[q],h=>exact⟨q,rfl,by simpa using h⟩
  |_::_::_,h=>simp at h
 obtain⟨lb,lo,rfl,hc⟩:=hrow (by simp)
 have ug:Hid (Ns w7 lb lo q):=⟨fun i v hv=>by have:=hc 0 (by simp) i v hv;simpa using this,(hqs q List.mem_cons_self).1⟩
 have tY:Hid (bz w w7):=EC.o.bel.trans (hb7.mono EC.o.bel.size);have HQK:Hid (q.it.Ok):=by rw[hq];exact a1z
 have HQ:=Hd hq;have d0:w7.cell? ⟨lb,lo,none⟩=some (.int .i64 1):=by have h:=ug.o.row 0 (.int .i64 q.it.i) rfl;rw[hq]at h;exact h
 have d14:w7.cell? ⟨lb,lo+14,none⟩=some (.int .i64 128):=by have h:=ug.o.row 14 (.int .i64 (q.it.o:Nat)) rfl;rw[hq]at h;exact h
 have di:=ug.o.inside;clear hrow hqs hmap hb7 hq hc EC;simp only[List.length_cons,List.length_nil,Nat.zero_add];have FO:Hid (∀W,bz w7 W->Ns W lb lo q):=fun W hb=>ug.o.below hb
 have FD:Hid (∀W,bz w7 W->W.cell? ⟨lb,lo,none⟩=some (.int .i64 1)∧W.cell? ⟨lb,lo+14,none⟩=some (.int .i64 128)∧lb<W.heap.size):=fun W hb=>⟨(hb.cell (p:=⟨lb,lo,none⟩) di).trans d0,(hb.cell (p:=⟨lb,lo+14,none⟩) di).trans d14,(FO.o W hb).inside⟩
 have a6J:Hid (∀W,bz w7 W->Calls prog 15 #[.agg q.cs.toArray,.int .i64 1,.int .i64 0] W (aJ (.bool true) W)):=fun W hb=>by
  have h:=oz q 1 0 W (FO.o W hb).at_ HQK.o (by decide) (by decide);rw[show q.it.covers 1 0=true from by rw[HQ.o];exact qZ.1]at h;exact h
 have a6H:Hid (∀W,bz w7 W->Calls prog 15 #[.agg q.cs.toArray,.int .i64 2,.int .i64 0] W (aJ (.bool true) W)):=fun W hb=>by
  have h:=oz q 2 0 W (FO.o W hb).at_ HQK.o (by decide) (by decide);rw[show q.it.covers 2 0=true from by rw[HQ.o];exact qZ.2.1]at h;exact h
 have a6K:Hid (∀W,bz w7 W->Calls prog 15 #[.agg q.cs.toArray,.int .i64 0,.int .i64 0] W (aJ (.bool false) W)):=fun W hb=>by
  have h:=oz q 0 0 W (FO.o W hb).at_ HQK.o (by decide) (by decide);rw[show q.it.covers 0 0=false from by rw[HQ.o];exact qZ.2.2.1]at h;exact h
 have a6I:Hid (∀W,bz w7 W->Calls prog 15 #[.agg q.cs.toArray,.int .i64 1,.int .i64 1] W (aJ (.bool false) W)):=fun W hb=>by
  have h:=oz q 1 1 W (FO.o W hb).at_ HQK.o (by decide) (by decide);rw[show q.it.covers 1 1=false from by rw[HQ.o];exact qZ.2.2.2.1]at h;exact h
 have a6M:Hid (∀W,bz w7 W->Calls prog 13 #[.agg q.cs.toArray,.int .i64 2,.int .i64 0] W (aJ (.int .u32 128) W)):=fun W hb=>by
  have h:=AP q 2 0 W (FO.o W hb).at_ HQK.o (by decide) (by decide);rw[show q.it.at_ 2 0=128 from by rw[HQ.o];exact qZ.2.2.2.2.1]at h;exact h
 have a6L:Hid (∀W,bz w7 W->Calls prog 13 #[.agg q.cs.toArray,.int .i64 3,.int .i64 0] W (aJ (.int .u32 0) W)):=fun W hb=>by
  have h:=AP q 3 0 W (FO.o W hb).at_ HQK.o (by decide) (by decide);rw[show q.it.at_ 3 0=0 from by rw[HQ.o];exact qZ.2.2.2.2.2]at h;exact h
 have FE:Hid (∀W,bz w7 W->Calls prog 21 #[.agg q.cs.toArray,.agg q.cs.toArray] W (aJ (.bool true) W)):=fun W hb=>I9 q.it q.Ac q.cc q.A q.c q.Ac q.cc q.A q.c (by rw[HQ.o];decide) (by rw[HQ.o];decide) W (FO.o W hb).at_ (FO.o W hb).at_;have FT:Hid (∀W,Calls prog 11 #[.int .i64 1,.int .i64 0] W (aJ (.agg #[.int .i64 98304,.int .i64 32768]) W)):=fun W=>pg 1 0 W (by constructor<;>decide) (by constructor<;>decide);clear d0 d14 di ug HQK HQ
 go_upto_region 6 with(fail)
 simp only[List.append]
 refine Kt [25,26,27,28,29,30,31,32,33,34,35,36,37,38,39,40,41,42,43,44,45,46,47,48,49,50,51,52,53,54,55,56,57,58,59,60,61,62,63,64,65,66,67,68,69,70,71,72,73,74,75,76,77,78,79,80,81,82,83,84,85,86,87,88,89,90,91,92,93,94,95,0] (fun i=>match i with
  |0|4|11|18|24|30|37|44|51|58|61=>rV (.slice (some ⟨lb,lo,none⟩) 1 c)
  |1|7=>rV (.int .i64 1)
  |2|3|8|9|10|15|16|17|21|22|23|27|28|29|34|35|36|41|42|43|48|49|50|55|56|57|64|65|66|69|70|71=>rT
  |5|6|12|19|25|31|38|45|52|59|62=>rV (.pointer (some ⟨lb,lo,none⟩))
  |13=>rV (.pointer (some ⟨lb,(lo+14),none⟩))
  |14=>rV (.int .i64 128)
  |20|26|32|39|46|53|60|63=>rV (.agg (q.cs).toArray)
  |33|40=>rV (.bool false)
  |47=>rV (.int .u32 128)
  |54=>rV (.int .u32 0)
  |67|68=>rV (.agg ([.int .i64 98304,.int .i64 32768]).toArray)
  |_=>ra) ⟨?_,?_,?_,?_,?_,?_,?_,?_,?_,?_,?_,?_,?_,?_,?_,?_,?_,?_,?_,?_,?_,?_,?_,?_,?_,?_,?_,?_,?_,?_,?_,?_,?_,?_,?_,?_,?_,?_,?_,?_,?_,?_,?_,?_,?_,?_,?_,?_,?_,?_,?_,?_,?_,?_,?_,?_,?_,?_,?_,?_,?_,?_,?_,?_,?_,?_,?_,?_,?_,?_,?_,?_,trivial⟩ ?_
 any_goals (first|refine zp fun L a w1 hh=>?_|fail)
 any_goals (first|refine sy rfl rfl fun L a w1 hh=>?_|fail)
 have h3:=hh.o 3 (v:=.slice (some ⟨lb,lo,none⟩) 1 c) rfl;rotate_left;have xq:=rq (hh.d 0 25);rotate_left;have CJ:=rq (hh.d 1 26);rotate_left;have h27:=rq (hh.d 2 27);rotate_left;have h3:=hh.o 3 (v:=.slice (some ⟨lb,lo,none⟩) 1 c) rfl;rotate_left;have yw:=rq (hh.d 4 29);have li:=(FD.o _ hh.rel).2.2;rotate_left;have h30:=rq (hh.d 5 30);have li:=(FD.o _ hh.rel).2.2;rotate_left
 ·have h31:=rq (hh.d 6 31);obtain⟨c0,-,li⟩:=FD.o _ hh.rel;clear hh;go_simp;exact⟨_,rfl,rB,rfl,trivial⟩
 have h32:=rq (hh.d 7 32);rotate_left;have h28:=rq (hh.d 3 28);have OM:=rq (hh.d 8 33);rotate_left;have TB:=rq (hh.d 9 34);rotate_left;have h3:=hh.o 3 (v:=.slice (some ⟨lb,lo,none⟩) 1 c) rfl;rotate_left;have TA:=rq (hh.d 11 36);have li:=(FD.o _ hh.rel).2.2;rotate_left;have h37:=rq (hh.d 12 37);have li:=(FD.o _ hh.rel).2.2;rotate_left
 ·have h38:=rq (hh.d 13 38);obtain⟨-,c0,li⟩:=FD.o _ hh.rel;clear hh;go_simp;exact⟨_,rfl,rB,rfl,trivial⟩
 have Tz:=rq (hh.d 14 39);rotate_left;have h35:=rq (hh.d 10 35);have Tv:=rq (hh.d 15 40);rotate_left;have Tu:=rq (hh.d 16 41);rotate_left;have h3:=hh.o 3 (v:=.slice (some ⟨lb,lo,none⟩) 1 c) rfl;rotate_left;have h43:=rq (hh.d 18 43);have li:=(FD.o _ hh.rel).2.2;rotate_left
 ·have FN:=rq (hh.d 19 44);have uY:=(FO.o _ hh.rel).row;have hJ:=Hd hh.st;exact wp_load_mid 51 _ rfl lb lo (by simpa[go_sem]using FN) q.cs _ uY underlying51 rfl af ⟨_,rfl,rB,rfl,hJ.o⟩
 ·have h45:=rq (hh.d 20 45);have hC:=Hd (a6J.o _ hh.rel);have hJ:=hh.j;clear hh;go_simp;refine hC.o.mono ?_;rintro e w9 ⟨rfl,aS⟩;exact⟨_,rfl,aS,rfl,hJ.o⟩
 have h42:=rq (hh.d 17 42);have h46:=rq (hh.d 21 46);rotate_left;have h47:=rq (hh.d 22 47);rotate_left;have h3:=hh.o 3 (v:=.slice (some ⟨lb,lo,none⟩) 1 c) rfl;rotate_left;have h49:=rq (hh.d 24 49);have li:=(FD.o _ hh.rel).2.2;rotate_left
 ·have h50:=rq (hh.d 25 50);have uY:=(FO.o _ hh.rel).row;have hJ:=Hd hh.st;exact wp_load_mid 51 _ rfl lb lo (by simpa[go_sem]using h50) q.cs _ uY underlying51 rfl af ⟨_,rfl,rB,rfl,hJ.o⟩
 ·have h51:=rq (hh.d 26 51);have hC:=Hd (a6H.o _ hh.rel);have hJ:=hh.j;clear hh;go_simp;refine hC.o.mono ?_;rintro e w9 ⟨rfl,aS⟩;exact⟨_,rfl,aS,rfl,hJ.o⟩
 have h48:=rq (hh.d 23 48);have h52:=rq (hh.d 27 52);rotate_left;have h53:=rq (hh.d 28 53);rotate_left;have h3:=hh.o 3 (v:=.slice (some ⟨lb,lo,none⟩) 1 c) rfl;rotate_left;have h55:=rq (hh.d 30 55);have li:=(FD.o _ hh.rel).2.2;rotate_left
 ·have h56:=rq (hh.d 31 56);have uY:=(FO.o _ hh.rel).row;have hJ:=Hd hh.st;exact wp_load_mid 51 _ rfl lb lo (by simpa[go_sem]using h56) q.cs _ uY underlying51 rfl af ⟨_,rfl,rB,rfl,hJ.o⟩
 ·have h57:=rq (hh.d 32 57);have hC:=Hd (a6K.o _ hh.rel);have hJ:=hh.j;clear hh;go_simp;refine hC.o.mono ?_;rintro e w9 ⟨rfl,aS⟩;exact⟨_,rfl,aS,rfl,hJ.o⟩
 have h58:=rq (hh.d 33 58);rotate_left;have h54:=rq (hh.d 29 54);have h59:=rq (hh.d 34 59);rotate_left;have h60:=rq (hh.d 35 60);rotate_left;have h3:=hh.o 3 (v:=.slice (some ⟨lb,lo,none⟩) 1 c) rfl;rotate_left;have h62:=rq (hh.d 37 62);have li:=(FD.o _ hh.rel).2.2;rotate_left
 ·have h63:=rq (hh.d 38 63);have uY:=(FO.o _ hh.rel).row;have hJ:=Hd hh.st;exact wp_load_mid 51 _ rfl lb lo (by simpa[go_sem]using h63) q.cs _ uY underlying51 rfl af ⟨_,rfl,rB,rfl,hJ.o⟩
 ·have h64:=rq (hh.d 39 64);have hC:=Hd (a6I.o _ hh.rel);have hJ:=hh.j;clear hh;go_simp;refine hC.o.mono ?_;rintro e w9 ⟨rfl,aS⟩;exact⟨_,rfl,aS,rfl,hJ.o⟩
 have h65:=rq (hh.d 40 65);rotate_left;have h61:=rq (hh.d 36 61);have h66:=rq (hh.d 41 66);rotate_left;have h67:=rq (hh.d 42 67);rotate_left;have h3:=hh.o 3 (v:=.slice (some ⟨lb,lo,none⟩) 1 c) rfl;rotate_left;have h69:=rq (hh.d 44 69);have li:=(FD.o _ hh.rel).2.2;rotate_left
 ·have h70:=rq (hh.d 45 70);have uY:=(FO.o _ hh.rel).row;have hJ:=Hd hh.st;exact wp_load_mid 51 _ rfl lb lo (by simpa[go_sem]using h70) q.cs _ uY underlying51 rfl af ⟨_,rfl,rB,rfl,hJ.o⟩
 ·have h71:=rq (hh.d 46 71);have hC:=Hd (a6M.o _ hh.rel);have hJ:=hh.j;clear hh;go_simp;refine hC.o.mono ?_;rintro e w9 ⟨rfl,aS⟩;exact⟨_,rfl,aS,rfl,hJ.o⟩
 have h72:=rq (hh.d 47 72);rotate_left;have h68:=rq (hh.d 43 68);have h73:=rq (hh.d 48 73);rotate_left;have h74:=rq (hh.d 49 74);rotate_left;have h3:=hh.o 3 (v:=.slice (some ⟨lb,lo,none⟩) 1 c) rfl;rotate_left;have h76:=rq (hh.d 51 76);have li:=(FD.o _ hh.rel).2.2;rotate_left
 ·have h77:=rq (hh.d 52 77);have uY:=(FO.o _ hh.rel).row;have hJ:=Hd hh.st;exact wp_load_mid 51 _ rfl lb lo (by simpa[go_sem]using h77) q.cs _ uY underlying51 rfl af ⟨_,rfl,rB,rfl,hJ.o⟩
 ·have h78:=rq (hh.d 53 78);have hC:=Hd (a6L.o _ hh.rel);have hJ:=hh.j;clear hh;go_simp;refine hC.o.mono ?_;rintro e w9 ⟨rfl,aS⟩;exact⟨_,rfl,aS,rfl,hJ.o⟩
 have h79:=rq (hh.d 54 79);rotate_left;have h75:=rq (hh.d 50 75);have h80:=rq (hh.d 55 80);rotate_left;have h81:=rq (hh.d 56 81);rotate_left;have h3:=hh.o 3 (v:=.slice (some ⟨lb,lo,none⟩) 1 c) rfl;rotate_left;have h83:=rq (hh.d 58 83);have li:=(FD.o _ hh.rel).2.2;rotate_left
 ·have h84:=rq (hh.d 59 84);have uY:=(FO.o _ hh.rel).row;have hJ:=Hd hh.st;exact wp_load_mid 51 _ rfl lb lo (by simpa[go_sem]using h84) q.cs _ uY underlying51 rfl af ⟨_,rfl,rB,rfl,hJ.o⟩
 have h3:=hh.o 3 (v:=.slice (some ⟨lb,lo,none⟩) 1 c) rfl;rotate_left;have h86:=rq (hh.d 61 86);have li:=(FD.o _ hh.rel).2.2;rotate_left
 ·have h87:=rq (hh.d 62 87);have uY:=(FO.o _ hh.rel).row;have hJ:=Hd hh.st;exact wp_load_mid 51 _ rfl lb lo (by simpa[go_sem]using h87) q.cs _ uY underlying51 rfl af ⟨_,rfl,rB,rfl,hJ.o⟩
 ·have h85:=rq (hh.d 60 85);have h88:=rq (hh.d 63 88);have hC:=Hd (FE.o _ hh.rel);have hJ:=hh.j;clear hh;go_simp;refine hC.o.mono ?_;rintro e w9 ⟨rfl,aS⟩;exact⟨_,rfl,aS,rfl,hJ.o⟩
 have h82:=rq (hh.d 57 82);have h89:=rq (hh.d 64 89);rotate_left;have h90:=rq (hh.d 65 90);rotate_left
 ·have hC:=Hd (FT.o w1);have hJ:=hh.j;clear hh;go_simp;refine hC.o.mono ?_;rintro e w9 ⟨rfl,aS⟩;exact⟨_,rfl,aS,rfl,hJ.o⟩
 ·have hJ:=Hd hh.st;exact wp_build _ _ rfl (by simp[go_sem]) (WU ⟨98304,32768⟩ w1) ⟨_,rfl,rB,rfl,hJ.o⟩
 have h92:=rq (hh.d 67 92);have h93:=rq (hh.d 68 93);rotate_left;have h91:=rq (hh.d 66 91);have h94:=rq (hh.d 69 94);rotate_left;have h95:=rq (hh.d 70 95);rotate_left
 any_goals (clear hh;go_simp;exact⟨_,rfl,rB,rfl,trivial⟩)
 intro L w8 val hL hJ hR hv;have h0:val 0=.bool true:=hv 71 0 af;have HR8:=Hd hR;clear hv hL hJ hR;simp only[regs.aC,List.map_cons,List.map_nil,h0];simp only[Act.put,List.setIfInBounds_toArray,List.set_cons_zero,List.set_cons_succ];clear h0
 skip
 go_wp2_with (fail);go_ret;exact⟨rfl,tY.o.trans (Below.mono HR8.o tY.o.size)⟩
end
end
section
open Go.RowKit
theorem a00(n:Int):(n.tmod 65536<0->n / 65536=n.tdiv 65536 - 1∧n % 65536=n.tmod 65536+65536)∧(0<=n.tmod 65536->n / 65536=n.tdiv 65536∧n % 65536=n.tmod 65536)∧(-65536<n.tmod 65536∧n.tmod 65536<65536):=by
 have g1:=Int.emod_nonneg n (show(65536:Int)≠0 by omega);have g2:=Int.emod_lt_of_pos n (show(0:Int)<65536 by omega);have g3:=Int.tdiv_eq_ediv (a:=n) (b:=65536);have g4:=Int.tmod_eq_emod (a:=n) (b:=65536);have hs:(65536:Int).sign=1:=rfl;have hn:((65536:Int).natAbs:Int)=65536:=rfl;rw[hs]at g3
 have hdv:(65536 ∣ n)↔n % 65536=0:=⟨Int.emod_eq_zero_of_dvd,Int.dvd_of_emod_eq_zero⟩
 by_cases h:0<=n∨(65536:Int) ∣ n
 ·rw[if_pos h]at g3 g4;omega
 ·rw[if_neg h]at g3 g4;rw[hn]at g4;rw[hdv]at h;omega
theorem Bv(n:Int)(w:World)(h1:-9223372036854710272<=n)(h2:n<=9223372036854710272) :
  Calls prog 78 #[.int .i64 n,.int .i64 65536] w fun e w'=>e=.returned (.int .i64 (n / 65536))∧w=w':=by
 obtain⟨a5,a6,a3,a4⟩:=a00 n;have hmul:n.tdiv 65536*65536+n.tmod 65536=n:=by rw[Int.mul_comm];exact Int.mul_tdiv_add_tmod n 65536
 by_cases hn:n.tmod 65536<0
 ·have HF:=Hd (a5 hn).1
  obtain⟨Q,hQ⟩:=aB (n.tdiv 65536)
  rw[hQ]at HF hmul;have b1:-140737488355329<=Q∧Q<=140737488355329:=by omega
  obtain⟨M,hM⟩:=aB (Q*65536)
  have hM2:(Q - 1)*65536=M - 65536:=by omega
  rw[hM]at hmul;have q3:wrap64 Q=Q:=IntWalk.wrap64_in _ (by omega);have q4:wrap64 M=M:=IntWalk.wrap64_in _ (by omega);have q5:wrap64 (Q - 1)=Q - 1:=IntWalk.wrap64_in _ (by omega);have q6:wrap64 (M - 65536)=M - 65536:=IntWalk.wrap64_in _ (by omega);have t1:decide (n<M)=true:=by simp;omega
  have t2:decide (n<M - 65536)=false:=by simp;omega
  obtain⟨b1,b2⟩:=b1;have b3:-9223372036854775808<=M∧M<=9223372036854775807:=by omega
  obtain⟨b3,b4⟩:=b3;clear a3 a4 a5 a6 hmul hn h1 h2;go_enter func78,ntmps78;go_wp2_with (fail)
  go_loop [5] (fun q=>q=.int .i64 Q∨q=.int .i64 (Q - 1)) (fun q=>(intOf q - (Q - 1)).toNat)
  case atStart=>exact .inl rfl
  case round=>
   rcases hrel with rfl|rfl
   ·go_wp2_with (fail)
    go_round
    case rel=>exact .inr rfl
    case measure=>simp[intOf];omega
   ·go_wp2_with (fail);go_ret;exact⟨aA HF.o.symm,rfl⟩
 ·have HF:=Hd (a6 (by omega)).1
  obtain⟨Q,hQ⟩:=aB (n.tdiv 65536)
  rw[hQ]at HF hmul;have b1:-140737488355329<=Q∧Q<=140737488355329:=by omega
  obtain⟨M,hM⟩:=aB (Q*65536)
  rw[hM]at hmul;have q3:wrap64 Q=Q:=IntWalk.wrap64_in _ (by omega);have q4:wrap64 M=M:=IntWalk.wrap64_in _ (by omega);have t1:decide (n<M)=false:=by simp;omega
  obtain⟨b1,b2⟩:=b1;have b3:-9223372036854775808<=M∧M<=9223372036854775807:=by omega
  obtain⟨b3,b4⟩:=b3;clear a3 a4 a5 a6 hmul hn h1 h2;go_enter func78,ntmps78;go_wp2_with (fail)
  go_loop [5] (fun q=>q=.int .i64 Q) (fun q=>0)
  case atStart=>rfl
  case round=>
   obtain rfl:=hrel;go_wp2_with (fail);go_ret;exact⟨aA HF.o.symm,rfl⟩
theorem Jj(n:Int)(w:World)(h1:-9223372036854710272<=n)(h2:n<=9223372036854710272) :
  Calls prog 99 #[.int .i64 n,.int .i64 65536] w (aJ (.int .i64 (lQ n 65536)) w):=by
 have HR:Hid (lQ n 65536=if 65536 - n % 65536<=n % 65536 then n / 65536+1 else n / 65536):=rfl;have HD:=Hd (Bv n w h1 h2);have g1:=Int.emod_nonneg n (show(65536:Int)≠0 by omega);have g2:=Int.emod_lt_of_pos n (show(0:Int)<65536 by omega);have g3:-140737488355329<=n / 65536∧n / 65536<=140737488355329:=by omega
 have hm:n - n / 65536*65536=n % 65536:=by omega
 generalize n / 65536=Q at*;generalize n % 65536=R at*
 obtain⟨M,hM⟩:=aB (Q*65536)
 rw[hM]at hm;have q4:wrap64 M=M:=IntWalk.wrap64_in _ (by omega);have q5:wrap64 (n - M)=R:=by rw[hm];exact IntWalk.wrap64_in _ (by omega)
 have q5':n - M=R:=hm;have q6:wrap64 (65536 - R)=65536 - R:=IntWalk.wrap64_in _ (by omega);obtain⟨g3,g4⟩:=g3;have b3:-9223372036854775808<=M∧M<=9223372036854775807:=by omega
 obtain⟨b3,b4⟩:=b3;clear hm h1 h2;go_enter func99,ntmps99;go_wp2_with (fail);refine HD.o.mono ?_;rintro e w' ⟨rfl,rfl⟩;by_cases t:65536 - R<=R
 ·have t1:decide (65536 - R<=R)=true:=by simpa using t
  rw[if_pos t]at HR;clear t;go_wp2_with (fail);go_ret;exact⟨aA HR.o.symm,bR⟩
 ·have t1:decide (65536 - R<=R)=false:=by simpa using t
  rw[if_neg t]at HR;clear t;go_wp2_with (fail);go_ret;exact⟨aA HR.o.symm,bR⟩
theorem UX(b:Mp)(p:Pt)(w:World)(h:kX b p):Calls prog 77 #[b.v,.int .i64 p.x,.int .i64 p.y] w (aJ (.tuple #[.int .i64 (b.from_ p).x,.int .i64 (b.from_ p).y]) w):=by
 obtain⟨hr,hx,hy⟩:=h;obtain⟨ra,rb,rc,rd,re,rf⟩:=qj hr;clear hr;obtain⟨ka,kb,kc,kd,ke,kf⟩:=b;obtain⟨px,py⟩:=p;unfold Mp.from_;simp only at ra rb rc rd re rf hx hy ⊢
 obtain⟨U,hU⟩:=aB (px - ke)
 obtain⟨V,hV⟩:=aB (py - kf)
 rw[hU,hV];have bu:-3221225472<=U∧U<=3221225472:=by omega
 have bv:-3221225472<=V∧V<=3221225472:=by omega
 have p1:=gG ra.1 ra.2 bu.1 bu.2;have p2:=gG rc.1 rc.2 bv.1 bv.2;have p3:=gG rb.1 rb.2 bu.1 bu.2;have p4:=gG rd.1 rd.2 bv.1 bv.2;have u1:wrap64 U=U:=IntWalk.wrap64_in _ (by omega);have u2:wrap64 V=V:=IntWalk.wrap64_in _ (by omega);have u3:IntKind.i64.wrap U=U:=IntWalk.i64_in _ (by omega);have u4:IntKind.i64.wrap V=V:=IntWalk.i64_in _ (by omega)
 obtain⟨P1,hP1⟩:∃P,ka*U=P:=⟨_,rfl⟩
 obtain⟨P2,hP2⟩:∃P,kc*V=P:=⟨_,rfl⟩
 obtain⟨P3,hP3⟩:∃P,kb*U=P:=⟨_,rfl⟩
 obtain⟨P4,hP4⟩:∃P,kd*V=P:=⟨_,rfl⟩
 rw[hP1]at p1;rw[hP2]at p2;rw[hP3]at p3;rw[hP4]at p4;rw[hP1,hP2,hP3,hP4]
 obtain⟨S1,hS1⟩:∃S,P1+P2=S:=⟨_,rfl⟩
 obtain⟨S2,hS2⟩:∃S,P3+P4=S:=⟨_,rfl⟩
 rw[hS1,hS2];have s1:-6917529027641081856<=S1∧S1<=6917529027641081856:=by omega
 have s2:-6917529027641081856<=S2∧S2<=6917529027641081856:=by omega
 have v1:IntKind.i64.wrap P1=P1:=IntWalk.i64_in _ (by omega);have v2:IntKind.i64.wrap P2=P2:=IntWalk.i64_in _ (by omega);have v3:IntKind.i64.wrap P3=P3:=IntWalk.i64_in _ (by omega);have v4:IntKind.i64.wrap P4=P4:=IntWalk.i64_in _ (by omega);have v5:IntKind.i64.wrap S1=S1:=IntWalk.i64_in _ (by omega);have v6:IntKind.i64.wrap S2=S2:=IntWalk.i64_in _ (by omega);have HW1:=Hd (fun w=>Jj S1 w (by omega) (by omega));have HW2:=Hd (fun w=>Jj S2 w (by omega) (by omega));generalize lQ S1 65536=z1 at*;generalize lQ S2 65536=z2 at*;have HU:=Hd (And.intro u1 (And.intro u2 (And.intro hU hV)))
 clear ra rb rc rd re rf hx hy bu bv p1 p2 p3 p4 s1 s2;unfold Mp.v;simp only;go_enter func77,ntmps77;go_wp2_with (fail)
 go_quiet (fail)
 clear hU hV u1 u2 u3 u4;have HB:Hid (bz w ((w.alloc (.cells (Vh ka kb kc kd ke kf).toArray 54)).drewN nq)):=Below.drewN' (bR.alloc nR _) _
 have bm:Hid (lu [(w.heap.size,(Vh ka kb kc kd ke kf))] ((w.alloc (.cells (Vh ka kb kc kd ke kf).toArray 54)).drewN nq)):=⟨(az w (Vh ka kb kc kd ke kf) _).drewN _,trivial⟩
 generalize ((w.alloc (.cells (Vh ka kb kc kd ke kf).toArray 54)).drewN nq)=W1 at*;clear HU;go_wp2_with (fail)
 refine wR (regs.bl) (fun _ wx=>lu [(w.heap.size,(Vh ka kb kc kd ke kf))] wx) [18,19,20,21,22,23,24,25,26,27,28,29,30,31,32,33,34,35,36,37,6,7] (fun _=>regs.vJ _) (regs.vI) (fun i=>match i with
  |0=>rp w.heap.size 0
  |1=>rV (.int .i64 ka)
  |2|12=>rV (.int .i64 U)
  |3=>rV (.int .i64 P1)
  |4=>rp w.heap.size 2
  |5=>rV (.int .i64 kc)
  |6|16=>rV (.int .i64 V)
  |7=>rV (.int .i64 P2)
  |8=>rV (.int .i64 S1)
  |9|20=>rV (.int .i64 z1)
  |10=>rp w.heap.size 1
  |11=>rV (.int .i64 kb)
  |13=>rV (.int .i64 P3)
  |14=>rp w.heap.size 3
  |15=>rV (.int .i64 kd)
  |17=>rV (.int .i64 P4)
  |18=>rV (.int .i64 S2)
  |19|21=>rV (.int .i64 z2)
  |_=>ra) (bR.drew) (bm.o) ⟨?_,?_,?_,?_,?_,?_,?_,?_,?_,?_,?_,?_,?_,?_,?_,?_,?_,?_,?_,?_,?_,?_,trivial⟩ ?_
 any_goals (first|refine zp fun L a w1 hh=>?_|fail)
 have h3:=hh.p 3 w.heap.size 0;rotate_left
 ·have h18:=rq (hh.d 0 18);obtain⟨⟨c0,c1,c2,c3,c4,c5⟩,-,ci⟩:=(hh.st.1).c6;have hJ:=hh.j;clear hh;go_simp;exact⟨_,rfl,rB,rfl,hJ.o⟩
 have h8:=hh.o 8 (v:=.int .i64 U) rfl;rotate_left;have h19:=rq (hh.d 1 19);have h20:=rq (hh.d 2 20);rotate_left;have h3:=hh.p 3 w.heap.size 0;rotate_left
 ·have h22:=rq (hh.d 4 22);obtain⟨⟨c0,c1,c2,c3,c4,c5⟩,-,ci⟩:=(hh.st.1).c6;have hJ:=hh.j;clear hh;go_simp;exact⟨_,rfl,rB,rfl,hJ.o⟩
 have h9:=hh.o 9 (v:=.int .i64 V) rfl;rotate_left;have h23:=rq (hh.d 5 23);have tq:=rq (hh.d 6 24);rotate_left;have h21:=rq (hh.d 3 21);have xq:=rq (hh.d 7 25);rotate_left
 ·have CJ:=rq (hh.d 8 26);have:=True.intro;have hJ:=hh.j;clear hh;go_simp;refine(HW1.o w1).mono ?_;rintro e w9 ⟨rfl,aS⟩;exact⟨_,rfl,aS,rfl,lu.below hJ.o aS⟩
 have h3:=hh.p 3 w.heap.size 0;rotate_left
 ·have h28:=rq (hh.d 10 28);obtain⟨⟨c0,c1,c2,c3,c4,c5⟩,-,ci⟩:=(hh.st.1).c6;have hJ:=hh.j;clear hh;go_simp;exact⟨_,rfl,rB,rfl,hJ.o⟩
 have h8:=hh.o 8 (v:=.int .i64 U) rfl;rotate_left;have yw:=rq (hh.d 11 29);have h30:=rq (hh.d 12 30);rotate_left;have h3:=hh.p 3 w.heap.size 0;rotate_left
 ·have h32:=rq (hh.d 14 32);obtain⟨⟨c0,c1,c2,c3,c4,c5⟩,-,ci⟩:=(hh.st.1).c6;have hJ:=hh.j;clear hh;go_simp;exact⟨_,rfl,rB,rfl,hJ.o⟩
 have h9:=hh.o 9 (v:=.int .i64 V) rfl;rotate_left;have OM:=rq (hh.d 15 33);have TB:=rq (hh.d 16 34);rotate_left;have h31:=rq (hh.d 13 31);have h35:=rq (hh.d 17 35);rotate_left
 ·have TA:=rq (hh.d 18 36);have:=True.intro;have hJ:=hh.j;clear hh;go_simp;refine(HW2.o w1).mono ?_;rintro e w9 ⟨rfl,aS⟩;exact⟨_,rfl,aS,rfl,lu.below hJ.o aS⟩
 have h27:=rq (hh.d 9 27);rotate_left;have h37:=rq (hh.d 19 37);rotate_left
 any_goals (have hJ:=hh.j;clear hh;go_simp;exact⟨_,rfl,rB,rfl,hJ.o⟩)
 intro L w2 val hL hJ hR hv;have h6:val 6=.int .i64 z1:=hv 20 6 af;have h7:val 7=.int .i64 z2:=hv 21 7 af;have bQ:=Hd hJ;have HR2:=Hd hR;clear hv hL hJ hR;simp only[regs.aC,List.map_cons,List.map_nil];rw[h6,h7];generalize val 18=v18;generalize val 19=v19;generalize val 20=v20;generalize val 21=v21;generalize val 22=v22;generalize val 23=v23;generalize val 24=v24;generalize val 25=v25;generalize val 26=v26;generalize val 27=v27;generalize val 28=v28;generalize val 29=v29;generalize val 30=v30;generalize val 31=v31;generalize val 32=v32;generalize val 33=v33
 generalize val 34=v34;generalize val 35=v35;generalize val 36=v36;generalize val 37=v37;simp only[Act.put,List.setIfInBounds_toArray,List.set_cons_zero,List.set_cons_succ];clear h6 h7;have B2:=Hd (HB.o.trans (HR2.o.mono HB.o.size));clear HB HR2 bQ;go_wp2_with (fail);go_ret2;exact⟨rfl,B2.o⟩
end
section
open Go.RowKit
def yH(Z:List Int)(t:List Value)(k:Nat):List Value:=(Z.take k).map eI++(List.replicate (Z.length - k) (eI 0)++t)
theorem Qs(Z:List Int)(t:List Value){k:Nat}(hk:k<Z.length):(yH Z t k).set k (eI Z[k])=yH Z t (k+1):=by
 unfold yH;have e:Z.length - k=(Z.length - (k+1))+1:=by omega
 rw[List.take_succ_eq_append_getElem hk,List.map_append,e,List.replicate_succ,List.set_append,if_neg (by simp[Nat.min_eq_left (Nat.le_of_lt hk)])];simp[Nat.min_eq_left (Nat.le_of_lt hk)]
theorem YH(Z:List Int)(t:List Value){k:Nat}(hk:k<Z.length):(yH Z t k)[k]?=some (.int .i64 0):=by
 unfold yH;rw[List.getElem?_append_right (by simp[Nat.min_eq_left (Nat.le_of_lt hk)]),List.getElem?_append_left (by simp[Nat.min_eq_left (Nat.le_of_lt hk)];omega)];simp only[List.length_map,List.length_take,Nat.min_eq_left (Nat.le_of_lt hk),Nat.sub_self,List.getElem?_replicate];rw[if_pos (by omega)];rfl
theorem UI(Z:List Int)(t:List Value){k:Nat}(hk:k<Z.length):(yH Z t (k+1))[k]?=some (.int .i64 Z[k]):=by
 unfold yH;rw[List.getElem?_append_left (by simp;omega),List.getElem?_map,List.getElem?_take_of_lt (Nat.lt_succ_self _),List.getElem?_eq_getElem hk];rfl
def Mp.l4b(m:Mp):List Int:=[m.d,-m.b,-m.c,m.a]
theorem a3W(m:Mp):m.bk.l4=m.l4b.map fun x=>Af x m.GV:=rfl
theorem a1i(m:Mp)(w:World)(hr:m.right=true):Calls prog 68 #[m.v] w (aJ (.tuple #[m.back.1.v,.int .i64 m.back.2]) w):=by
 have vU:Hid (m.back=if m.GV=0 then (Mp.o,43) else if dK m.bk.l4=true then (m.bk,0) else (Mp.o,35)):=by
  show _=_;unfold Mp.back;rw[if_neg (by rw[hr];decide)]
 obtain⟨ra,rb,rc,rd,re,rf⟩:=qj hr
 obtain⟨R,hR⟩:=aB m.back
 rw[hR]at vU ⊢;clear hR hr;obtain⟨RM,RE⟩:=R;have J9:Hid (m.GV=m.a*m.d - m.b*m.c):=rfl
 obtain⟨Z,hZ⟩:=aB m.bk.l4
 obtain⟨L4,hL4⟩:∃L,m.l4b=L:=⟨_,rfl⟩
 have HLZ:Hid (L4.length=4∧Z.length=4):=by rw[←hZ,←hL4];exact⟨rfl,rfl⟩
 have HZ4:Hid (∀k (h:k<Z.length) (h':k<L4.length),Z[k]=Af L4[k] m.GV):=by
  intro k h h';subst hZ;subst hL4;simp[a3W]
 have a2k:Hid (∀x∈L4,-1073741824<=x∧x<=1073741824):=by
  intro x hx;rw[←hL4]at hx;simp only[Mp.l4b,List.mem_cons,List.not_mem_nil,or_false]at hx;rcases hx with rfl|rfl|rfl|rfl<;>omega
 have PK:Hid (yH Z [.int .i64 m.e,.int .i64 m.f] 4=m.bk.cs):=by rw[←hZ];rfl
 have PM:Hid (yH Z [.int .i64 m.e,.int .i64 m.f] 0=[.int .i64 0,.int .i64 0,.int .i64 0,.int .i64 0,.int .i64 m.e,.int .i64 m.f]):=by rw[←hZ];rfl
 have nT:Hid (L4.map eI=(Vl m.d (-m.b) (-m.c) m.a)):=by rw[←hL4];rfl
 rw[hZ]at vU;clear hZ hL4;generalize m.GV=D at*;generalize m.bk=K at*;obtain⟨ka,kb,kc,kd,ke,kf⟩:=m;unfold Mp.v;simp only at ra rb rc rd re rf J9 PK PM nT ⊢;have Fp:=J9.o;obtain⟨x1,x2⟩:=nz ra.1 ra.2 rd.1 rd.2;obtain⟨y1,y2⟩:=nz rb.1 rb.2 rc.1 rc.2
 obtain⟨X,hX⟩:=aB (ka*kd)
 obtain⟨Y,hY⟩:=aB (kb*kc)
 rw[hX,hY]at Fp;rw[hX]at x1 x2;rw[hY]at y1 y2;have q3:X - Y=D:=Fp.symm;have um:Hid (-2305843009213693952<=D∧D<=2305843009213693952):=by rw[Fp];show _∧_;omega
 obtain⟨d1,d2⟩:=um.o;obtain⟨rb1,rb2⟩:=rb;obtain⟨rc1,rc2⟩:=rc
 obtain⟨NB,hNB⟩:∃x,-kb=x:=⟨_,rfl⟩
 obtain⟨NC,hNC⟩:∃x,-kc=x:=⟨_,rfl⟩
 rw[hNB,hNC]at nT;have nb1:-1073741824<=NB∧NB<=1073741824:=by omega
 have nc1:-1073741824<=NC∧NC<=1073741824:=by omega
 obtain⟨nb1,nb2⟩:=nb1;obtain⟨nc1,nc2⟩:=nc1;clear Fp J9 ra rd re rf;by_cases hD:D=0
 ·have t:(D==0)=true:=by simpa using hD
  have hT:=vU.o.trans (if_pos hD)
  injection hT with h1 h2
  subst h1;subst h2;clear hD vU um HLZ HZ4 a2k PK PM nT;go_enter func68,ntmps68;go_wp2_with (fail);exact aN rfl rfl rfl (aQ (w.alloc _) _ (by simp) Mp.o.cs _) underlying54 rfl af ⟨rfl,(bR.alloc nR _).alloc (by simp) _⟩
 ·have t:(D==0)=false:=by simpa using hD
  have Gz:=Hd (vU.o.trans (if_neg hD));have HD0:=Hd hD;clear hD vU;go_enter func68,ntmps68;go_wp2_with (fail)
  go_loopw [7] (fun i wr=>∃k:Nat,k<=4∧i=.int .i64 k∧Hid (dK (Z.take k)=true)∧Hid (bz w wr)∧Hid (ax wr w.heap.size (Vh ka kb kc kd ke kf))∧Hid (ax wr (w.heap.size+1) Mp.o.cs)∧Hid (ax wr (w.heap.size+1+1) (L4.map eI))∧Hid (ax wr (w.heap.size+1+1+1) (yH Z [.int .i64 ke,.int .i64 kf] k))) (fun i _=>4 - (intOf i).toNat)
  case atStart=>
   refine⟨0,Nat.zero_le _,rfl,by simp[Hid,dK],?_,?_,?_,?_,?_⟩
   ·show Below _ _ _;refine Below.alloc (Below.alloc (Below.alloc (bR.alloc nR _) ?_ _) ?_ _) ?_ _
    all_goals simp only[World.size_alloc]
    all_goals omega
   ·exact(((az w (Vh ka kb kc kd ke kf) _).alloc _).alloc _).alloc _
   ·exact((aQ (w.alloc _) _ (by simp) Mp.o.cs _).alloc _).alloc _
   ·rw[nT.o];exact(aQ _ _ (by simp) (Vl kd NB NC ka) _).alloc _
   ·rw[PM.o];exact aQ _ _ (by simp) [.int .i64 0,.int .i64 0,.int .i64 0,.int .i64 0,.int .i64 ke,.int .i64 kf] _
  case round=>
   obtain⟨k,hk,rfl,HK,HB,HM,HR,HL,HN⟩:=hrel;clear hX hY q3 x1 x2 y1 y2 hNB hNC rb1 rb2 rc1 rc2 nb1 nb2 nc1 nc2 PM nT;by_cases hlt:k<4
   ·have hkl:k<L4.length:=by rw[HLZ.o.1];exact hlt
    have hkz:k<Z.length:=by rw[HLZ.o.2];exact hlt
    have hc:=HL.o.at6 hkl;have H1:=Hd (rF HK.o hkz);have H0:=Hd (vN (l:=Z) hkz);have HS:=Hd (Qs Z [.int .i64 ke,.int .i64 kf] hkz);have a2L:=Hd (UI Z [.int .i64 ke,.int .i64 kf] hkz);have hz0:=(HN.o.cell k).trans (YH Z [.int .i64 ke,.int .i64 kf] hkz);have hzf:=HN.o.free k;obtain⟨b1,b2⟩:=a2k.o _ (List.getElem_mem hkl);rw[HZ4.o k hkz hkl]at H1 H0 HS a2L;generalize L4[k]=x at*
    obtain⟨N,hN⟩:=aB (x*4294967296)
    have n1:-4611686018427387904<=N∧N<=4611686018427387904:=by omega
    obtain⟨n1,n2⟩:=n1;have hl4:=HL.o.inside;have Y9:=HN.o.inside;clear HK hkl hkz;by_cases hneg:D<0
    ·clear t;have t2:decide (D<0)=true:=by simpa using hneg
     have HZ:Hid (Af x D=lQ (-N) (-D)):=by
      show _=_;unfold Af;rw[if_pos hneg,show -x*4294967296=-N by omega]
     have hd0:D≠0:=HD0.o;have GX:=Hd (fun w=>tu (-N) (-D) w (by omega) (by omega) (by omega) (by omega));rw[←HZ.o]at GX
     obtain⟨NN,hNN⟩:∃x,-N=x:=⟨_,rfl⟩
     obtain⟨DD,hDD⟩:∃x,-D=x:=⟨_,rfl⟩
     rw[hNN,hDD]at GX;have n3:-4611686018427387904<=NN∧NN<=4611686018427387904:=by omega
     have n4:-2305843009213693952<=DD∧DD<=2305843009213693952:=by omega
     obtain⟨n3,n5⟩:=n3;obtain⟨n4,n6⟩:=n4;clear hneg HZ hd0;generalize Af x D=z at*;go_wp2_with (fail);refine(GX.o _).mono ?_;rintro e2 w2 ⟨rfl,rfl⟩
     have bn:Hid (ax (wr.setCell ⟨w.heap.size+1+1+1,k,none⟩ (.int .i64 z)) (w.heap.size+1+1+1) (yH Z [.int .i64 ke,.int .i64 kf] (k+1))):=by
      show ax _ _ _;rw[←HS.o];exact HN.o.set k _
     have c0:(wr.setCell ⟨w.heap.size+1+1+1,k,none⟩ (.int .i64 z)).cell? ⟨w.heap.size+1+1+1,k,none⟩=some (.int .i64 z):=(bn.o.cell k).trans a2L.o;have hB2:=Hd (cO (i:=k) (v:=.int .i64 z) HB.o (show w.heap.size<=w.heap.size+1+1+1 by omega));have hm2:=Hd (HM.o.other (show w.heap.size≠w.heap.size+1+1+1 by omega) k (.int .i64 z));have hr2:=Hd (HR.o.other (show w.heap.size+1≠w.heap.size+1+1+1 by omega) k (.int .i64 z));have hl2:=Hd (HL.o.other (show w.heap.size+1+1≠w.heap.size+1+1+1 by omega) k (.int .i64 z));clear GX HD0
     go_wp2_with (fail);generalize wr.setCell ⟨w.heap.size+1+1+1,k,none⟩ (.int .i64 z)=wx at*;refine(kz z wx).mono ?_;cases hx:bW z with
     |true=>
      rw[hx]at H1;have HB2:=Hd (H1.o rfl);clear H1 H0 hx c0 hc hz0 hzf;rintro e3 w3 ⟨rfl,rfl⟩;go_wp2_with (fail)
      go_roundw
      case rel=>exact⟨k+1,by omega,by go_num,HB2,hB2,hm2,hr2,hl2,bn⟩
      case measure=>simp[intOf];omega
     |false=>
      rw[hx]at H0;have hT:=Gz.o.trans (if_neg (by rw[H0.o rfl];decide))
      injection hT with h1 h2
      subst h1;subst h2;clear H1 H0 hx c0 hc hz0 hzf Gz;obtain⟨⟨c0,c1,c2,c3,c4,c5⟩,⟨f0,f1,f2,f3,f4,f5⟩,ri⟩:=ax.c6 hr2.o;rintro e3 w3 ⟨rfl,rfl⟩;go_wp2_with (fail);exact aN rfl rfl rfl (ax.oW hr2.o _ _ _ _ _ _) underlying54 rfl af ⟨rfl,gK hB2.o (by omega) _ _ _ _ _ _⟩
    ·clear t;have t2:decide (D<0)=false:=by simpa using hneg
     have HZ:Hid (Af x D=lQ N D):=by
      show _=_;unfold Af;rw[if_neg hneg,hN]
     have hd0:D≠0:=HD0.o;have GX:=Hd (fun w=>tu N D w (by omega) (by omega) (by omega) (by omega));rw[←HZ.o]at GX;clear hneg HZ hd0;generalize Af x D=z at*;go_wp2_with (fail);refine(GX.o _).mono ?_;rintro e2 w2 ⟨rfl,rfl⟩
     have bn:Hid (ax (wr.setCell ⟨w.heap.size+1+1+1,k,none⟩ (.int .i64 z)) (w.heap.size+1+1+1) (yH Z [.int .i64 ke,.int .i64 kf] (k+1))):=by
      show ax _ _ _;rw[←HS.o];exact HN.o.set k _
     have c0:(wr.setCell ⟨w.heap.size+1+1+1,k,none⟩ (.int .i64 z)).cell? ⟨w.heap.size+1+1+1,k,none⟩=some (.int .i64 z):=(bn.o.cell k).trans a2L.o;have hB2:=Hd (cO (i:=k) (v:=.int .i64 z) HB.o (show w.heap.size<=w.heap.size+1+1+1 by omega));have hm2:=Hd (HM.o.other (show w.heap.size≠w.heap.size+1+1+1 by omega) k (.int .i64 z));have hr2:=Hd (HR.o.other (show w.heap.size+1≠w.heap.size+1+1+1 by omega) k (.int .i64 z));have hl2:=Hd (HL.o.other (show w.heap.size+1+1≠w.heap.size+1+1+1 by omega) k (.int .i64 z));clear GX HD0
     go_wp2_with (fail);generalize wr.setCell ⟨w.heap.size+1+1+1,k,none⟩ (.int .i64 z)=wx at*;refine(kz z wx).mono ?_;cases hx:bW z with
     |true=>
      rw[hx]at H1;have HB2:=Hd (H1.o rfl);clear H1 H0 hx c0 hc hz0 hzf;rintro e3 w3 ⟨rfl,rfl⟩;go_wp2_with (fail)
      go_roundw
      case rel=>exact⟨k+1,by omega,by go_num,HB2,hB2,hm2,hr2,hl2,bn⟩
      case measure=>simp[intOf];omega
     |false=>
      rw[hx]at H0;have hT:=Gz.o.trans (if_neg (by rw[H0.o rfl];decide))
      injection hT with h1 h2
      subst h1;subst h2;clear H1 H0 hx c0 hc hz0 hzf Gz;obtain⟨⟨c0,c1,c2,c3,c4,c5⟩,⟨f0,f1,f2,f3,f4,f5⟩,ri⟩:=ax.c6 hr2.o;rintro e3 w3 ⟨rfl,rfl⟩;go_wp2_with (fail);exact aN rfl rfl rfl (ax.oW hr2.o _ _ _ _ _ _) underlying54 rfl af ⟨rfl,gK hB2.o (by omega) _ _ _ _ _ _⟩
   ·have hk4:k=Z.length:=by rw[HLZ.o.2];omega
    have HA:Hid (dK Z=true):=by
     have h:=HK.o;rw[hk4,List.take_length]at h;exact h
    have hT:=Gz.o.trans (if_pos HA.o)
    injection hT with h1 h2
    subst h1;subst h2
    have bn:Hid (ax wr (w.heap.size+1+1+1) RM.cs):=by
     show ax _ _ _;rw[←PK.o,←HLZ.o.2,←hk4];exact HN.o
    obtain rfl:k=4:=by rw[hk4,HLZ.o.2]
    clear Gz PK HK HA HN hk4 HZ4 a2k HLZ um;obtain⟨va,vb,vc,vd,ve,vf⟩:=RM;obtain⟨⟨c0,c1,c2,c3,c4,c5⟩,⟨f0,f1,f2,f3,f4,f5⟩,ri⟩:=ax.c6 HR.o;obtain⟨⟨e0,e1,e2,e3,e4,e5⟩,-,ei⟩:=ax.c6 bn.o;simp only at e0 e1 e2 e3 e4 e5;go_wp2_with (fail);exact aN rfl rfl rfl (ax.oW HR.o _ _ _ _ _ _) underlying54 rfl af ⟨rfl,gK HB.o (by omega) _ _ _ _ _ _⟩
end
end Go.Proofs.YtekdoeilpheklaaGreat
