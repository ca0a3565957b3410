import Derived.Test.YthoildbfghfhpaaGreatZFlH
set_option maxHeartbeats 16000000
set_option maxRecDepth 100000
open Go.Proofs.Tryz
namespace Go.Proofs.YthoildbfghfhpaaGreat
section
open Go.RowKit pxm imm trm Go.Maps
theorem fbk_same (m:Mp) (w:World):(binOp .eql 67 (.agg m.cs.toArray) (.agg m.cs.toArray)).run prog w=.ok (.bool true) w:=by
 obtain ⟨a,b,c,d,e,f⟩:=m;unfold Mp.cs;simp only;go_simp
theorem fmp_same (m:Mp) (w:World):(binOp .eql 65 (.agg m.cs.toArray) (.agg m.cs.toArray)).run prog w=.ok (.bool true) w:=by
 obtain ⟨a,b,c,d,e,f⟩:=m;unfold Mp.cs;simp only;go_simp
theorem fbx_same (m:Bx) (w:World):(binOp .eql 91 (.agg m.cs4.toArray) (.agg m.cs4.toArray)).run prog w=.ok (.bool true) w:=by
 obtain ⟨a,b,c,d⟩:=m;unfold Bx.cs4;simp only;go_simp
theorem build_ndl (q:Lk) (A:Option Addr) (c:Nat) (w:World):(Instr.build 93 #[(5,.agg (q.cs A c).toArray)]).run prog w=.ok (.agg (Nd.cs ⟨Mp.o,0,false,false,Bx.o,q⟩ A c).toArray) w:=by kernel_rfl
theorem fcl_same (m:Cl) (w:World):(binOp .neq 152 (.agg m.cs.toArray) (.agg m.cs.toArray)).run prog w=.ok (.bool false) w:=by
 obtain ⟨⟨a,b,c,d,e,f⟩,⟨g,h,i,j⟩⟩:=m;unfold Cl.cs;simp only;go_simp
theorem fcl_guard (m:Cl) (x y:Operand) (w:World):(eqGuard .neq 152 x y (.agg m.cs.toArray) (.agg m.cs.toArray)).run prog w=.ok () w:=by kernel_rfl
theorem wp_bin {P:Program} {op:Oper} {a:Act} {w:World} {K:Act->World->Prop} {Q:Exit->Act->World->Prop} (k:BinOp) (t rt:TypeId) (x y:Operand) (ho:op.op=.binOp k t x y rt) {v1 v2 v:Value} (h1:a.eval x=v1) (h2:a.eval y=v2) (hg:(eqGuard k t x y v1 v2).run P w=.ok () w) (hrun:(binOp k t v1 v2).run P w=.ok v w)
  (h:K (a.put op.dst v) w):op.wp P a w K Q:=by
 subst h1 h2;unfold Oper.wp execOp;simp only [ho,Sem.run_bind,Result.andThen_ok,hg,hrun];exact h
theorem rg_below {w w':World} {b o:Nat} {cs:List Value} (h:w.rangeAt b o cs) (hb:Below w.heap.size w w'):w'.rangeAt b o cs:=fun i v hv=>(hb.cell (p:=⟨b,o+i,none⟩) (World.block_lt_of_cell? w _ (h i v hv))).trans (h i v hv)
theorem ndequal_same (n:Nd) (A:Option Addr) (c:Nat) (A2:Option Addr) (c2:Nat) (hl:n.lk.l.length<=300) (w:World) (hr:Row eW w A n.lk.l) (hr2:Row eW w A2 n.lk.l):Calls prog 85 #[.agg (n.cs A c).toArray,.agg (n.cs A2 c2).toArray] w fun e w'=>e=.returned (.bool true)∧Below w.heap.size w w':=by
 have HB0:Hid (Below w.heap.size w ((w.alloc (.cells (n.cs A c).toArray 93)).alloc (.cells (n.cs A2 c2).toArray 93))):=(bR.alloc nR _).alloc (by simp) _;have HK1:Hid (Blk ((w.alloc (.cells (n.cs A c).toArray 93)).alloc (.cells (n.cs A2 c2).toArray 93)) w.heap.size (n.cs A c)):=(blk_new w (n.cs A c) _).alloc _;have HK2:Hid (Blk ((w.alloc (.cells (n.cs A c).toArray 93)).alloc (.cells (n.cs A2 c2).toArray 93)) (w.heap.size+1) (n.cs A2 c2)):=blk_at (w.alloc _) _ (by simp) (n.cs A2 c2) _
 have HE:Hid (∀ W,Below w.heap.size w W->Calls prog 116 #[.agg (n.lk.cs A c).toArray,.agg (n.lk.cs A2 c2).toArray] W fun e w'=>e=.returned (.bool true)∧Below W.heap.size W w'):=fun W hb=>by
  have h:=eqlooks_any n.lk.k n.lk.W n.lk.H n.lk.p n.lk.iw n.lk.ih A n.lk.l c n.lk.k n.lk.W n.lk.H n.lk.p n.lk.iw n.lk.ih A2 n.lk.l c2 (by unfold maxLen;omega) (by unfold maxLen;omega) W (Row.below hr hb) (Row.below hr2 hb);have h3:=eqN_self n;unfold eqN eqNd at h3;simp only [Bool.and_eq_true] at h3;rw [h3.2.2.2.2.2] at h;exact h
 clear hl hr hr2;go_enter func85,ntmps85
 go_upto_region 1 with (fail)
 generalize ((w.alloc (.cells (n.cs A c).toArray 93)).alloc (.cells (n.cs A2 c2).toArray 93))=w0 at *;have i1:=HK1.o.inside;have i2:=HK2.o.inside;have q1:=fun w=>fmp_same n.m w;have q2:=fun w=>fbx_same n.r w;have q3:(n.hi==n.hi)=true:=by cases n.hi<;>rfl
 have q4:(n.cl==n.cl)=true:=by cases n.cl<;>rfl
 have c6:=HK1.o.c 6 rfl;have c7:=HK1.o.c 7 rfl;have c8:=HK1.o.c 8 rfl;have d6:w0.cell? ⟨w.heap.size+1,6,none⟩=some (.int .i64 n.op):=HK2.o.cell 6;have d7:w0.cell? ⟨w.heap.size+1,7,none⟩=some (.bool n.hi):=HK2.o.cell 7;have d8:w0.cell? ⟨w.heap.size+1,8,none⟩=some (.bool n.cl):=HK2.o.cell 8
 go_wp2_with (first | (with_reducible refine gL ?_;first | (refine wt 65 0 rfl rfl rfl HK1.o (n.m.cs) rfl underlying65 rfl ?_) | (refine wt 65 0 rfl rfl rfl HK2.o (n.m.cs) rfl underlying65 rfl ?_) | (refine wt 91 9 rfl rfl rfl HK1.o (n.r.cs4) rfl underlying91 rfl ?_) | (refine wt 91 9 rfl rfl rfl HK2.o (n.r.cs4) rfl underlying91 rfl ?_) | (refine wt 74 13 rfl rfl rfl HK1.o (n.lk.cs A c) rfl underlying74 rfl ?_) | (refine wt 74 13 rfl rfl rfl HK2.o (n.lk.cs A2 c2) rfl underlying74 rfl ?_)));refine (HE.o w0 HB0.o).mono ?_;rintro e w1 ⟨rfl,hb⟩
 have HB1:=Hd (HB0.o.trans (hb.mono HB0.o.size));clear hb HE;go_wp2_with (fail);go_ret;exact ⟨rfl,HB1.o⟩
theorem feqlooks_two (q:Lk) (A:Option Addr) (c:Nat) (A2:Option Addr) (c2:Nat) (hl:q.l.length<=300) (w:World) (hr:Row eW w A q.l) (hr2:Row eW w A2 q.l):Calls prog 77 #[.agg (q.cs A c).toArray,.agg (q.cs A2 c2).toArray] w fun e w'=>e=.returned (.bool true)∧Below w.heap.size w w':=by
 have HB0:Hid (Below w.heap.size w ((w.alloc (.cells (q.cs A c).toArray 74)).alloc (.cells (q.cs A2 c2).toArray 74))):=(bR.alloc nR _).alloc (by simp) _;have HK1:Hid (Blk ((w.alloc (.cells (q.cs A c).toArray 74)).alloc (.cells (q.cs A2 c2).toArray 74)) w.heap.size (q.cs A c)):=(blk_new w (q.cs A c) _).alloc _;have HK2:Hid (Blk ((w.alloc (.cells (q.cs A c).toArray 74)).alloc (.cells (q.cs A2 c2).toArray 74)) (w.heap.size+1) (q.cs A2 c2)):=blk_at (w.alloc _) _ (by simp) (q.cs A2 c2) _
 have HE:Hid (Calls prog 85 #[.agg (Nd.cs ⟨Mp.o,0,false,false,Bx.o,q⟩ A c).toArray,.agg (Nd.cs ⟨Mp.o,0,false,false,Bx.o,q⟩ A2 c2).toArray] ((w.alloc (.cells (q.cs A c).toArray 74)).alloc (.cells (q.cs A2 c2).toArray 74)) fun e w'=>e=.returned (.bool true)∧Below ((w.alloc (.cells (q.cs A c).toArray 74)).alloc (.cells (q.cs A2 c2).toArray 74)).heap.size ((w.alloc (.cells (q.cs A c).toArray 74)).alloc (.cells (q.cs A2 c2).toArray 74)) w'):=by
  exact ndequal_same ⟨Mp.o,0,false,false,Bx.o,q⟩ A c A2 c2 hl ((w.alloc (.cells (q.cs A c).toArray 74)).alloc (.cells (q.cs A2 c2).toArray 74)) (Row.below hr HB0.o) (Row.below hr2 HB0.o)
 clear hl hr hr2;go_enter func77,ntmps77
 go_upto_region 1 with (fail)
 generalize ((w.alloc (.cells (q.cs A c).toArray 74)).alloc (.cells (q.cs A2 c2).toArray 74))=w0 at *;have i1:=HK1.o.inside;have i2:=HK2.o.inside
 go_wp2_with (first | (with_reducible refine gL ?_;first | (refine wt 74 0 rfl rfl rfl HK1.o (q.cs A c) rfl underlying74 rfl ?_) | (refine wt 74 0 rfl rfl rfl HK2.o (q.cs A2 c2) rfl underlying74 rfl ?_)) | ((with_reducible show wpList _ _ _ (Oper.mk (some 6) (Op.build _ _) _ _ _ _::_) _ _);refine wpl_build _ _ rfl rfl (by simp [go_sem]) (build_ndl q A c _) ?_) | ((with_reducible show wpList _ _ _ (Oper.mk (some 8) (Op.build _ _) _ _ _ _::_) _ _);refine wpl_build _ _ rfl rfl (by simp [go_sem]) (build_ndl q A2 c2 _) ?_));refine HE.o.mono ?_;rintro e w1 ⟨rfl,hb⟩
 have HB1:=Hd (HB0.o.trans (hb.mono HB0.o.size));clear hb HE;go_wp2_with (fail);go_ret;exact ⟨rfl,HB1.o⟩
theorem feqclips_two (l:List Cl) (A:Option Addr) (c:Nat) (A2:Option Addr) (c2:Nat) (hn:l.length<=2000) (w:World) (hr:SRow 10 Cl.cs w A l) (hr2:SRow 10 Cl.cs w A2 l):Calls prog 76 #[.slice A l.length c,.slice A2 l.length c2] w fun e w'=>e=.returned (.bool true)∧Below w.heap.size w w':=by
 have HR:=Hd (And.intro hr hr2);have hlb:(l.length:Int)<=2000:=by omega
 have t0:decide (l.length=l.length)=true:=by simp
 clear hr hr2 hn;go_enter func76,ntmps76
 go_upto_region 4 with (fail)
 go_loopw [13] (fun i wr=>∃ j:Nat,j<=l.length∧i=.int .i64 j∧Below w.heap.size w wr) (fun i _=>l.length - (intOf i).toNat)
 case atStart=>exact ⟨0,Nat.zero_le _,rfl,bR⟩
 case round=>
  obtain ⟨j,hj,rfl,hw⟩:=hrel;generalize wr=wA at *;have HBW:Hid (Below w.heap.size w wA):=hw;clear hw;by_cases hlt:j<l.length
  ·have t4:decide (j<l.length)=true:=by simpa using hlt
   have HLT:=Hd hlt
   obtain ⟨b1,o1,rfl,hc1⟩:=(SRow.below HR.o.1 HBW.o) (by omega)
   obtain ⟨b2,o2,rfl,hc2⟩:=(SRow.below HR.o.2 HBW.o) (by omega)
   obtain ⟨u,hu⟩:∃ u,u=l[j]'hlt:=⟨_,rfl⟩
   have HR1:Hid (wA.rangeAt b1 (o1+j*10) u.cs):=fun i v hv=>hc1 j hlt i v (by rw [← hu];exact hv);have HR2:Hid (wA.rangeAt b2 (o2+j*10) u.cs):=fun i v hv=>hc2 j hlt i v (by rw [← hu];exact hv);have hcl:=fun w=>fcl_same u w;clear hc1 hc2 hu hlt hj;have HCL:=Hd hcl;have HT4:=Hd t4;clear hcl
   go_upto_region 6 with (fail)
   refine wRn [16,17,18,19,20,21,22,23,24] (fun i=>match i with
    |0=>rV (.slice (some ⟨b1,o1,none⟩) l.length c)
    |1|5=>rV (.int .i64 j)
    |2=>rV (.pointer (some ⟨b1,(o1+j*10),none⟩))
    |3|7=>rV (.agg (u.cs).toArray)
    |4=>rV (.slice (some ⟨b2,o2,none⟩) l.length c2)
    |6=>rV (.pointer (some ⟨b2,(o2+j*10),none⟩))
    |8=>rV (.bool false)
    | _=>ra) ⟨?_,?_,?_,?_,?_,?_,?_,?_,?_,trivial⟩ ?_
   any_goals (first|refine zp fun L a w1 hh=>?_|fail)
   have h0:=hh.o 0 (v:=.slice (some ⟨b1,o1,none⟩) l.length c) rfl;rotate_left;have h5:=hh.o 5 (v:=.int .i64 j) rfl;rotate_left;have h16:=rq (hh.d 0 16);have h17:=rq (hh.d 1 17);have hlt:=HLT.o;rotate_left
   ·have h18:=rq (hh.d 2 18)
    have hRG:=(rg_below HR1.o hh.rel)
    have hJ:=Hd hh.st;exact wp_load_mid 152 _ rfl b1 (o1+j*10) (by simpa [go_sem] using h18) u.cs _ hRG underlying152 rfl (by kernel_rfl) ⟨_,rfl,rB,rfl,hJ.o⟩
   have h1:=hh.o 1 (v:=.slice (some ⟨b2,o2,none⟩) l.length c2) rfl;rotate_left;have h5:=hh.o 5 (v:=.int .i64 j) rfl;rotate_left;have h20:=rq (hh.d 4 20);have h21:=rq (hh.d 5 21);have hlt:=HLT.o;rotate_left
   ·have h22:=rq (hh.d 6 22)
    have hRG:=(rg_below HR2.o hh.rel)
    have hJ:=Hd hh.st;exact wp_load_mid 152 _ rfl b2 (o2+j*10) (by simpa [go_sem] using h22) u.cs _ hRG underlying152 rfl (by kernel_rfl) ⟨_,rfl,rB,rfl,hJ.o⟩
   ·have h19:=rq (hh.d 3 19);have h23:=rq (hh.d 7 23);have hJ:=Hd hh.st;exact wp_bin _ _ _ _ _ rfl (by simpa [go_sem] using h19) (by simpa [go_sem] using h23) (fcl_guard u _ _ w1) (HCL.o w1) ⟨_,rfl,rB,rfl,hJ.o⟩
   any_goals (clear hh;go_simp;exact ⟨_,rfl,rB,rfl,trivial⟩)
   intro L w4 val hL hJ hR hv;have h24:val 24=.bool false:=hv 8 24 (by kernel_rfl);have HR4:=Hd hR;clear hv hL hJ hR;simp only [regs.putAll,List.map_cons,List.map_nil,h24];simp only [Act.put,List.setIfInBounds_toArray,List.set_cons_zero,List.set_cons_succ];clear h24
   skip
   have HB4:=Hd (HBW.o.trans (Below.mono HR4.o HBW.o.size));have hlt:=HLT.o;clear HR4 HR1 HR2 HCL HBW;go_wp2_with (fail)
   go_roundw
   case rel=>exact ⟨j+1,HLT.o,by go_num,HB4.o⟩
   case measure=>have:=HLT.o;simp [intOf];omega
  ·obtain rfl:j=l.length:=by omega
   have t4:decide (l.length<l.length)=false:=by simp
   clear hlt;go_wp2_with (fail);go_ret;exact ⟨rfl,HBW.o⟩
theorem flequal_two (I:It) (Ac:Option Addr) (cc:Nat) (A:Option Addr) (c:Nat) (Ac2:Option Addr) (cc2:Nat) (A2:Option Addr) (c2:Nat) (hc:I.c.length<=2000) (hl:I.lk.l.length<=300) (w:World) (hq:ItAt w ⟨I,Ac,cc,A,c⟩) (hq2:ItAt w ⟨I,Ac2,cc2,A2,c2⟩):Calls prog 32 #[.agg (ItR.cs ⟨I,Ac,cc,A,c⟩).toArray,.agg (ItR.cs ⟨I,Ac2,cc2,A2,c2⟩).toArray] w fun e w'=>e=.returned (.bool true)∧Below w.heap.size w w':=by
 obtain ⟨q,hqq⟩:∃ q:ItR,q=⟨I,Ac,cc,A,c⟩:=⟨_,rfl⟩
 obtain ⟨q2,hqq2⟩:∃ q:ItR,q=⟨I,Ac2,cc2,A2,c2⟩:=⟨_,rfl⟩
 have HB0:Hid (Below w.heap.size w ((w.alloc (.cells q.cs.toArray 76)).alloc (.cells q2.cs.toArray 76))):=(bR.alloc nR _).alloc (by simp) _;have HK1:Hid (Blk ((w.alloc (.cells q.cs.toArray 76)).alloc (.cells q2.cs.toArray 76)) w.heap.size q.cs):=(blk_new w q.cs _).alloc _;have HK2:Hid (Blk ((w.alloc (.cells q.cs.toArray 76)).alloc (.cells q2.cs.toArray 76)) (w.heap.size+1) q2.cs):=blk_at (w.alloc _) _ (by simp) q2.cs _
 have HE:Hid (∀ W,Below w.heap.size w W->_):=(fun W hb=>feqlooks_two I.lk A c A2 c2 hl W (Row.below hq.px hb) (Row.below hq2.px hb))
 have HC:Hid (∀ W,Below w.heap.size w W->_):=(fun W hb=>feqclips_two I.c Ac cc Ac2 cc2 hc W (SRow.below hq.clips hb) (SRow.below hq2.clips hb))
 rw [← hqq,← hqq2];go_enter func32,ntmps32
 go_upto_region 1 with (fail)
 subst hqq hqq2;clear hc hl hq hq2;generalize ((w.alloc (.cells (ItR.cs ⟨I,Ac,cc,A,c⟩).toArray 76)).alloc (.cells (ItR.cs ⟨I,Ac2,cc2,A2,c2⟩).toArray 76))=w0 at *;have i1:=HK1.o.inside;have i2:=HK2.o.inside;have q1:=fun w=>fmp_same I.w w;have q2:=fun w=>fbk_same I.b w;have c0:=HK1.o.c 0 rfl;have c13:=HK1.o.c 13 rfl;have c14:=HK1.o.c 14 rfl;have d0:w0.cell? ⟨w.heap.size+1,0,none⟩=some (.int .i64 I.i):=HK2.o.cell 0;have d13:w0.cell? ⟨w.heap.size+1,13,none⟩=some (.slice Ac2 I.c.length cc2):=HK2.o.cell 13
 have d14:w0.cell? ⟨w.heap.size+1,14,none⟩=some (.int .i64 (I.o:Nat)):=HK2.o.cell 14;go_wp2_with (first | (with_reducible refine gL ?_;first | (refine wt 65 1 rfl rfl rfl HK1.o (I.w.cs) rfl underlying65 rfl ?_) | (refine wt 65 1 rfl rfl rfl HK2.o (I.w.cs) rfl underlying65 rfl ?_) | (refine wt 67 7 rfl rfl rfl HK1.o (I.b.cs) rfl underlying67 rfl ?_) | (refine wt 67 7 rfl rfl rfl HK2.o (I.b.cs) rfl underlying67 rfl ?_)));refine (HC.o _ HB0.o).mono ?_;rintro e w1 ⟨rfl,hb⟩;have HB1:=Hd (HB0.o.trans (hb.mono HB0.o.size));have HK3:=Hd (HK1.o.below' hb)
 have HK4:=Hd (HK2.o.below' hb);clear hb HC c0 c13 c14 d0 d13 d14 i1 i2 HK1 HK2;have i1:=HK3.o.inside;have i2:=HK4.o.inside;go_wp2_with (first | (with_reducible refine gL ?_;first | (refine wt 74 15 rfl rfl rfl HK3.o (I.lk.cs A c) rfl underlying74 rfl ?_) | (refine wt 74 15 rfl rfl rfl HK4.o (I.lk.cs A2 c2) rfl underlying74 rfl ?_)));refine (HE.o w1 HB1.o).mono ?_;rintro e w2 ⟨rfl,hb⟩;have HB2:=Hd (HB1.o.trans (hb.mono HB1.o.size));clear hb HE;go_wp2_with (fail);go_ret;exact ⟨rfl,HB2.o⟩
end
section
open Go.RowKit pxm imm trm Go.Maps
theorem build_fl1 (w:World):(Instr.build 99 #[(0,.int .i64 1),(1,.int .i64 1)]).run prog w=.ok (.agg (fl1.cs none 0).toArray) w:=by kernel_rfl
theorem build_fl2 (w:World):(Instr.build 99 #[(0,.int .i64 4),(1,.int .i64 1),(4,.agg #[.int .i64 65536,.int .i64 0,.int .i64 0,.int .i64 65536,.int .i64 65536,.int .i64 0])]).run prog w=.ok (.agg (fl2.cs none 0).toArray) w:=by kernel_rfl
theorem build_fl3 (w:World):(Instr.build 99 #[(0,.int .i64 7),(1,.int .i64 1),(8,.agg #[.int .i64 1,.int .i64 2,.int .i64 1,.int .u32 255,.int .i64 0,.int .i64 0,.slice none 0 0])]).run prog w=.ok (.agg (fl3.cs none 0).toArray) w:=by kernel_rfl
theorem build_fl4 (w:World):(Instr.build 99 #[(0,.int .i64 6),(7,.int .i64 128)]).run prog w=.ok (.agg (fl4.cs none 0).toArray) w:=by kernel_rfl
theorem bs_op4 (a b c d:Op9) (w:World):(Instr.buildSlice tOps 4 #[(0,.agg (a.cs none 0).toArray),(1,.agg (b.cs none 0).toArray),(2,.agg (c.cs none 0).toArray),(3,.agg (d.cs none 0).toArray)]).run prog w=.ok (.slice (some ⟨w.heap.size,0,none⟩) 4 4) (w.alloc (.cells ([oN a,oN b,oN c,oN d].flatMap OpR.cs).toArray 99)):=by kernel_rfl
def flZ:ZZ:=⟨4,⟨3,9⟩,fun _=>False⟩
theorem roomF {Z:ZZ} (hZ:Z.2.2=9) {x:PSc} {n:Nat} (h:x.t.length<=10) (hn:n<=1024):n<=1024->Room Z.2.2 x n:=fun _=>⟨hn,.inr ⟨by omega,by rw [hZ];decide⟩⟩
theorem fl_ops:∀ q∈[oN fl1,oN fl2,oN fl3,oN fl4],OpOk q.o∧q.o.lk.l=[]:=by
 intro q hq;simp only [List.mem_cons,List.not_mem_nil,or_false] at hq;rcases hq with rfl | rfl | rfl | rfl<;>exact fl_op (by simp [flL,oN])
structure OneI (w:World) (lb lo:Nat) (q:ItR):Prop where
 row:w.rangeAt lb lo q.cs
 at_:ItAt w q
theorem OneI.below {w w':World} {lb lo:Nat} {q:ItR} (h:OneI w lb lo q) (hb:Below w.heap.size w w'):OneI w' lb lo q:=⟨fun i v hv=>(hb.cell (p:=⟨lb,lo+i,none⟩) (World.block_lt_of_cell? w _ (h.row i v hv))).trans (h.row i v hv),h.at_.below hb⟩
theorem OneI.inside {w:World} {lb lo:Nat} {q:ItR} (h:OneI w lb lo q):lb<w.heap.size:=World.block_lt_of_cell? w ⟨lb,_,none⟩ (h.row 0 (.int .i64 q.it.i) rfl)
theorem fawake_any (w:World):Calls prog 19 #[] w fun e w'=>e=.returned (.bool true)∧Below w.heap.size w w':=by
 go_enter func19,ntmps19;go_wp2_with (fail);refine (new_ok (w:=w) flZ (fun _ e=>e.elim) ⟨by decide,by decide⟩ ⟨by decide,by decide⟩ ⟨by decide,by decide⟩).mono ?_;rintro e w1 ⟨g,b,m,s,rfl,hs1,hb1,hf1,hg1⟩
 have HM1:Hid (MyS w g b m s flZ PSc.new w1):=⟨hs1,hf1,hb1⟩
 clear hs1 hb1 hf1 hg1;go_wp2_with (first | ((with_reducible show wpList _ _ _ (Oper.mk (some 15) (Op.build _ _) _ _ _ _::_) _ _);refine wpl_build _ _ rfl rfl (by simp [go_sem]) (build_fl1 _) ?_));refine (mp_shift 65536 0 w1).mono ?_;rintro e w2 ⟨rfl,hb2⟩;unfold Mp.v;have HM2:=Hd (HM1.o.below hb2);clear hb2 HM1;go_wp2_with (first | ((with_reducible show wpList _ _ _ (Oper.mk (some 17) (Op.build _ _) _ _ _ _::_) _ _);refine wpl_build _ _ rfl rfl (by simp [go_sem]) (build_fl2 _) ?_));refine (fillof_any 2 1 255 w2).mono ?_;rintro e w3 ⟨rfl,hb3⟩;unfold lkV;have HM4:=Hd (HM2.o.below hb3)
 clear hb3 HM2;go_wp2_with (first | ((with_reducible show wpList _ _ _ (Oper.mk (some 19) (Op.build _ _) _ _ _ _::_) _ _);refine wpl_build _ _ rfl rfl (by simp [go_sem]) (build_fl3 _) ?_) | ((with_reducible show wpList _ _ _ (Oper.mk (some 20) (Op.build _ _) _ _ _ _::_) _ _);refine wpl_build _ _ rfl rfl (by simp [go_sem]) (build_fl4 _) ?_) | ((with_reducible refine gB ?_);refine wpl_bs _ _ _ rfl rfl (by simp [go_sem]) (bs_op4 fl1 fl2 fl3 fl4 _) ?_));have HO5:=Hd (opsAt_new (w:=w3) (S:=SFoot b m s PSc.new.t) HM4.o.at_.inside [oN fl1,oN fl2,oN fl3,oN fl4] (fun q hq=>(fl_ops q hq).2))
 rw [show [oN fl1,oN fl2,oN fl3,oN fl4].flatMap OpR.cs=(oN fl1).cs++((oN fl2).cs++((oN fl3).cs++(oN fl4).cs)) from by simp] at HO5;have HB5:Hid (Below w3.heap.size w3 (w3.alloc (.cells ((oN fl1).cs++((oN fl2).cs++((oN fl3).cs++(oN fl4).cs))).toArray 99))):=bR.alloc nR _;generalize (w3.alloc (.cells ((oN fl1).cs++((oN fl2).cs++((oN fl3).cs++(oN fl4).cs))).toArray 99))=w5 at *;have HM5:=Hd (HM4.o.below HB5.o);generalize w3.heap.size=k5 at *
 have HAP:=Hd (applied HM5.o.at_ PSc.new_sane [oN fl1,oN fl2,oN fl3,oN fl4] (some ⟨k5,0,none⟩) 4 HO5.o (fun q hq=>(fl_ops q hq).1) (roomF rfl (by decide) (by simp)) (by simp));rw [show applyS flZ.2.2 setSt PSc.new ([oN fl1,oN fl2,oN fl3,oN fl4].map (·.o))=(flY,4,0) from fl_apply] at HAP;unfold ApplyQ at HAP;refine HAP.o.mono ?_;rintro e w6 ⟨s6,rfl,hs6,ht6⟩;have HM6:=Hd (HM5.o.turn hs6 ht6);clear hs6 ht6 HAP HM5 HO5 HB5 HM4;go_wp2_with (fail);refine (list_any HM6.o.at_ flY_sane (by rw [flY_t];decide)).mono ?_;unfold ListQ;rintro e w7 ⟨A,c,l,rfl,hrow,hqs,hmap,-,hb7⟩
 rw [fl_items] at hmap
 obtain ⟨q,rfl,hq⟩:∃ q,l=[q]∧q.it=flI:=by
  match l,hmap with
  | [],h=>simp at h
  | [q],h=>exact ⟨q,rfl,by simpa using h⟩
  | _::_::_,h=>simp at h
 obtain ⟨lb,lo,rfl,hc⟩:=hrow (by simp)
 have HO7:Hid (OneI w7 lb lo q):=⟨fun i v hv=>by have:=hc 0 (by simp) i v hv;simpa using this,(hqs q List.mem_cons_self).1⟩
 have HB7:Hid (Below w.heap.size w w7):=HM6.o.bel.trans (hb7.mono HM6.o.bel.size);have HQK:Hid (q.it.Ok):=by rw [hq];exact flI_ok
 have HQ:=Hd hq;have d0:w7.cell? ⟨lb,lo,none⟩=some (.int .i64 1):=by have h:=HO7.o.row 0 (.int .i64 q.it.i) rfl;rw [hq] at h;exact h
 have d14:w7.cell? ⟨lb,lo+14,none⟩=some (.int .i64 128):=by have h:=HO7.o.row 14 (.int .i64 (q.it.o:Nat)) rfl;rw [hq] at h;exact h
 have di:=HO7.o.inside;clear hrow hqs hmap hb7 hq hc HM6;simp only [List.length_cons,List.length_nil,Nat.zero_add];have FO:Hid (∀ W,Below w7.heap.size w7 W->OneI W lb lo q):=fun W hb=>HO7.o.below hb
 have FD:Hid (∀ W,Below w7.heap.size w7 W->W.cell? ⟨lb,lo,none⟩=some (.int .i64 1)∧W.cell? ⟨lb,lo+14,none⟩=some (.int .i64 128)∧lb<W.heap.size):=fun W hb=>⟨(hb.cell (p:=⟨lb,lo,none⟩) di).trans d0,(hb.cell (p:=⟨lb,lo+14,none⟩) di).trans d14,(FO.o W hb).inside⟩
 have FC10:Hid (∀ W,Below w7.heap.size w7 W->Calls prog 28 #[.agg q.cs.toArray,.int .i64 1,.int .i64 0] W fun e w'=>e=.returned (.bool true)∧Below W.heap.size W w'):=fun W hb=>by
  have h:=itcov_any q 1 0 W (FO.o W hb).at_ HQK.o (by decide) (by decide);rw [show q.it.covers 1 0=true from by rw [HQ.o];exact fl_says.1] at h;exact h
 have FC20:Hid (∀ W,Below w7.heap.size w7 W->Calls prog 28 #[.agg q.cs.toArray,.int .i64 2,.int .i64 0] W fun e w'=>e=.returned (.bool true)∧Below W.heap.size W w'):=fun W hb=>by
  have h:=itcov_any q 2 0 W (FO.o W hb).at_ HQK.o (by decide) (by decide);rw [show q.it.covers 2 0=true from by rw [HQ.o];exact fl_says.2.1] at h;exact h
 have FC00:Hid (∀ W,Below w7.heap.size w7 W->Calls prog 28 #[.agg q.cs.toArray,.int .i64 0,.int .i64 0] W fun e w'=>e=.returned (.bool false)∧Below W.heap.size W w'):=fun W hb=>by
  have h:=itcov_any q 0 0 W (FO.o W hb).at_ HQK.o (by decide) (by decide);rw [show q.it.covers 0 0=false from by rw [HQ.o];exact fl_says.2.2.1] at h;exact h
 have FC11:Hid (∀ W,Below w7.heap.size w7 W->Calls prog 28 #[.agg q.cs.toArray,.int .i64 1,.int .i64 1] W fun e w'=>e=.returned (.bool false)∧Below W.heap.size W w'):=fun W hb=>by
  have h:=itcov_any q 1 1 W (FO.o W hb).at_ HQK.o (by decide) (by decide);rw [show q.it.covers 1 1=false from by rw [HQ.o];exact fl_says.2.2.2.1] at h;exact h
 have FA20:Hid (∀ W,Below w7.heap.size w7 W->Calls prog 26 #[.agg q.cs.toArray,.int .i64 2,.int .i64 0] W fun e w'=>e=.returned (.int .u32 128)∧Below W.heap.size W w'):=fun W hb=>by
  have h:=itat_any q 2 0 W (FO.o W hb).at_ HQK.o (by decide) (by decide);rw [show q.it.at_ 2 0=128 from by rw [HQ.o];exact fl_says.2.2.2.2.1] at h;exact h
 have FA30:Hid (∀ W,Below w7.heap.size w7 W->Calls prog 26 #[.agg q.cs.toArray,.int .i64 3,.int .i64 0] W fun e w'=>e=.returned (.int .u32 0)∧Below W.heap.size W w'):=fun W hb=>by
  have h:=itat_any q 3 0 W (FO.o W hb).at_ HQK.o (by decide) (by decide);rw [show q.it.at_ 3 0=0 from by rw [HQ.o];exact fl_says.2.2.2.2.2] at h;exact h
 have FE:Hid (∀ W,Below w7.heap.size w7 W->Calls prog 32 #[.agg q.cs.toArray,.agg q.cs.toArray] W fun e w'=>e=.returned (.bool true)∧Below W.heap.size W w'):=fun W hb=>flequal_two q.it q.Ac q.cc q.A q.c q.Ac q.cc q.A q.c (by rw [HQ.o];decide) (by rw [HQ.o];decide) W (FO.o W hb).at_ (FO.o W hb).at_;have FT:Hid (∀ W,Calls prog 24 #[.int .i64 1,.int .i64 0] W fun e w'=>e=.returned (.agg #[.int .i64 98304,.int .i64 32768])∧Below W.heap.size W w'):=fun W=>centre_any 1 0 W (by constructor<;>decide) (by constructor<;>decide);clear d0 d14 di HO7 HQK HQ
 go_upto_region 6 with (fail)
 simp only [List.append]
 refine wRn [25,26,27,28,29,30,31,32,33,34,35,36,37,38,39,40,41,42,43,44,45,46,47,48,49,50,51,52,53,54,55,56,57,58,59,60,61,62,63,64,65,66,67,68,69,70,71,72,73,74,75,76,77,78,79,80,81,82,83,84,85,86,87,88,89,90,91,92,93,94,95,0] (fun i=>match i with
  |0|4|11|18|24|30|37|44|51|58|61=>rV (.slice (some ⟨lb,lo,none⟩) 1 c)
  |1|7=>rV (.int .i64 1)
  |2|3|8|9|10|15|16|17|21|22|23|27|28|29|34|35|36|41|42|43|48|49|50|55|56|57|64|65|66|69|70|71=>rT
  |5|6|12|19|25|31|38|45|52|59|62=>rV (.pointer (some ⟨lb,lo,none⟩))
  |13=>rV (.pointer (some ⟨lb,(lo+14),none⟩))
  |14=>rV (.int .i64 128)
  |20|26|32|39|46|53|60|63=>rV (.agg (q.cs).toArray)
  |33|40=>rV (.bool false)
  |47=>rV (.int .u32 128)
  |54=>rV (.int .u32 0)
  |67|68=>rV (.agg ([.int .i64 98304,.int .i64 32768]).toArray)
  | _=>ra) ⟨?_,?_,?_,?_,?_,?_,?_,?_,?_,?_,?_,?_,?_,?_,?_,?_,?_,?_,?_,?_,?_,?_,?_,?_,?_,?_,?_,?_,?_,?_,?_,?_,?_,?_,?_,?_,?_,?_,?_,?_,?_,?_,?_,?_,?_,?_,?_,?_,?_,?_,?_,?_,?_,?_,?_,?_,?_,?_,?_,?_,?_,?_,?_,?_,?_,?_,?_,?_,?_,?_,?_,?_,trivial⟩ ?_
 any_goals (first|refine zp fun L a w1 hh=>?_|fail)
 any_goals (first|refine sy rfl rfl fun L a w1 hh=>?_|fail)
 have h3:=hh.o 3 (v:=.slice (some ⟨lb,lo,none⟩) 1 c) rfl;rotate_left;have h25:=rq (hh.d 0 25);rotate_left;have h26:=rq (hh.d 1 26);rotate_left;have h27:=rq (hh.d 2 27);rotate_left;have h3:=hh.o 3 (v:=.slice (some ⟨lb,lo,none⟩) 1 c) rfl;rotate_left;have h29:=rq (hh.d 4 29);have li:=(FD.o _ hh.rel).2.2;rotate_left;have h30:=rq (hh.d 5 30);have li:=(FD.o _ hh.rel).2.2;rotate_left
 ·have h31:=rq (hh.d 6 31);obtain ⟨c0,-,li⟩:=FD.o _ hh.rel;clear hh;go_simp;exact ⟨_,rfl,rB,rfl,trivial⟩
 have h32:=rq (hh.d 7 32);rotate_left;have h28:=rq (hh.d 3 28);have h33:=rq (hh.d 8 33);rotate_left;have h34:=rq (hh.d 9 34);rotate_left;have h3:=hh.o 3 (v:=.slice (some ⟨lb,lo,none⟩) 1 c) rfl;rotate_left;have h36:=rq (hh.d 11 36);have li:=(FD.o _ hh.rel).2.2;rotate_left;have h37:=rq (hh.d 12 37);have li:=(FD.o _ hh.rel).2.2;rotate_left
 ·have h38:=rq (hh.d 13 38);obtain ⟨-,c0,li⟩:=FD.o _ hh.rel;clear hh;go_simp;exact ⟨_,rfl,rB,rfl,trivial⟩
 have h39:=rq (hh.d 14 39);rotate_left;have h35:=rq (hh.d 10 35);have h40:=rq (hh.d 15 40);rotate_left;have h41:=rq (hh.d 16 41);rotate_left;have h3:=hh.o 3 (v:=.slice (some ⟨lb,lo,none⟩) 1 c) rfl;rotate_left;have h43:=rq (hh.d 18 43);have li:=(FD.o _ hh.rel).2.2;rotate_left
 ·have h44:=rq (hh.d 19 44);have hRG:=(FO.o _ hh.rel).row;have hJ:=Hd hh.st;exact wp_load_mid 76 _ rfl lb lo (by simpa [go_sem] using h44) q.cs _ hRG underlying76 rfl (by kernel_rfl) ⟨_,rfl,rB,rfl,hJ.o⟩
 ·have h45:=rq (hh.d 20 45);have hC:=Hd (FC10.o _ hh.rel);have hJ:=hh.j;clear hh;go_simp;refine hC.o.mono ?_;rintro e w9 ⟨rfl,hb9⟩;exact ⟨_,rfl,hb9,rfl,hJ.o⟩
 have h42:=rq (hh.d 17 42);have h46:=rq (hh.d 21 46);rotate_left;have h47:=rq (hh.d 22 47);rotate_left;have h3:=hh.o 3 (v:=.slice (some ⟨lb,lo,none⟩) 1 c) rfl;rotate_left;have h49:=rq (hh.d 24 49);have li:=(FD.o _ hh.rel).2.2;rotate_left
 ·have h50:=rq (hh.d 25 50);have hRG:=(FO.o _ hh.rel).row;have hJ:=Hd hh.st;exact wp_load_mid 76 _ rfl lb lo (by simpa [go_sem] using h50) q.cs _ hRG underlying76 rfl (by kernel_rfl) ⟨_,rfl,rB,rfl,hJ.o⟩
 ·have h51:=rq (hh.d 26 51);have hC:=Hd (FC20.o _ hh.rel);have hJ:=hh.j;clear hh;go_simp;refine hC.o.mono ?_;rintro e w9 ⟨rfl,hb9⟩;exact ⟨_,rfl,hb9,rfl,hJ.o⟩
 have h48:=rq (hh.d 23 48);have h52:=rq (hh.d 27 52);rotate_left;have h53:=rq (hh.d 28 53);rotate_left;have h3:=hh.o 3 (v:=.slice (some ⟨lb,lo,none⟩) 1 c) rfl;rotate_left;have h55:=rq (hh.d 30 55);have li:=(FD.o _ hh.rel).2.2;rotate_left
 ·have h56:=rq (hh.d 31 56);have hRG:=(FO.o _ hh.rel).row;have hJ:=Hd hh.st;exact wp_load_mid 76 _ rfl lb lo (by simpa [go_sem] using h56) q.cs _ hRG underlying76 rfl (by kernel_rfl) ⟨_,rfl,rB,rfl,hJ.o⟩
 ·have h57:=rq (hh.d 32 57);have hC:=Hd (FC00.o _ hh.rel);have hJ:=hh.j;clear hh;go_simp;refine hC.o.mono ?_;rintro e w9 ⟨rfl,hb9⟩;exact ⟨_,rfl,hb9,rfl,hJ.o⟩
 have h58:=rq (hh.d 33 58);rotate_left;have h54:=rq (hh.d 29 54);have h59:=rq (hh.d 34 59);rotate_left;have h60:=rq (hh.d 35 60);rotate_left;have h3:=hh.o 3 (v:=.slice (some ⟨lb,lo,none⟩) 1 c) rfl;rotate_left;have h62:=rq (hh.d 37 62);have li:=(FD.o _ hh.rel).2.2;rotate_left
 ·have h63:=rq (hh.d 38 63);have hRG:=(FO.o _ hh.rel).row;have hJ:=Hd hh.st;exact wp_load_mid 76 _ rfl lb lo (by simpa [go_sem] using h63) q.cs _ hRG underlying76 rfl (by kernel_rfl) ⟨_,rfl,rB,rfl,hJ.o⟩
 ·have h64:=rq (hh.d 39 64);have hC:=Hd (FC11.o _ hh.rel);have hJ:=hh.j;clear hh;go_simp;refine hC.o.mono ?_;rintro e w9 ⟨rfl,hb9⟩;exact ⟨_,rfl,hb9,rfl,hJ.o⟩
 have h65:=rq (hh.d 40 65);rotate_left;have h61:=rq (hh.d 36 61);have h66:=rq (hh.d 41 66);rotate_left;have h67:=rq (hh.d 42 67);rotate_left;have h3:=hh.o 3 (v:=.slice (some ⟨lb,lo,none⟩) 1 c) rfl;rotate_left;have h69:=rq (hh.d 44 69);have li:=(FD.o _ hh.rel).2.2;rotate_left
 ·have h70:=rq (hh.d 45 70);have hRG:=(FO.o _ hh.rel).row;have hJ:=Hd hh.st;exact wp_load_mid 76 _ rfl lb lo (by simpa [go_sem] using h70) q.cs _ hRG underlying76 rfl (by kernel_rfl) ⟨_,rfl,rB,rfl,hJ.o⟩
 ·have h71:=rq (hh.d 46 71);have hC:=Hd (FA20.o _ hh.rel);have hJ:=hh.j;clear hh;go_simp;refine hC.o.mono ?_;rintro e w9 ⟨rfl,hb9⟩;exact ⟨_,rfl,hb9,rfl,hJ.o⟩
 have h72:=rq (hh.d 47 72);rotate_left;have h68:=rq (hh.d 43 68);have h73:=rq (hh.d 48 73);rotate_left;have h74:=rq (hh.d 49 74);rotate_left;have h3:=hh.o 3 (v:=.slice (some ⟨lb,lo,none⟩) 1 c) rfl;rotate_left;have h76:=rq (hh.d 51 76);have li:=(FD.o _ hh.rel).2.2;rotate_left
 ·have h77:=rq (hh.d 52 77);have hRG:=(FO.o _ hh.rel).row;have hJ:=Hd hh.st;exact wp_load_mid 76 _ rfl lb lo (by simpa [go_sem] using h77) q.cs _ hRG underlying76 rfl (by kernel_rfl) ⟨_,rfl,rB,rfl,hJ.o⟩
 ·have h78:=rq (hh.d 53 78);have hC:=Hd (FA30.o _ hh.rel);have hJ:=hh.j;clear hh;go_simp;refine hC.o.mono ?_;rintro e w9 ⟨rfl,hb9⟩;exact ⟨_,rfl,hb9,rfl,hJ.o⟩
 have h79:=rq (hh.d 54 79);rotate_left;have h75:=rq (hh.d 50 75);have h80:=rq (hh.d 55 80);rotate_left;have h81:=rq (hh.d 56 81);rotate_left;have h3:=hh.o 3 (v:=.slice (some ⟨lb,lo,none⟩) 1 c) rfl;rotate_left;have h83:=rq (hh.d 58 83);have li:=(FD.o _ hh.rel).2.2;rotate_left
 ·have h84:=rq (hh.d 59 84);have hRG:=(FO.o _ hh.rel).row;have hJ:=Hd hh.st;exact wp_load_mid 76 _ rfl lb lo (by simpa [go_sem] using h84) q.cs _ hRG underlying76 rfl (by kernel_rfl) ⟨_,rfl,rB,rfl,hJ.o⟩
 have h3:=hh.o 3 (v:=.slice (some ⟨lb,lo,none⟩) 1 c) rfl;rotate_left;have h86:=rq (hh.d 61 86);have li:=(FD.o _ hh.rel).2.2;rotate_left
 ·have h87:=rq (hh.d 62 87);have hRG:=(FO.o _ hh.rel).row;have hJ:=Hd hh.st;exact wp_load_mid 76 _ rfl lb lo (by simpa [go_sem] using h87) q.cs _ hRG underlying76 rfl (by kernel_rfl) ⟨_,rfl,rB,rfl,hJ.o⟩
 ·have h85:=rq (hh.d 60 85);have h88:=rq (hh.d 63 88);have hC:=Hd (FE.o _ hh.rel);have hJ:=hh.j;clear hh;go_simp;refine hC.o.mono ?_;rintro e w9 ⟨rfl,hb9⟩;exact ⟨_,rfl,hb9,rfl,hJ.o⟩
 have h82:=rq (hh.d 57 82);have h89:=rq (hh.d 64 89);rotate_left;have h90:=rq (hh.d 65 90);rotate_left
 ·have hC:=Hd (FT.o w1);have hJ:=hh.j;clear hh;go_simp;refine hC.o.mono ?_;rintro e w9 ⟨rfl,hb9⟩;exact ⟨_,rfl,hb9,rfl,hJ.o⟩
 ·have hJ:=Hd hh.st;exact wp_build _ _ rfl (by simp [go_sem]) (build_pt ⟨98304,32768⟩ w1) ⟨_,rfl,rB,rfl,hJ.o⟩
 have h92:=rq (hh.d 67 92);have h93:=rq (hh.d 68 93);rotate_left;have h91:=rq (hh.d 66 91);have h94:=rq (hh.d 69 94);rotate_left;have h95:=rq (hh.d 70 95);rotate_left
 any_goals (clear hh;go_simp;exact ⟨_,rfl,rB,rfl,trivial⟩)
 intro L w8 val hL hJ hR hv;have h0:val 0=.bool true:=hv 71 0 (by kernel_rfl);have HR8:=Hd hR;clear hv hL hJ hR;simp only [regs.putAll,List.map_cons,List.map_nil,h0];simp only [Act.put,List.setIfInBounds_toArray,List.set_cons_zero,List.set_cons_succ];clear h0
 skip
 go_wp2_with (fail);go_ret;exact ⟨rfl,HB7.o.trans (Below.mono HR8.o HB7.o.size)⟩
end
section
open Go.RowKit pxm imm trm Go.Maps
theorem blk_retq {P:Program} {fn:Func} {p q:Tmp} {ty:TypeId} {tmps:Array Value} {w:World} {g:Nat} {cs:List Value} {d:TypeDesc} {v:Value} {Q:Ending->World->Prop} (hfn:fn.results=#[.tmp q,.cell p ty])
  (hp:tmps.getD p undef=.pointer (some ⟨g,0,none⟩)) (hq:tmps.getD q undef=v) (hB:Blk w g cs) (hu:P.underlying ty=some d) (hd:(match d with | .struct _ | .array _ _=>true | _=>false)=true) (hi:(P.info? ty).map (·.size)=some cs.length)
  (h:Q (.returned (.tuple #[v,.agg cs.toArray])) w):bodyPost P fn Q Exit.ret { tmps:=tmps,defers:=[] } w:=by
 obtain ⟨T,hg⟩:=hB;refine bodyPost_ret_by (v:=.tuple #[v,.agg cs.toArray]) ?_ rfl h;have hp':tmps[p]?.getD undef=.pointer (some ⟨g,0,none⟩):=by simpa using hp
 have hq':tmps[q]?.getD undef=v:=by simpa using hq
 simp [results,hfn,hp',hq',asAddr,run_loadVar_row w g T ty _ _ d hg hu hd (by simpa using hi)]
section
variable {w w':World} {g:Nat} {cs:List Value} {T:TypeId}
theorem DPl.kx {v:Value} {n:Nd} (h:DPl w v n) (hb:Blk w g cs) (hc:noPx cs) (hk:KX g w w'):DPl w' v n:=by
 obtain ⟨A,c,e,hr⟩:=h;refine ⟨A,c,e,hr.stays fun a ea hne=>hk.same _ (Row.lt hr.row ea hne) fun e2=>?_⟩;obtain ⟨b,off,e3,hcl⟩:=hr.row (List.length_pos_iff.2 hne);rw [ea] at e3;obtain rfl:=Option.some.inj e3;have h1:=hcl 0 (List.length_pos_iff.2 hne);obtain rfl:b=g:=e2;have h2:=hb.cell (off+0);rw [h1] at h2;exact hc _ (List.mem_of_getElem? h2.symm) _ rfl
theorem DocAt.kx {v:Value} {a b M:Int} {x:PSc} (h:DocAt w v a b M x) (hb:BlkT w g cs T) (hT:T≠132) (hc:noPx cs) (hk:KX g w w'):DocAt w' v a b M x:=by
 obtain ⟨tv,m,e,h1,h2⟩:=h;refine ⟨tv,m,e,h1.stays fun _ _ a _ hy ea=>hk.same _ (by obtain ⟨cs,fz,h3⟩:=hy a ea;exact lt_of_block h3) (hy.not_blk ea hb hT),?_⟩;have hne:=h2.not_b hb.blk;obtain ⟨es,g1,g2,g3⟩:=h2.ex;refine ⟨es,g1.stays (hk.same _ g1.inside (Ne.symm hne)),g2,fun i hi=>?_⟩;obtain ⟨v,e,hv⟩:=g3 i hi;exact ⟨v,e,hv.kx hb.blk hc hk⟩
end
def twoQ (p r:Nat):Bset:=fun k=>k=p∨k=r
abbrev z5:List Value:=Vf
structure PlD (w0:World) (p r g b m:Nat) (s:Sh) (x:PSc) (w:World):Prop where
 blk:∃ A c dm,BlkT w p (Vb 8 8 30 A x.t.length c dm) 34∧DTree w (.slice A x.t.length c) x.t∧DMap w dm (has x.t) x.nd
 res:BlkT w r z5 34
 my:MyS w0 g b m s ⟨8,⟨8,30⟩,twoQ p r⟩ x w
 pge:w0.heap.size<=p
 rlt:r<w0.heap.size
structure RV (r:Nat) (cs0 cs:List Value) (d:Bool) (w:World):Prop where
 no:d=false->Blk w r cs0
 yes:d=true->Blk w r cs
def PlayedQ (w:World) (e:Ending) (w':World):Prop:=∃ g b m s v y,e=.returned (.tuple #[.pointer (some ⟨g,0,none⟩),v])∧MyS w g b m s ⟨8,⟨8,30⟩,fun _=>False⟩ y w'∧DocAt w' v 8 8 30 y∧Sane y∧y.t.length<=120
theorem played_any (A:Option Addr) (L:List OpL) (c:Nat) (w:World) (h1:TrAt w A L) (hf:fits L) :
  Calls prog 20 (Vn 8 8 A L.length c).toArray w (PlayedQ w):=by
 have HT:=Hd h1;have HF:=Hd hf;have hlb:(L.length:Int)<=30:=by have:=hf.2.1;omega
 clear h1 hf;go_enter func20,ntmps20
 go_upto_region 1 with (fail)
 have HRA:Hid (BlkT (w.alloc (.cells Vf.toArray 34)) w.heap.size z5 34):=BlkT.new w z5 34;have HBA:Hid (Below w.heap.size w (w.alloc (.cells Vf.toArray 34))):=bR.alloc nR _;generalize (w.alloc (.cells Vf.toArray 34))=wA at *
 obtain ⟨r,hr⟩:∃ r,w.heap.size=r:=⟨_,rfl⟩
 rw [hr] at HRA HBA ⊢;have HRR:=Hd hr;clear hr;go_wp2_with (fail);refine (dnew_any 8 8 30 wA).mono ?_;rintro e wB ⟨v3,rfl,hd3,hb3⟩;obtain ⟨A2,c2,m2,rfl,ht3,hm3⟩:=hd3.ex;have HRB:Hid (BlkT wB r z5 34):=HRA.o.stays (hb3.block _ HRA.o.inside);have HBB:Hid (Below r w wB):=HBA.o.trans (hb3.mono (Nat.le_of_lt HRA.o.inside));have HT3:Hid (DTree wB (.slice A2 PSc.new.t.length c2) PSc.new.t):=ht3;have HM3:Hid (DMap wB m2 (has PSc.new.t) PSc.new.nd):=hm3;have HZ:Hid (BlkT (wB.alloc (.cells Vf.toArray 34)) wB.heap.size z5 34):=BlkT.new wB z5 34
 have HBZ:Hid (Below wB.heap.size wB (wB.alloc (.cells Vf.toArray 34))):=bR.alloc nR _;clear hd3 hb3 ht3 hm3 HRA HBA
 go_upto_region 2 with (first | (with_reducible refine gS ?_;first | (refine wpl_stow 34 _ _ rfl rfl rfl _ 0 rfl ((Vb 8 8 30 A2 PSc.new.t.length c2 m2)) rfl (Vf) HZ.o.blk ((Vb 8 8 30 A2 PSc.new.t.length c2 m2)) rfl (nE rfl) (by kernel_rfl) rfl ?_;intro wC HWC HKC)))
 have HPC:Hid (BlkT wC wB.heap.size (Vb 8 8 30 A2 PSc.new.t.length c2 m2) 34):=HZ.o.wrote HWC.o HKC.o;have HBC:Hid (Below wB.heap.size wB wC):=HWC.o.below HBZ.o nR;have HRC:Hid (BlkT wC r z5 34):=HRB.o.stays (HBC.o.block _ HRB.o.inside);have HRL:Hid (r<wB.heap.size):=HRB.o.inside;have HTC:Hid (DTree wC (.slice A2 PSc.new.t.length c2) PSc.new.t):=HT3.o.below HBC.o;have HMC:Hid (DMap wC m2 (has PSc.new.t) PSc.new.nd):=HM3.o.below HBC.o;clear HZ HBZ HWC HKC HRB HT3 HM3
 obtain ⟨p,hp⟩:∃ p,wB.heap.size=p:=⟨_,rfl⟩
 have HPP:=Hd hp;rw [hp] at HPC HBC HRL ⊢;clear hp;have HNEW:=Hd (new_ok (w:=wC) ⟨8,⟨8,30⟩,twoQ p r⟩ (fun k hk=>hk.elim (fun e=>by rw [e];exact HPC.o.inside) fun e=>by rw [e];exact HRC.o.inside) ⟨show (1:Int)<=8 by decide,show (8:Int)<=4096 by decide⟩ ⟨show (1:Int)<=8 by decide,show (8:Int)<=4096 by decide⟩ ⟨show (1:Int)<=30 by decide,show (30:Int)<=65536 by decide⟩);go_wp2_with (fail);refine HNEW.o.mono ?_;unfold NewQ;rintro e w2 ⟨g,b,m,s0,rfl,hs1,hb2,hf2,-⟩
 have HPL:Hid (PlD wB p r g b m s0 PSc.new w2):=⟨⟨A2,c2,m2,HPC.o.stays (hb2.block _ HPC.o.inside),HTC.o.below hb2,HMC.o.below hb2⟩,HRC.o.stays (hb2.block _ HRC.o.inside),⟨hs1,fun k hk=>by have h1:=hf2 k hk;have h2:=HPC.o.inside;rw [HPP.o];omega,by rw [HPP.o];exact HBC.o.trans (hb2.mono (Nat.le_of_lt HPC.o.inside))⟩,Nat.le_of_eq HPP.o,by rw [HPP.o];exact HRL.o⟩
 clear hs1 hb2 hf2 HNEW HPC HBC HRC HTC HMC
 go_upto_region 6 with (fail)
 go_loopw [36] (fun x36 wr=>∃ j:Nat,j<=L.length∧x36=.int .i64 j∧Hid (∃ s x,PlD wB p r g b m s x wr∧Sane x∧x.t.length<=total (L.take j))) (fun x36 _=>L.length - (intOf x36).toNat)
 case atStart=>exact ⟨0,Nat.zero_le _,rfl,s0,PSc.new,HPL.o,PSc.new_sane,Nat.zero_le _⟩
 case round=>
  obtain ⟨j,hj,rfl,HX⟩:=hrel;generalize wr=wD at *;obtain ⟨s,x,hpl,hsx,hlx⟩:=HX.o;obtain ⟨Ad,cd,dm,hpb,hdt,hdm⟩:=hpl.blk;have HPB:=Hd hpb;have HDT:=Hd hdt;have HDM:=Hd hdm;have HMY:=Hd hpl.my;have HRS:=Hd hpl.res;have HPG:Hid (wB.heap.size<=p):=hpl.pge;have HSX:=Hd hsx;have HLX:=Hd hlx;clear hpl hsx hlx HX hpb hdt hdm HPL;by_cases hlt:j<L.length
  ·have t4:decide (j<L.length)=true:=by simpa using hlt
   have HLT:=Hd hlt
   have HBW:Hid (Below w.heap.size w wD):=by
    rw [HRR.o];exact HBB.o.trans (HMY.o.bel.mono (by have:=HRL.o;have:=HPP.o;omega))
   obtain ⟨lb,lo,rA,hcell⟩:=(HT.o.below HBW.o).row (by omega);subst rA
   obtain ⟨q,hq⟩:∃ q,q=L[j]'hlt:=⟨_,rfl⟩
   have hqc:wD.cell? ⟨lb,lo+j,none⟩=some (.slice q.A q.l.length q.c):=by
    have:=hcell j hlt 0 (.slice q.A q.l.length q.c) (by rw [hq];rfl)
    rwa [Nat.mul_one,Nat.add_zero] at this
   have HQM:Hid (q∈L):=by rw [hq];exact List.getElem_mem hlt
   have HTK:Hid (L.take (j+1)=L.take j++[q]):=by rw [hq];exact List.take_succ_eq_append_getElem hlt
   have i0:=World.block_lt_of_cell? wD ⟨lb,_,none⟩ hqc
   have HQL:Hid (x.t.length+q.l.length<=total (L.take (j+1))∧total (L.take (j+1))<=120):=by
    refine ⟨?_,Nat.le_trans (total_take (j+1)) HF.o.2.2⟩;rw [HTK.o,total_snoc];have:=HLX.o;omega
   have HTHQ:Hid (∀ o∈q.l,o.o.lk.l.length<=300):=HF.o.1 q HQM.o
   have HRM:Hid (q.l.length<=1024->Room 30 x q.l.length):=fun _=>by
    have:=HQL.o;exact ⟨by omega,.inl (by omega)⟩
   have HOP:Hid (OpsR wD q.A q.l):=(HT.o.below HBW.o).ops q HQM.o;have HOK:Hid (∀ q'∈q.l,OpOk q'.o):=fun q' hq'=>(HOP.o.px q' hq').2.ok (HTHQ.o q' hq');have HN:Hid (q.l.length<=100000):=by have:=HQL.o;show _<=_;omega
   have HA:=Hd (applied HMY.o.at_ HSX.o q.l q.A q.c ((HT.o.ops q HQM.o).at_ HBW.o fun k hk=>by have h1:=HMY.o.ft k hk;have h2:=HRL.o;have h3:=HPP.o;have h4:=HRR.o;omega) HOK.o HRM.o (by have:=HN.o;omega))
   have HSN:Hid (Sane (applyS 30 setSt x (q.l.map (·.o))).1):=HSX.o.apply fun o ho'=>by
    obtain ⟨q',h1,h2⟩:=List.mem_map.1 ho';rw [← h2];exact HOK.o q' h1
   have HYL:Hid ((applyS 30 setSt x (q.l.map (·.o))).1.t.length<=total (L.take (j+1))):=by
    have h1:=(applyS_len (M:=30) (l:=q.l.map (·.o)) HSX.o.ok).1;rw [List.length_map] at h1;exact Nat.le_trans h1 HQL.o.1
   obtain ⟨os,hos⟩:∃ os,q.l.map (·.o)=os:=⟨_,rfl⟩
   have HOS:=Hd hos;rw [hos] at HA HSN HYL
   obtain ⟨⟨y,ri,re⟩,hR⟩:∃ R,applyS 30 setSt x os=R:=⟨_,rfl⟩
   have HRQ:=Hd hR;have HA2:Hid (Calls prog 31 #[.pointer (some ⟨g,0,none⟩),.slice q.A q.l.length q.c] wD (ApplyQ g b m ⟨8,⟨8,30⟩,twoQ p r⟩ s x (y,ri,re) wD)):=by rw [← hR];exact HA.o
   rw [hR] at HSN HYL;have HFP:Hid (¬ SFoot b m s x.t p):=(HMY.o.at_.old p (.inl rfl)).2.1;have HFR:Hid (¬ SFoot b m s x.t r):=(HMY.o.at_.old r (.inr rfl)).2.1;clear hcell hq hlt hos hR HA hj
   go_upto_region 8 with (fail)
   clear hqc i0;go_wp2_with (fail);refine HA2.o.mono ?_;unfold ApplyQ;rintro e w1 ⟨s1,rfl,hs1,ht1⟩;simp only at hs1 ht1 ⊢;have HS1:=Hd hs1;have HM1:Hid (MyS wB g b m s1 ⟨8,⟨8,30⟩,twoQ p r⟩ y w1):=HMY.o.turn hs1 ht1;have HPB1:Hid (BlkT w1 p (Vb 8 8 30 Ad x.t.length cd dm) 34):=HPB.o.stays (ht1.far p HPB.o.inside HFP.o).2;have HRS1:Hid (BlkT w1 r z5 34):=HRS.o.stays (ht1.far r HRS.o.inside HFR.o).2;have HDT1:Hid (DTree w1 (.slice Ad x.t.length cd) x.t):=DTree.turn HMY.o.at_ ht1 HDT.o
   have HDM1:Hid (DMap w1 dm (has x.t) x.nd):=DMap.turn HMY.o.at_ ht1 HDM.o (has_iff.2 (.inl rfl));have HOP0:=Hd ((HT.o.ops q HQM.o));have FP:Hid (∀ W,DR w1.heap.size w1 W->Blk W p (Vb 8 8 30 Ad x.t.length cd dm)):=fun W hr=>HPB1.o.blk.below' hr.bel
   have FR:Hid (∀ W,DR w1.heap.size w1 W->Calls prog 40 #[.slice q.A q.l.length q.c] W (RefOpsQ os W)):=fun W hr=>by
    have h1:=refops_any q.l q.A q.c W (HOP0.o.below (by
     rw [HRR.o];have h2:r<=wB.heap.size:=by have:=HRL.o;have:=HPP.o;omega
     exact HBB.o.trans ((HM1.o.bel.mono h2).trans (hr.bel.mono (Nat.le_trans h2 HM1.o.bel.size))))) HTHQ.o HN.o
    rw [HOS.o] at h1;exact h1
   have FC:Hid (∀ W,DR w1.heap.size w1 W->∀ A8 c8 l8,OpsD W A8 l8->l8.map (·.o)=os->Calls prog 39 #[.agg (Vb 8 8 30 Ad x.t.length cd dm).toArray,.slice A8 (l8:List OpR).length c8] W fun e w'=>∃ v',e=.returned (.tuple #[v',.int .i64 ri,.int .i64 re])∧DP 8 8 30 y 0 v' w'∧Below W.heap.size W w'):=fun W hr A8 c8 l8 hod hos8=>by
    have hlen:l8.length=q.l.length:=by
     have h1:=congrArg List.length (hos8.trans HOS.o.symm)
     rwa [List.length_map,List.length_map] at h1
    have h1:=dapply_any l8 A8 c8 8 8 30 (.agg (Vb 8 8 30 Ad x.t.length cd dm).toArray) x HSX.o W (DBlk.doc (HDT1.o.below hr.bel) (HDM1.o.below hr.bel)) hod (fun q' hq'=>by
     have h2:q'.o∈q.l.map (·.o):=by rw [HOS.o,← hos8];exact List.mem_map_of_mem hq'
     obtain ⟨q2,h3,h4⟩:=List.mem_map.1 h2;rw [← h4]
     exact HOK.o q2 h3) (by rw [hlen];exact HRM.o) (by rw [hlen];have:=HN.o;omega)
    rw [hos8,HRQ.o] at h1;refine h1.mono ?_;unfold DApQ;rintro e w' ⟨v',h2,h3,h4⟩;refine ⟨v',h2,⟨?_,fun _=>h3⟩,h4⟩;obtain ⟨A7,c7,m7,h5,-,-⟩:=h3.ex;rw [h5];exact dsh _ _ _ _ _ _ _
   clear hs1 ht1 HMY HPB HRS HDT HDM HA2 HFP HFR
   go_upto_region 9 with (fail)
   generalize w1=wS at *
   refine wRv (DR wS.heap.size) (fun L V wx=>VJ wS.heap.size (L 8) (L 9) (V 15) (V 51) wx∧(L 9=true->L 5=true)∧(L 9=true->L 8=true)) [47,48,49,50,46,51,52,53,15,16,17] (fun _=>DR.refl _ _) (fun _ _ _ h k=>h.trans k) (fun i=>match i with
    |0=>rV (.agg ((Vb 8 8 30 Ad x.t.length cd dm)).toArray)
    |1=>rV (.slice q.A q.l.length q.c)
    | 2=>sayRow wS.heap.size os
    | 3=>(⟨fun v wv=>∃ v',v=.tuple #[v',.int .i64 ri,.int .i64 re]∧DP 8 8 30 y 0 v' wv,fun v q1 q2 h hb=>h.elim fun v' h=>⟨v',h.1,h.2.dr hb⟩⟩:regs.Say (DR wS.heap.size))
    | 4=>(⟨fun v wv=>∃ v',v=.tuple #[v',.int .i64 ri,.int .i64 re]∧DP 8 8 30 y 0 v' wv,fun v q1 q2 h hb=>h.elim fun v' h=>⟨v',h.1,h.2.dr hb⟩⟩:regs.Say (DR wS.heap.size))
    | 5=>(⟨fun v wv=>DP 8 8 30 y 0 v wv,fun v q1 q2 h hb=>h.dr hb⟩:regs.Say (DR wS.heap.size))
    |6|10=>rV (.int .i64 ri)
    |7|11=>rV (.int .i64 re)
    | _=>ra) (DR.below bR.drew nR) (⟨VJ.start (Below.refl 0 _).drew.size,nofun,nofun⟩) ⟨?_,?_,?_,?_,?_,?_,?_,?_,?_,?_,?_,?_,trivial⟩ ?_
   ·refine zpv fun L a w1q hh=>?_;have h8:=hh.p 8 p 0;have hB:=Hd (FP.o _ hh.rel);have hJ:=Hd hh.st;exact wp_take 34 _ rfl p 0 (by simpa [go_sem] using h8) _ hB.o ((Vb 8 8 30 Ad x.t.length cd dm)) rfl _ underlying34 rfl (by kernel_rfl) ⟨_,rfl,DR.refl _ _,rfl,⟨VJ.slots hJ.o.1 sn sn,hJ.o.2⟩⟩
   ·refine zpv fun L a w1q hh=>?_;have h12:=hh.o 12 (v:=.slice q.A q.l.length q.c) rfl;have hJ:=hh.j;clear hh;go_simp;exact ⟨_,rfl,DR.refl _ _,rfl,⟨VJ.slots hJ.o.1 sn sn,hJ.o.2⟩⟩
   ·refine zpv fun L a w1q hh=>?_;have h48:=rq (hh.d 1 48);have hC:=Hd (FR.o w1q hh.rel);have hbz:=Hd (show wS.heap.size<=w1q.heap.size from hh.rel.bel.size);have hJ:=Hd hh.st;have hsz:=Hd hh.size;have hun:=Hd hh.un;clear hh;go_simp;refine hC.o.mono ?_;unfold RefOpsQ;rintro e w9 ⟨A9,c9,l9,rfl,hod9,hos9,hb9⟩;exact ⟨_,rfl,DR.below hb9 hbz.o,⟨A9,c9,l9,rfl,hod9,hos9⟩,⟨VJ.slots (VJ.below hJ.o.1 hb9) sn sn,hJ.o.2⟩⟩
   ·refine zpv fun L a w1q hh=>?_;have h47:=rq (hh.d 0 47)
    obtain ⟨A8,c8,l8,e8,hod8,hos8⟩:=(show ∃ A c l9,(a.tmps.getD 49 undef)=.slice A (l9:List OpR).length c∧OpsD w1q A l9∧l9.map (·.o)=os from hh.d 2 49)
    have h49:a.tmps[49]?.getD undef=.slice A8 l8.length c8:=rq (e8);have hC:=Hd (FC.o w1q hh.rel A8 c8 l8 hod8 hos8);have hbz:=Hd (show wS.heap.size<=w1q.heap.size from hh.rel.bel.size);have hJ:=Hd hh.st;have hsz:=Hd hh.size;have hun:=Hd hh.un;clear hh e8 hod8 hos8;go_simp;refine hC.o.mono ?_;rintro e w9 ⟨v9,rfl,hp9,hb9⟩;exact ⟨_,rfl,DR.below hb9 hbz.o,⟨v9,rfl,hp9⟩,⟨VJ.slots (VJ.below hJ.o.1 hb9) sn sn,hJ.o.2⟩⟩
   ·refine zpv fun L a w1q hh=>?_
    obtain ⟨v8,e8,hp8⟩:=(show ∃ v',(a.tmps.getD 50 undef)=.tuple #[v',.int .i64 ri,.int .i64 re]∧DP 8 8 30 y 0 v' w1q from hh.d 3 50)
    have h50:a.tmps[50]?.getD undef=.tuple #[v8,.int .i64 ri,.int .i64 re]:=rq (e8);have HP8:=Hd hp8;have hJ:=Hd hh.st;have hsz:=Hd hh.size;have hun:=Hd hh.un;clear hh e8 hp8;go_simp;exact ⟨_,rfl,DR.refl _ _,⟨v8,rfl,HP8.o⟩,⟨VJ.slots hJ.o.1 sn sn,hJ.o.2⟩⟩
   ·refine zpv fun L a w1q hh=>?_
    obtain ⟨v8,e8,hp8⟩:=(show ∃ v',(a.tmps.getD 46 undef)=.tuple #[v',.int .i64 ri,.int .i64 re]∧DP 8 8 30 y 0 v' w1q from hh.d 4 46)
    have h46:a.tmps[46]?.getD undef=.tuple #[v8,.int .i64 ri,.int .i64 re]:=rq (e8);have HP8:=Hd hp8;have HN8:=Hd (not_yet hh.st.2.1 hh.un);have hJ:=Hd hh.st;have hsz:=Hd hh.size;have hun:=Hd hh.un;clear hh e8 hp8;go_simp;exact ⟨_,rfl,DR.refl _ _,HP8.o,⟨VJ.told hJ.o.1 HN8.o sn,fun _=>rfl,hJ.o.2.2⟩⟩
   ·refine zpv fun L a w1q hh=>?_
    obtain ⟨v8,e8,hp8⟩:=(show ∃ v',(a.tmps.getD 46 undef)=.tuple #[v',.int .i64 ri,.int .i64 re]∧DP 8 8 30 y 0 v' w1q from hh.d 4 46)
    have h46:a.tmps[46]?.getD undef=.tuple #[v8,.int .i64 ri,.int .i64 re]:=rq (e8);have HP8:=Hd hp8;have hJ:=Hd hh.st;have hsz:=Hd hh.size;have hun:=Hd hh.un;clear hh e8 hp8;go_simp;exact ⟨_,rfl,DR.refl _ _,rfl,⟨VJ.slots hJ.o.1 sn sn,hJ.o.2⟩⟩
   ·refine zpv fun L a w1q hh=>?_
    obtain ⟨v8,e8,hp8⟩:=(show ∃ v',(a.tmps.getD 46 undef)=.tuple #[v',.int .i64 ri,.int .i64 re]∧DP 8 8 30 y 0 v' w1q from hh.d 4 46)
    have h46:a.tmps[46]?.getD undef=.tuple #[v8,.int .i64 ri,.int .i64 re]:=rq (e8);have HP8:=Hd hp8;have hJ:=Hd hh.st;have hsz:=Hd hh.size;have hun:=Hd hh.un;clear hh e8 hp8;go_simp;exact ⟨_,rfl,DR.refl _ _,rfl,⟨VJ.slots hJ.o.1 sn sn,hJ.o.2⟩⟩
   ·refine zpv fun L a w1q hh=>?_;have HN8:=Hd (not_yet hh.st.2.2 hh.un);have hbz:=Hd (show wS.heap.size<=w1q.heap.size from hh.rel.bel.size);have hJ:=Hd hh.st;have hsz:=Hd hh.size;have hun:=Hd hh.un;clear hh;go_simp;exact ⟨_,rfl,DR.below (bR.alloc nR _) hbz.o,trivial,⟨VJ.made hJ.o.1 HN8.o (regv.sl_same (by rw [hsz.o];simp)),hJ.o.2.1,fun _=>rfl⟩⟩
   ·refine zpv fun L a w1q hh=>?_;have hup:=hh.up 8 (by kernel_rfl);obtain ⟨g9,c9,h9,hg9,hB9,hn9,hl9,-⟩:=hh.st.1.ex hup
    obtain ⟨⟨cs8,e8,hl8,hn8,ho8⟩,hd8⟩:=(show DP 8 8 30 y 0 (a.tmps.getD 51 undef) w1q from hh.d 5 51)
    have hJ:=Hd hh.st;have hu34:=Hd (hh.up 5 (by kernel_rfl));refine wp_stow 34 _ _ rfl g9 0 (by have h:=h9;unfold regv.sl at h;simpa [go_sem] using h) cs8 (by simpa [go_sem] using e8) _ hB9.blk (by rw [hl8,hl9];decide) (by rw [hl8];kernel_rfl) ho8 ?_;intro w9 hW9 hC9
    have hC9':Blk w9 g9 cs8:=by
     have e:c9.take 0++cs8++c9.drop (0+cs8.length)=cs8:=by rw [hl8,List.drop_of_length_le (by rw [hl9];decide)];simp
     rw [← e];exact hC9
    have hP:=hJ.o.1.put h9 hg9 hB9 hn9 hW9 hC9' hn8 hl8 e8;exact ⟨undef,rfl,hP.2,trivial,⟨hP.1,fun _=>hu34.o,fun _=>hup⟩⟩
   ·refine zpv fun L a w1q hh=>?_;have h52:=rq (hh.d 6 52);have hJ:=hh.j;clear hh;go_simp;exact ⟨_,rfl,DR.refl _ _,rfl,⟨VJ.slots hJ.o.1 sn sn,hJ.o.2⟩⟩
   ·refine zpv fun L a w1q hh=>?_;have h53:=rq (hh.d 7 53);have hJ:=hh.j;clear hh;go_simp;exact ⟨_,rfl,DR.refl _ _,rfl,⟨VJ.slots hJ.o.1 sn sn,hJ.o.2⟩⟩
   intro L w4 val hL hJ hR hv;have h16:val 16=.int .i64 ri:=hv 10 16 (by kernel_rfl);have h17:val 17=.int .i64 re:=hv 11 17 (by kernel_rfl);have HR4:=Hd hR;obtain ⟨g9,c9,e9,hg9,hb9,hn9,hl9,hv9⟩:=hJ.1.ex (hL 8 (by decide));have hv34:=hv9 (hL 9 (by decide));have hd34:DP 8 8 30 y 0 (val 51) w4:=hv 5 51 (by kernel_rfl);have HD34:=Hd hd34;have HV34:=Hd hv34;have HB9:=Hd (And.intro hg9 hb9);clear hv hL hJ hR hd34 hv34 hg9 hb9 hn9 hl9 hv9;simp only [regs.putAll,List.map_cons,List.map_nil,h16,h17];simp only [Act.put,List.setIfInBounds_toArray,List.set_cons_zero,List.set_cons_succ];clear h16 h17
   skip
   rw [e9];clear e9;have HPB4:Hid (BlkT w4 p (Vb 8 8 30 Ad x.t.length cd dm) 34):=HPB1.o.stays (HR4.o.bel.block _ HPB1.o.inside);have HRS4:Hid (BlkT w4 r z5 34):=HRS1.o.stays (HR4.o.bel.block _ HRS1.o.inside);have HM4:Hid (MyS wB g b m s1 ⟨8,⟨8,30⟩,twoQ p r⟩ y w4):=HM1.o.below HR4.o.bel;obtain ⟨An,cn,mn,hvn,htn,hmn⟩:=(HD34.o.2 rfl).ex
   have hcn:c9=(Vb 8 8 30 An y.t.length cn mn):=by
    have h1:=HV34.o.symm.trans hvn
    injection h1 with h1
    have h2:=congrArg Array.toList h1
    simpa using h2
   subst hcn;have HTN:=Hd htn;have HMN:=Hd hmn;clear hvn htn hmn HD34 HV34 FP FR FC HPB1 HRS1 HM1 HDT1 HDM1 HS1;have q2:(re != re)=false:=by simp
   have q3:decide (re=re)=true:=by simp
   go_upto_region 13 with (first | (with_reducible refine gL ?_;first | (refine wpl_take 34 _ rfl rfl _ 0 rfl ((Vb 8 8 30 An y.t.length cn mn)) HB9.o.2.blk ((Vb 8 8 30 An y.t.length cn mn)) rfl _ underlying34 rfl (by kernel_rfl) ?_)) | (with_reducible refine gS ?_;first | (refine wpl_stow 34 _ _ rfl rfl rfl _ 0 rfl ((Vb 8 8 30 An y.t.length cn mn)) rfl ((Vb 8 8 30 Ad x.t.length cd dm)) HPB4.o.blk ((Vb 8 8 30 An y.t.length cn mn)) rfl (nE rfl) (by kernel_rfl) rfl ?_;intro w5 HW5 HK5)))
   go_wp2_with (fail)
   go_roundw
   case rel=>
    refine ⟨j+1,HLT.o,by go_num,s1,y,⟨⟨An,cn,mn,HPB4.o.wrote HW5.o HK5.o,HTN.o.wrote HPB4.o (by decide) HW5.o,HMN.o.wrote HPB4.o.blk (by unfold noPx;simp) HW5.o⟩,HRS4.o.stays (HW5.o.far (by have:=HRL.o;omega)),⟨HM4.o.at_.part (E':=twoQ p r) (fun k _ hk=>HW5.o.far fun e=>hk (.inl e)) (fun k hk=>?_),HM4.o.ft,HW5.o.below HM4.o.bel HPG.o⟩,HPG.o,by rw [HPP.o];exact HRL.o⟩,HSN.o,HYL.o⟩;have hk':=HM4.o.at_.old k hk;exact ⟨by rw [HW5.o.size];exact hk'.1,.inl hk⟩
   case measure=>have:=HLT.o;simp [intOf];omega
  ·obtain rfl:j=L.length:=by omega
   have t4:decide (L.length<L.length)=false:=by simp
   clear hlt
   go_upto_region 14 with (fail)
   have FP:Hid (∀ W,KX r wD W->Blk W p (Vb 8 8 30 Ad x.t.length cd dm)):=fun W hr=>by
    exact (HPB.o.stays (hr.same p HPB.o.inside (by have:=HRL.o;omega))).blk
   refine wR (KX r) (fun L wx=>RV r z5 (Vb 8 8 30 Ad x.t.length cd dm) (L 3) wx) [60,61,6] (fun _=>KX.refl _ _) (fun _ _ _ h k=>h.trans k) (fun i=>match i with
    |0|2=>rp g 0
    |1=>rV (.agg ((Vb 8 8 30 Ad x.t.length cd dm)).toArray)
    | _=>ra) (KX.of_below bR.drew) (⟨fun _=>HRS.o.blk.below' bR.drew,nofun⟩) ⟨?_,?_,?_,?_,trivial⟩ ?_
   any_goals (first|refine zp fun L a w1 hh=>?_|fail)
   have h9:=hh.p 9 g 0;rotate_left
   ·have h8:=hh.p 8 p 0;have hB:=Hd (FP.o _ hh.rel);have hJ:=Hd hh.st;exact wp_take 34 _ rfl p 0 (by simpa [go_sem] using h8) _ hB.o ((Vb 8 8 30 Ad x.t.length cd dm)) rfl _ underlying34 rfl (by kernel_rfl) ⟨_,rfl,KX.refl _ _,rfl,hJ.o⟩
   have h60:=rq (hh.d 0 60);rotate_left
   ·have h7:=hh.p 7 r 0;have h61:=rq (hh.d 1 61);have hB8:=hh.st.no hh.un;refine wp_stow 34 _ _ rfl r 0 (by simpa [go_sem] using h7) (Vb 8 8 30 Ad x.t.length cd dm) (by simpa [go_sem] using h61) _ hB8 (nE rfl) (by kernel_rfl) (by rfl) ?_;intro w9 hW9 hB9;exact ⟨undef,rfl,KX.wrote hW9,trivial,⟨nofun,fun _=>hB9⟩⟩
   any_goals (have hJ:=hh.j;clear hh;go_simp;exact ⟨_,rfl,KX.refl _ _,rfl,hJ.o⟩)
   intro L w4 val hL hJ hR hv;have h60:val 60=.pointer (some ⟨g,0,none⟩):=hv 0 60 (by kernel_rfl);have h6:val 6=.pointer (some ⟨g,0,none⟩):=hv 2 6 (by kernel_rfl);have HR4:=Hd hR;have HV4:=Hd (hJ.yes (hL 3 (by decide)));clear hv hL hJ hR;simp only [regs.putAll,List.map_cons,List.map_nil,h60,h6];simp only [Act.put,List.setIfInBounds_toArray,List.set_cons_zero,List.set_cons_succ];clear h60 h6
   skip
   go_wp2_with (fail);refine blk_retq rfl rfl rfl HV4.o underlying34 rfl (by kernel_rfl) ?_;refine ⟨g,b,m,s,.agg (Vb 8 8 30 Ad x.t.length cd dm).toArray,x,rfl,⟨HMY.o.at_.part (E':=fun _=>False) (fun k hk hn=>HR4.o.same k hk fun e=>hn (.inr e)) (fun k hk=>hk.elim),fun k hk=>?_,?_⟩,?_,HSX.o,?_⟩
   ·have h1:=HMY.o.ft k hk;have h2:=HRL.o;have h3:=HPP.o;have h4:=HRR.o;omega
   ·rw [HRR.o];have h2:r<=wB.heap.size:=by have:=HRL.o;have:=HPP.o;omega
    exact HBB.o.trans ((HMY.o.bel.mono h2).trans (HR4.o.to_below nR (Nat.le_trans h2 HMY.o.bel.size)))
   ·exact (DBlk.doc HDT.o HDM.o).kx HRS.o (by decide) (by unfold noPx;simp) HR4.o
   ·have:=HLX.o;rw [List.take_length] at this;exact Nat.le_trans this HF.o.2.2
end
end Go.Proofs.YthoildbfghfhpaaGreat
