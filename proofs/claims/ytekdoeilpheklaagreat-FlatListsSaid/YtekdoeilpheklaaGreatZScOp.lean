import Derived.Test.YtekdoeilpheklaaGreatZFlX
import Derived.Test.YtekdoeilpheklaaGreatRows
import Derived.ProofKit
import Derived.OpenShut
import Derived.ChangeOld
import Derived.Carry
import Derived.Deep.Fields
import Derived.Deep.Slices
import Derived.SizedLaws
set_option maxHeartbeats 16000000
set_option maxRecDepth 100000
open Go.Proofs.Tryz
namespace Go.Proofs.YtekdoeilpheklaaGreat
section
open Go.RowKit fK fZ aB Go.Maps
theorem a1k(r:Bx)(w:World):(binOp .neq 56 (.agg r.uM.toArray) (.agg r.uM.toArray)).run prog w=.ok (.bool false) w:=by
 rw[run_neq_struct,a1l];rfl
theorem VX(r:Bx)(x y:Operand)(w:World):(eqGuard .neq 56 x y (.agg r.uM.toArray) (.agg r.uM.toArray)).run prog w=.ok () w:=by kernel_rfl
theorem YS(m:Mp)(w:World):(binOp .neq 53 (.agg m.cs.toArray) (.agg m.cs.toArray)).run prog w=.ok (.bool false) w:=by
 rw[run_neq_struct,YT];rfl
theorem QN(m:Mp)(x y:Operand)(w:World):(eqGuard .neq 53 x y (.agg m.cs.toArray) (.agg m.cs.toArray)).run prog w=.ok () w:=by kernel_rfl
theorem X7{P:Program}{ops:Array Oper}{rest:List Oper}{op:Oper}{a:Act}{w:World}{Q:Exit->Act->World->Prop}(k:BinOp)(t rt:TypeId)(x y:Operand)(ho:op.op=.binOp k t x y rt)(hgd:Region.wanted op (yielded ops a.tmps)=true){v1 v2 v:Value}(h1:a.eval x=v1)(h2:a.eval y=v2)(hg:(eqGuard k t x y v1 v2).run P w=.ok () w)(hrun:(binOp k t v1 v2).run P w=.ok v w)
  (h:wpList P ops Q rest (a.put op.dst v) w):wpList P ops Q (op::rest) a w:=by
 unfold wpList;rw[if_pos hgd];exact .inl (JM k t rt x y ho h1 h2 hg hrun h)
theorem TG(I:It)(Ac A:Option Addr)(cc c:Nat)(n:Nd)(D6 A2:Option Addr)(Ci c2:Nat)(hlk:n.lk=I.lk)(hok:I.Ok)(w:World)(h1:ou w ⟨I,Ac,cc,A,c⟩)(h2:xB w ⟨I,n,D6,Ci,A2,c2⟩) :
  Calls prog 10 #[.agg (gQ.cs ⟨I,Ac,cc,A,c⟩).toArray,.agg (DI.cs ⟨I,n,D6,Ci,A2,c2⟩).toArray] w fun e w'=>e=.returned (.bool true)∧bz w w':=by
 have JH:=Hd hlk;have H1:=Hd h1;have H2:=Hd h2.1.row;have HFW:Hid (I.c.length<=2000):=hok.few;have Fj:Hid (I.lk.l.length<=300):=hok.l;clear hlk h1 h2 hok;have HB0:Hid (bz w ((w.alloc (.cells (gQ.cs ⟨I,Ac,cc,A,c⟩).toArray 51)).alloc (.cells (DI.cs ⟨I,n,D6,Ci,A2,c2⟩).toArray 63))):=(bR.alloc nR _).alloc (by simp) _;have SQ:Hid (ax ((w.alloc (.cells (gQ.cs ⟨I,Ac,cc,A,c⟩).toArray 51)).alloc (.cells (DI.cs ⟨I,n,D6,Ci,A2,c2⟩).toArray 63)) w.heap.size (gQ.cs ⟨I,Ac,cc,A,c⟩)):=(ay w (gQ.cs ⟨I,Ac,cc,A,c⟩) _).alloc _
 have HKb:Hid (ax ((w.alloc (.cells (gQ.cs ⟨I,Ac,cc,A,c⟩).toArray 51)).alloc (.cells (DI.cs ⟨I,n,D6,Ci,A2,c2⟩).toArray 63)) (w.heap.size+1) (DI.cs ⟨I,n,D6,Ci,A2,c2⟩)):=aN (w.alloc _) _ (by simp) (DI.cs ⟨I,n,D6,Ci,A2,c2⟩) _;go_enter func10,ntmps10
 go_upto_region 1 with (fail)
 generalize ((w.alloc (.cells (gQ.cs ⟨I,Ac,cc,A,c⟩).toArray 51)).alloc (.cells (DI.cs ⟨I,n,D6,Ci,A2,c2⟩).toArray 63))=w0 at *;have HZ:Hid (ax (w0.alloc (.cells Vd.toArray 39)) w0.heap.size Vd):=ay w0 Vd _;have jF:Hid (Below w0.heap.size w0 (w0.alloc (.cells Vd.toArray 39))):=bR.alloc nR _;have ia:=SQ.o.inside
 go_upto_region 2 with (first|(with_reducible refine gL ?_;first|(refine wt 39 1 rfl rfl rfl SQ.o (I.w.cs) rfl underlying39 rfl ?_))|(with_reducible refine gS ?_;first|(refine au 39 _ _ rfl rfl rfl _ 0 rfl (I.w.cs) rfl (Vd) HZ.o (I.w.cs) rfl (nE rfl) (by kernel_rfl) (Mp.one1 _) ?_;intro w1 HW1 gY)))
 obtain⟨m5,Ih⟩:∃m5,w0.heap.size=m5:=⟨_,rfl⟩
 have Jy:Hid (Below w0.heap.size w0 w1):=HW1.o.below jF.o nR;have HB1:=Hd (HB0.o.trans (Jy.o.mono HB0.o.size));have Zx:=Hd (SQ.o.below' Jy.o);have a4e:=Hd (HKb.o.below' Jy.o);rw[Ih] at gY ⊢;clear Ih HZ jF HW1 Jy SQ HKb HB0 ia;have ia:=Zx.o.inside;go_wp2_with (first|((with_reducible refine gU ?_);refine bZ _ _ rfl rfl (by simp[go_sem]) (wU I.lk A c _) ?_)|first|(with_reducible refine gL ?_;first|(refine wt 49 15 rfl rfl rfl Zx.o (I.lk.cs A c) rfl underlying49 rfl ?_)))
 refine(GR Mp.o 0 false false Bx.o I.lk.k I.lk.W I.lk.H I.lk.p I.lk.iw I.lk.ih A I.lk.l c w1 (Row.below H1.o.px HB1.o) (by have:=Fj.o;omega)).mono ?_;unfold WH;rintro e w2 ⟨A9,cap,rfl,-,-,-,hb2,-⟩;have HB2:=Hd (HB1.o.trans (hb2.mono HB1.o.size));have HZ2:Hid (ax (w2.alloc (.cells Va.toArray 61)) w2.heap.size Va):=ay w2 Va _;have hal:bz w2 (w2.alloc (.cells Va.toArray 61)):=bR.alloc nR _
 have HF:Hid (∀W,Wrote w2.heap.size (w2.alloc (.cells Va.toArray 61)) W->ax W w.heap.size (gQ.cs ⟨I,Ac,cc,A,c⟩)∧ax W (w.heap.size+1) (DI.cs ⟨I,n,D6,Ci,A2,c2⟩)∧ax W m5 I.w.cs):=fun W hW=>by
  have hb:=hW.below hal nR;exact⟨(Zx.o.below' hb2).below' hb,(a4e.o.below' hb2).below' hb,(gY.o.below' hb2).below' hb⟩
 have HG:Hid (∀W,Wrote w2.heap.size (w2.alloc (.cells Va.toArray 61)) W->bz w W):=fun W hW=>HB2.o.trans ((hW.below hal nR).mono HB2.o.size);unfold Kt;clear ia hb2 hal Zx a4e gY HB1
 go_upto_region 3 with (first|(with_reducible refine gS ?_;first|(refine au 61 _ _ rfl rfl rfl _ 0 rfl ((Nd.cs ⟨Mp.o,0,false,false,Bx.o,I.lk⟩ A9 cap)) rfl (Va) HZ2.o ((Nd.cs ⟨Mp.o,0,false,false,Bx.o,I.lk⟩ A9 cap)) rfl (nE rfl) (by kernel_rfl) (Nd.one _ _ _) ?_;intro w3 HW3 dh)))
 obtain⟨hA3,hB3,hM3⟩:=HF.o w3 HW3.o;have a0:w3.cell? ⟨w.heap.size,0,none⟩=some (.int .i64 I.i):=(hA3).cell 0;have XR:w3.cell? ⟨w.heap.size,13,none⟩=some (.slice Ac I.c.length cc):=(hA3).cell 13;have a14:w3.cell? ⟨w.heap.size,14,none⟩=some (.int .i64 (I.o:Nat)):=(hA3).cell 14;have ia:=(hA3).inside;have b0:w3.cell? ⟨w.heap.size+1,0,none⟩=some (.int .i64 I.i):=(hB3).cell 0;have b13:w3.cell? ⟨w.heap.size+1,13,none⟩=some (.slice D6 I.c.length Ci):=(hB3).cell 13;have b14:w3.cell? ⟨w.heap.size+1,14,none⟩=some (.int .i64 (I.o:Nat)):=(hB3).cell 14
 have b28:w3.cell? ⟨w.heap.size+1,28,none⟩=some (.int .i64 I.lk.k):=(by rw[← JH.o];exact(hB3).cell 28)
 have b29:w3.cell? ⟨w.heap.size+1,29,none⟩=some (.int .i64 I.lk.W):=(by rw[← JH.o];exact(hB3).cell 29)
 have b30:w3.cell? ⟨w.heap.size+1,30,none⟩=some (.int .i64 I.lk.H):=(by rw[← JH.o];exact(hB3).cell 30)
 have b31:w3.cell? ⟨w.heap.size+1,31,none⟩=some (.int .u32 (I.lk.p:Nat)):=(by rw[← JH.o];exact(hB3).cell 31)
 have b34:w3.cell? ⟨w.heap.size+1,34,none⟩=some (.slice A2 I.lk.l.length c2):=(by rw[← JH.o];exact(hB3).cell 34)
 have ib:=(hB3).inside;have m0:w3.cell? ⟨m5,0,none⟩=some (.int .i64 I.w.a):=(hM3).cell 0;have m1:w3.cell? ⟨m5,1,none⟩=some (.int .i64 I.w.b):=(hM3).cell 1;have m2:w3.cell? ⟨m5,2,none⟩=some (.int .i64 I.w.c):=(hM3).cell 2;have m3:w3.cell? ⟨m5,3,none⟩=some (.int .i64 I.w.d):=(hM3).cell 3;have m4:w3.cell? ⟨m5,4,none⟩=some (.int .i64 I.w.e):=(hM3).cell 4;have m5_:w3.cell? ⟨m5,5,none⟩=some (.int .i64 I.w.f):=(hM3).cell 5;have im:=(hM3).inside;have k13:w3.cell? ⟨w2.heap.size,13,none⟩=some (.int .i64 I.lk.k):=(dh.o).cell 13
 have k14:w3.cell? ⟨w2.heap.size,14,none⟩=some (.int .i64 I.lk.W):=(dh.o).cell 14;have k15:w3.cell? ⟨w2.heap.size,15,none⟩=some (.int .i64 I.lk.H):=(dh.o).cell 15;have k16:w3.cell? ⟨w2.heap.size,16,none⟩=some (.int .u32 (I.lk.p:Nat)):=(dh.o).cell 16;have k19:w3.cell? ⟨w2.heap.size,19,none⟩=some (.slice A9 I.lk.l.length cap):=(dh.o).cell 19;have ik:=(dh.o).inside;have HB3:=Hd hB3;have HA3:=Hd hA3;clear hA3 hB3 hM3
 try simp only[List.append]
 go_upto_region 5 with (first|((with_reducible show wpList _ _ _ (Oper.mk _ (Op.binOp _ 53 _ _ _) _ _ _ _::_) _ _);refine X7 _ _ _ _ _ rfl rfl rfl rfl (QN I.w _ _ _) (YS I.w _) ?_)|((with_reducible refine gU ?_);refine bZ _ _ rfl rfl (by simp[go_sem]) (Wi I.w _) ?_)|first|(with_reducible refine gL ?_;first|(refine wt 53 1 rfl rfl rfl HB3.o (I.w.cs) rfl underlying53 rfl ?_)))
 have Z4:Hid (bz w w3):=HG.o _ HW3.o;have hfw:((I.c.length:Nat):Int)<=2000:=by have:=HFW.o;omega
 clear HF HG HZ2 HW3 dh b0 b14 b28 b29 b30 b31 b34 m0 m1 m2 m3 m4 m5_ k13 k14 k15 k16 k19 a0 a14 im ik
 obtain⟨b0,hb0⟩:∃b0,w.heap.size+1=b0:=⟨_,rfl⟩
 rw[hb0] at HB3 ⊢;clear b13 hb0 ib;go_wp2_with (fail);clear XR ia
 go_loopw [101] (fun x wr=>∃k:Nat,k<=I.c.length∧x=.int .i64 k∧Hid (bz w3 wr)) (fun x _=>I.c.length - (intOf x).toNat)
 case atStart=>exact⟨0,Nat.zero_le _,rfl,bR⟩
 case round=>
  obtain⟨k,hk,rfl,Bz⟩:=hrel;generalize wr=wS at *;by_cases hlt:k<I.c.length
  ·have t1:decide (k<I.c.length)=true:=by simpa using hlt
   have eU:=Hd hlt;have RU:=Hd (Z4.o.trans (Bz.o.mono Z4.o.size))
   obtain⟨b1,o1,e1,hc1⟩:=(aS.below H1.o.ru RU.o) (Nat.lt_of_le_of_lt (Nat.zero_le k) hlt)
   obtain⟨b2,o2,e2,hc2⟩:=(aS.below H2.o RU.o) (Nat.lt_of_le_of_lt (Nat.zero_le k) hlt)
   have e1':Ac=some ⟨b1,o1,none⟩:=e1;have e2':D6=some ⟨b2,o2,none⟩:=e2;subst e1' e2'
   obtain⟨u,hu⟩:∃u,u=I.c[k]'hlt:=⟨_,rfl⟩
   have CB:Hid (wS.rangeAt b1 (o1+k*10) u.cs):=by rw[hu];exact fun i v hv=>hc1 k hlt i v hv
   have Ji:Hid (wS.rangeAt b2 (o2+k*10) u.cs):=by rw[hu];exact fun i v hv=>hc2 k hlt i v hv
   have MI:Hid (ax (wS.alloc (.cells Vo.toArray 122)) wS.heap.size Vo):=ay wS Vo _;have XJ:Hid (Below wS.heap.size wS (wS.alloc (.cells Vo.toArray 122))):=bR.alloc nR _;have c0:=CB.o 0 (.int .i64 u.b.a) rfl;have i1:b1<wS.heap.size:=World.block_lt_of_cell? wS ⟨b1,_,none⟩ c0;clear e1 e2 hc1 hc2 hu hlt hk c0
   go_upto_region 8 with (first|((with_reducible refine gL ?_);refine oH 122 _ rfl rfl _ _ rfl (u.cs) CB.o _ underlying122 rfl (by kernel_rfl) ?_)|first|(with_reducible refine gS ?_;first|(refine au 122 _ _ rfl rfl rfl _ 0 rfl (u.cs) rfl (Vo) MI.o (u.cs) rfl (nE rfl) (by kernel_rfl) (Cl.one _) ?_;intro w5 xg qU)))
   have gz:Hid (Below wS.heap.size wS w5):=xg.o.below XJ.o nR
   obtain⟨k8,hk8⟩:∃k8,wS.heap.size=k8:=⟨_,rfl⟩
   rw[hk8] at qU ⊢;have FU:Hid (∀W,regs.bl w5 W->ax W k8 u.cs):=fun W hb=>qU.o.below' hb;have FB:Hid (∀W,regs.bl w5 W->ax W b0 (DI.cs ⟨I,n,some ⟨b2,o2,none⟩,Ci,A2,c2⟩)):=fun W hb=>((HB3.o.below' Bz.o).below' gz.o).below' hb;have Ji:=Hd (lH Ji.o gz.o)
   have a3M:Hid (w5.rangeAt b2 (o2+k*10+6) u.r.uM):=fun i v hv=>by
    have h1:=Ji.o (6+i) v (by
     unfold Cl.cs;rw[Nat.add_comm]
     exact hv)
    rw[← Nat.add_assoc] at h1;exact h1
   have XH:Hid (bz w3 w5):=Bz.o.trans (gz.o.mono Bz.o.size);have hkb:(k:Int)<=2000:=by have:=HFW.o;have:=eU.o;omega
   clear hk8 CB MI XJ xg qU gz Bz RU i1
   refine Gs [106,107,108,109,110,111,112,113,114,115,116,117,118,119,120,121,122,123,124,125] (fun i=>match i with
    |0|1|3|6|9=>rp k8 6
    |2=>rV (.int .i64 u.r.a)
    |4=>rp k8 7
    |5=>rV (.int .i64 u.r.b)
    |7=>rp k8 8
    |8=>rV (.int .i64 u.r.c)
    |10=>rp k8 9
    |11=>rV (.int .i64 u.r.d)
    |12|18=>rV (.agg (u.r.uM).toArray)
    |13=>rp b0 13
    |14=>rV (.slice (some ⟨b2,o2,none⟩) I.c.length Ci)
    |15=>rV (.int .i64 (k:Nat))
    |16=>rV (.pointer (some ⟨b2,(o2+k*10),none⟩))
    |17=>rV (.pointer (some ⟨b2,(o2+k*10+6),none⟩))
    |19=>rV (.bool false)
    | _=>ra) ⟨?_,?_,?_,?_,?_,?_,?_,?_,?_,?_,?_,?_,?_,?_,?_,?_,?_,?_,?_,?_,trivial⟩ ?_
   any_goals (first|refine zp fun L a w1 hh=>?_|fail)
   have h8:=hh.p 8 k8 0;have i0:=(FU.o _ hh.rel).inside;rotate_left;have a6E:=rq (hh.d 0 106);have i0:=(FU.o _ hh.rel).inside;rotate_left;have a6D:=rq (hh.d 1 107);have ⟨c0,i0⟩:=(FU.o _ hh.rel).ci 6 rfl;rotate_left;have h8:=hh.p 8 k8 0;have i0:=(FU.o _ hh.rel).inside;rotate_left;have a6B:=rq (hh.d 3 109);have i0:=(FU.o _ hh.rel).inside;rotate_left;have a6A:=rq (hh.d 4 110);have ⟨c0,i0⟩:=(FU.o _ hh.rel).ci 7 rfl;rotate_left;have h8:=hh.p 8 k8 0;have i0:=(FU.o _ hh.rel).inside;rotate_left;have h112:=rq (hh.d 6 112);have i0:=(FU.o _ hh.rel).inside;rotate_left
   have a6y:=rq (hh.d 7 113);have ⟨c0,i0⟩:=(FU.o _ hh.rel).ci 8 rfl;rotate_left;have h8:=hh.p 8 k8 0;have i0:=(FU.o _ hh.rel).inside;rotate_left;have a6w:=rq (hh.d 9 115);have i0:=(FU.o _ hh.rel).inside;rotate_left;have h116:=rq (hh.d 10 116);have ⟨c0,i0⟩:=(FU.o _ hh.rel).ci 9 rfl;rotate_left;have a6C:=rq (hh.d 2 108);have a6z:=rq (hh.d 5 111);have a6x:=rq (hh.d 8 114);have a6v:=rq (hh.d 11 117);rotate_left;have h3:=hh.p 3 b0 0;have i0:=(FB.o _ hh.rel).inside;rotate_left;have h119:=rq (hh.d 13 119);have ⟨c0,i0⟩:=(FB.o _ hh.rel).ci 13 rfl;rotate_left
   have h7:=hh.o 7 (v:=.int .i64 (k:Nat)) rfl;rotate_left;have a07:=rq (hh.d 14 120);have a6u:=rq (hh.d 15 121);have hlt:=eU.o;rotate_left;have h122:=rq (hh.d 16 122);have i0:=World.block_lt_of_cell? w1 ⟨b2,_,none⟩ (lH Ji.o hh.rel 0 (.int .i64 u.b.a) rfl);rotate_left
   ·have a5e:=rq (hh.d 17 123);have wJ:=lH a3M.o hh.rel;have hJ:=Hd hh.st;exact wp_load_mid 56 _ rfl b2 (o2+k*10+6) (by simpa[go_sem] using a5e) u.r.uM _ wJ underlying56 rfl (by kernel_rfl) ⟨_,rfl,rB,rfl,hJ.o⟩
   ·have a5f:=rq (hh.d 12 118);have a5d:=rq (hh.d 18 124);have hJ:=Hd hh.st;exact JM _ _ _ _ _ rfl (by simpa[go_sem] using a5f) (by simpa[go_sem] using a5d) (VX u.r _ _ w1) (a1k u.r w1) ⟨_,rfl,rB,rfl,hJ.o⟩
   any_goals (clear hh;go_simp;exact⟨_,rfl,rB,rfl,trivial⟩)
   intro L w6 val hL hJ hR hv;have a3h:val 125=.bool false:=hv 19 125 (by kernel_rfl);have vz:=Hd hR;clear hv hL hJ hR;simp only[regs.aA,List.map_cons,List.map_nil,a3h];simp only[Act.put,List.setIfInBounds_toArray,List.set_cons_zero,List.set_cons_succ];clear a3h
   skip
   have a6e:Hid (bz w3 w6):=XH.o.trans (vz.o.mono XH.o.size);clear FU FB Ji a3M vz XH;go_wp2_with (fail)
   go_roundw
   case rel=>exact⟨k+1,eU.o,by go_num,a6e.o⟩
   case measure=>have:=eU.o;simp[intOf];omega
  ·obtain rfl:k=I.c.length:=by omega
   have t1:decide (I.c.length<I.c.length)=false:=by simp
   clear hlt hk;go_wp2_with (fail);go_ret;exact⟨rfl,Z4.o.trans (Bz.o.mono Z4.o.size)⟩
end
section
open Go.RowKit fK fZ aB Go.Maps
theorem same_eq(q:gQ)(d:DI)(he:d.it=q.it)(hok:q.it.Ok)(w:World)(h1:ou w q)(h2:xB w d):Calls prog 10 #[.agg q.cs.toArray,.agg d.cs.toArray] w fun e w'=>e=.returned (.bool true)∧bz w w':=by
 obtain⟨I,Ac,cc,A,c⟩:=q;obtain⟨I2,n,D6,Ci,A2,c2⟩:=d;obtain rfl:I2=I:=he;exact TG I2 Ac A cc c n D6 A2 Ci c2 h2.2.2 hok w h1 h2
def Jz(x:aJ)(w:World)(v:Value):Prop:=∃A c l,v=.slice A (l:List gQ).length c∧aS 22 gQ.cs w A l∧(∀q∈l,ou w q∧q.it.Ok)∧l.map (·.it)=items x
theorem Jz.below{x:aJ}{w w':World}{v:Value}(h:Jz x w v)(hb:bz w w'):Jz x w' v:=by
 obtain⟨A,c,l,h1,h2,h3,h4⟩:=h;exact⟨A,c,l,h1,aS.below h2 hb,fun q hq=>⟨(h3 q hq).1.below hb,(h3 q hq).2⟩,h4⟩
def xY(x:aJ)(w:World)(v:Value):Prop:=∃A c l,v=.slice A (l:List DI).length c∧aS 35 DI.cs w A l∧(∀q∈l,xB w q)∧l.map (·.it)=items x
theorem xB.below{w w':World}{q:DI}(h:xB w q)(hb:bz w w'):xB w' q:=h.dq (DQ.below hb nR)
theorem xY.below{x:aJ}{w w':World}{v:Value}(h:xY x w v)(hb:bz w w'):xY x w' v:=by
 obtain⟨A,c,l,h1,h2,h3,h4⟩:=h;exact⟨A,c,l,h1,aS.below h2 hb,fun q hq=>(h3 q hq).below hb,h4⟩
theorem Uy(A:Option Addr)(TL:List vw)(c:Nat)(w:World)(h1:Md w A TL)(_:TL.length*24<=140737488351232) :
  Calls prog 3 #[.slice A TL.length c] w fun e w'=>e=.returned (.bool true)∧bz w w':=by
 have HT:=Hd h1;have iI:=Hd (size_law TL A c w h1);clear h1;go_enter func3,ntmps3;go_wp2_with (fail);refine iI.o.mono ?_;unfold a0s;rintro e wa ⟨n,rfl,hn,a2V,hb1⟩;have jL:=Hd hb1;have Xo:=Hd hn;clear hb1 hn iI;by_cases hbad:n<0
 ·have t1:decide (n<0)=true:=decide_eq_true (by omega);clear hbad a2V Xo;go_wp2_with (fail);refine(Aq _).mono ?_;rintro e wz ⟨rfl,hbz⟩;have jF:Hid (bz w wz):=(jL.o).trans (hbz.mono (jL.o).size);clear hbz;go_wp2_with (fail);go_ret;exact⟨rfl,jF.o⟩
 have t1:decide (n<0)=false:=decide_eq_false (by omega);have HF:Hid (fits TL):=Xo.o.1 (by omega);clear hbad a2V Xo;go_wp2_with (fail);refine(J9 A TL c wa (HT.o.below jL.o) HF.o).mono ?_;unfold OJ;rintro e wb ⟨g,b,m,s,v,x,rfl,hm,hd,hx,hxl⟩;obtain⟨Ad,cd,dm,rfl,-,-⟩:=hd.ex;have HDb:=Hd hd;have HMb:=Hd hm;have HX:=Hd hx;have HXT:Hid (x.t.length<=900):=by show _<=_;omega
 clear hm hd hx hxl HT HF t1;have HZb:Hid (ax (wb.alloc (.cells Vf.toArray 30)) wb.heap.size Vf):=ay wb Vf _;have uX:Hid (bz wb (wb.alloc (.cells Vf.toArray 30))):=bR.alloc nR _
 go_upto_region 4 with (first|(with_reducible refine gS ?_;first|(refine au 30 _ _ rfl rfl rfl _ 0 rfl ((Vb 8 8 30 Ad x.t.length cd dm)) rfl (Vf) HZb.o ((Vb 8 8 30 Ad x.t.length cd dm)) rfl (nE rfl) (by kernel_rfl) rfl ?_;intro wc HWc HKc)))
 have a19:Hid (bz wb wc):=HWc.o.below uX.o nR;have HMc:=Hd (HMb.o.below a19.o);have HDc:=Hd (HDb.o.below a19.o);have a2b:=Hd (jL.o.trans (HMc.o.bel.mono jL.o.size));clear HZb uX HWc HMb HDb a19;have FK:Hid (∀W,regs.bl wc W->ax W wb.heap.size (Vb 8 8 30 Ad x.t.length cd dm)):=fun W hb=>HKc.o.below' hb
 have FA:Hid (∀W,regs.bl wc W->Calls prog 8 #[.pointer (some ⟨g,0,none⟩)] W fun e w'=>∃v,e=.returned v∧Jz x w' v∧regs.bl W w'):=fun W hb=>by
  refine(H7 (HMc.o.at_.below hb) HX.o HXT.o).mono ?_;unfold OM;rintro e w' ⟨A1,c1,l1,h1,h2,h3,h4,-,h5⟩;exact⟨_,h1,⟨A1,c1,l1,rfl,h2,fun q hq=>⟨(h3 q hq).1,(h3 q hq).2.1⟩,h4⟩,h5⟩
 have FB:Hid (∀W,regs.bl wc W->Calls prog 9 #[.agg (Vb 8 8 30 Ad x.t.length cd dm).toArray] W fun e w'=>∃v,e=.returned v∧xY x w' v∧regs.bl W w'):=fun W hb=>by
  refine(QP HX.o HXT.o _ 8 8 30 (HDc.o.below hb)).mono ?_;unfold Nq;rintro e w' ⟨A1,c1,l1,h1,h2,h3,h4,h5⟩;exact⟨_,h1,⟨A1,c1,l1,rfl,h2,h3,h4⟩,h5⟩
 go_upto_region 6 with (fail)
 refine Gs [19,20,21,22,5,6] (fun i=>match i with
  |0=>rp g 0
  | 1=>(⟨fun v wv=>Jz x wv v,fun v q1 q2 h hb=>h.below hb⟩:regs.jO regs.bl)
  |2=>rV (.agg ((Vb 8 8 30 Ad x.t.length cd dm)).toArray)
  | 3=>(⟨fun v wv=>xY x wv v,fun v q1 q2 h hb=>h.below hb⟩:regs.jO regs.bl)
  | 4=>(⟨fun v wv=>Jz x wv v,fun v q1 q2 h hb=>h.below hb⟩:regs.jO regs.bl)
  | 5=>(⟨fun v wv=>xY x wv v,fun v q1 q2 h hb=>h.below hb⟩:regs.jO regs.bl)
  | _=>ra) ⟨?_,?_,?_,?_,?_,?_,trivial⟩ ?_
 any_goals (first|refine zp fun L a w1 hh=>?_|fail)
 ·have h3:=hh.p 3 g 0;clear hh;go_simp;exact⟨_,rfl,rB,rfl,trivial⟩
 ·have h19:=rq (hh.d 0 19);have hC:=Hd (FA.o _ hh.rel);have hJ:=hh.j;clear hh;go_simp;refine hC.o.mono ?_;rintro e w9 ⟨v9,rfl,h9,aU⟩;exact⟨_,rfl,aU,h9,hJ.o⟩
 ·have h4:=hh.p 4 wb.heap.size 0;have hB:=Hd (FK.o _ hh.rel);have hJ:=Hd hh.st;exact aI 30 _ rfl wb.heap.size 0 (by simpa[go_sem] using h4) _ hB.o ((Vb 8 8 30 Ad x.t.length cd dm)) rfl _ underlying30 rfl (by kernel_rfl) ⟨_,rfl,rB,rfl,hJ.o⟩
 ·have h21:=rq (hh.d 2 21);have hC:=Hd (FB.o _ hh.rel);have hJ:=hh.j;clear hh;go_simp;refine hC.o.mono ?_;rintro e w9 ⟨v9,rfl,h9,aU⟩;exact⟨_,rfl,aU,h9,hJ.o⟩
 ·have hg:=(show Jz x w1 (a.tmps.getD 20 undef) from hh.d 1 20)
  obtain⟨v20,h20⟩:∃v,a.tmps[20]?.getD undef=v:=⟨_,rfl⟩
  rw[Array.getD_eq_getD_getElem?,h20] at hg;have HGG:=Hd hg;have hJ:=Hd hh.st;clear hh hg;go_simp;exact⟨_,rfl,rB,HGG.o,hJ.o⟩
 ·have hg:=(show xY x w1 (a.tmps.getD 22 undef) from hh.d 3 22)
  obtain⟨v22,h22⟩:∃v,a.tmps[22]?.getD undef=v:=⟨_,rfl⟩
  rw[Array.getD_eq_getD_getElem?,h22] at hg;have HGG:=Hd hg;have hJ:=Hd hh.st;clear hh hg;go_simp;exact⟨_,rfl,rB,HGG.o,hJ.o⟩
 intro L w4 val hL hJ hR hv;have HR4:=Hd hR
 obtain⟨A1,c1,l1,e5,hr1,ha1,hm1⟩:=(show Jz x w4 (val 5) from hv 4 5 (by kernel_rfl))
 obtain⟨A2,c2,l2,e6,hr2,ha2,hm2⟩:=(show xY x w4 (val 6) from hv 5 6 (by kernel_rfl))
 have yU:=Hd (And.intro hr1 (And.intro ha1 hm1));have HL2:=Hd (And.intro hr2 (And.intro ha2 hm2));clear hv hL hJ hR hr1 ha1 hm1 hr2 ha2 hm2;simp only[regs.aA,List.map_cons,List.map_nil];simp only[Act.put,List.setIfInBounds_toArray,List.set_cons_zero,List.set_cons_succ]
 skip
 rw[e5];clear e5;rw[e6];clear e6;have Jw:=Hd (a2b.o.trans (HR4.o.mono a2b.o.size))
 have DX:Hid (l2.length=l1.length):=by
  have h1:=congrArg List.length yU.o.2.2;have h2:=congrArg List.length HL2.o.2.2;rw[List.length_map] at h1 h2;exact h2.trans h1.symm
 have Fj:Hid (l1.length<=1000):=by
  have h1:=congrArg List.length yU.o.2.2;rw[List.length_map] at h1;have h2:(items x).length<=(aB.walk x.t 0).length:=List.length_filterMap_le _ _;have h3:=tH HX.o.ok;have h4:=HXT.o;show _<=_;omega
 have t2:(((l1.length:Nat):Int) != ((l2.length:Nat):Int))=false:=by rw[DX.o];simp
 have hl1:=Fj.o;clear HR4 FK FA FB a2b HKc HMc HDc;go_wp2_with (fail);clear t2
 go_loopw [30] (fun i wr=>∃j:Nat,j<=l1.length∧i=.int .i64 j∧Hid (bz w4 wr)) (fun i _=>l1.length - (intOf i).toNat)
 case atStart=>exact⟨0,Nat.zero_le _,rfl,bR⟩
 case round=>
  obtain⟨j,hj,rfl,Bz⟩:=hrel;generalize wr=wj at *;by_cases hlt:j<l1.length
  ·have t4:decide (j<l1.length)=true:=by simpa using hlt
   have ZE:=Hd hlt;have hlt2:j<l2.length:=by rw[DX.o];exact hlt
   have HJ2:=Hd hlt2
   obtain⟨b1,o1,eA1,hc1⟩:=(aS.below yU.o.1 Bz.o) (Nat.lt_of_le_of_lt (Nat.zero_le j) hlt)
   obtain⟨b2,o2,eA2,hc2⟩:=(aS.below HL2.o.1 Bz.o) (Nat.lt_of_le_of_lt (Nat.zero_le j) hlt2)
   subst eA1 eA2
   obtain⟨q,hq⟩:∃q,q=l1[j]'hlt:=⟨_,rfl⟩
   obtain⟨d,hd⟩:∃d,d=l2[j]'hlt2:=⟨_,rfl⟩
   have CB:Hid (wj.rangeAt b1 (o1+j*22) q.cs):=by rw[hq];exact fun i v hv=>hc1 j hlt i v hv
   have Ji:Hid (wj.rangeAt b2 (o2+j*35) d.cs):=by rw[hd];exact fun i v hv=>hc2 j hlt2 i v hv
   have yT:Hid (q∈l1):=by rw[hq];exact List.getElem_mem hlt
   have HDM:Hid (d∈l2):=by rw[hd];exact List.getElem_mem hlt2
   have HDQ:Hid (d.it=q.it):=by
    have h:(l2.map (·.it))[j]?=(l1.map (·.it))[j]?:=by rw[HL2.o.2.2,yU.o.2.2]
    rw[List.getElem?_map,List.getElem?_map,List.getElem?_eq_getElem hlt,List.getElem?_eq_getElem hlt2,← hq,← hd] at h;exact Option.some.inj h
   have FE:Hid (∀W,regs.bl wj W->Calls prog 10 #[.agg q.cs.toArray,.agg d.cs.toArray] W fun e w'=>e=.returned (.bool true)∧bz W w'):=fun W hb=>by
    have hb2:=Bz.o.trans (hb.mono Bz.o.size);exact same_eq q d HDQ.o (yU.o.2.1 q yT.o).2 W ((yU.o.2.1 q yT.o).1.below hb2) ((HL2.o.2.1 d HDM.o).below hb2)
   have hjb:(j:Int)<=1000:=by have:=Fj.o;omega
   clear hc1 hc2 hq hd hlt hlt2 hj
   go_upto_region 12 with (fail)
   refine Gs [33,34,35,36,37,38,39,40,41,42] (fun i=>match i with
    |0=>rV (.slice (some ⟨b1,o1,none⟩) l1.length c1)
    |1|5=>rV (.int .i64 (j:Nat))
    |2=>rV (.pointer (some ⟨b1,(o1+j*22),none⟩))
    |3=>rV (.agg (q.cs).toArray)
    |4=>rV (.slice (some ⟨b2,o2,none⟩) l2.length c2)
    |6=>rV (.pointer (some ⟨b2,(o2+j*35),none⟩))
    |7=>rV (.agg (d.cs).toArray)
    |8=>rT
    |9=>rV (.bool false)
    | _=>ra) ⟨?_,?_,?_,?_,?_,?_,?_,?_,?_,?_,trivial⟩ ?_
   any_goals (first|refine zp fun L a w1 hh=>?_|fail)
   have h5:=hh.o 5 (v:=.slice (some ⟨b1,o1,none⟩) l1.length c1) rfl;rotate_left;have h7:=hh.o 7 (v:=.int .i64 (j:Nat)) rfl;rotate_left;have Qw:=rq (hh.d 0 33);have UY:=rq (hh.d 1 34);have hlt:=ZE.o;rotate_left
   ·have h35:=rq (hh.d 2 35)
    have wJ:=(lH CB.o hh.rel)
    have hJ:=Hd hh.st;exact wp_load_mid 51 _ rfl b1 (o1+j*22) (by simpa[go_sem] using h35) q.cs _ wJ underlying51 rfl (by kernel_rfl) ⟨_,rfl,rB,rfl,hJ.o⟩
   have h6:=hh.o 6 (v:=.slice (some ⟨b2,o2,none⟩) l2.length c2) rfl;rotate_left;have h7:=hh.o 7 (v:=.int .i64 (j:Nat)) rfl;rotate_left;have h37:=rq (hh.d 4 37);have h38:=rq (hh.d 5 38);have hlt:=HJ2.o;rotate_left
   ·have Qv:=rq (hh.d 6 39)
    have wJ:=(lH Ji.o hh.rel)
    have hJ:=Hd hh.st;exact wp_load_mid 63 _ rfl b2 (o2+j*35) (by simpa[go_sem] using Qv) d.cs _ wJ underlying63 rfl (by kernel_rfl) ⟨_,rfl,rB,rfl,hJ.o⟩
   ·have UX:=rq (hh.d 3 36);have SA:=rq (hh.d 7 40);have hC:=Hd (FE.o _ hh.rel);have hJ:=hh.j;clear hh;go_simp;refine hC.o.mono ?_;rintro e w9 ⟨rfl,aU⟩;exact⟨_,rfl,aU,rfl,hJ.o⟩
   have Sz:=rq (hh.d 8 41);rotate_left
   any_goals (clear hh;go_simp;exact⟨_,rfl,rB,rfl,trivial⟩)
   intro L w6 val hL hJ hR hv;have h42:val 42=.bool false:=hv 9 42 (by kernel_rfl);have vz:=Hd hR;clear hv hL hJ hR;simp only[regs.aA,List.map_cons,List.map_nil,h42];simp only[Act.put,List.setIfInBounds_toArray,List.set_cons_zero,List.set_cons_succ];clear h42
   skip
   have XH:Hid (bz w4 w6):=Bz.o.trans (Below.mono vz.o Bz.o.size);clear CB Ji FE vz Bz;go_wp2_with (fail)
   go_roundw
   case rel=>exact⟨j+1,ZE.o,by go_num,XH.o⟩
   case measure=>have:=ZE.o;simp[intOf];omega
  ·obtain rfl:j=l1.length:=by omega
   have t4:decide (l1.length<l1.length)=false:=by simp
   have a4F:=Hd (Jw.o.trans (Bz.o.mono Jw.o.size));clear hlt;go_wp2_with (fail);refine(Aq _).mono ?_;rintro e wz ⟨rfl,hbz⟩;have jF:Hid (bz w wz):=(a4F.o).trans (hbz.mono (a4F.o).size);clear hbz;go_wp2_with (fail);go_ret;exact⟨rfl,jF.o⟩
end
section
open Go.RowKit Go.ChangeShapes Go.WideShapes Go.ChangeAt Go.Deep
theorem own:ownKnob prog.godebug=none:=by kernel_rfl
theorem laidOut:laidOutB prog=true:=by kernel_rfl
theorem qg(b off j:Nat):(⟨b,off,none⟩:Addr).add j=⟨b,off+j,none⟩:=by unfold Addr.add;split<;>simp_all
theorem Dl{α:Type}{n:Nat}{p:Nat->α->Prop}(h:∀i,i<n->∃x,p i x):∃l:List α,l.length=n∧∀i (hi:i<l.length),p i l[i]:=by
 induction n with
 | zero=>exact⟨[],rfl,fun i hi=>by simp at hi⟩
 | succ n ih=>
  obtain⟨l,hl,hp⟩:=ih (fun i hi=>h i (by omega));obtain⟨x,hx⟩:=h n (by omega);refine⟨l++[x],by simp[hl],fun i hi=>?_⟩;rw[List.length_append,List.length_cons,List.length_nil] at hi;by_cases hin:i<l.length
  ·rw[List.getElem_append_left hin];exact hp i hin
  ·have:i=n:=by omega
   subst this
   have e:(l++[x])[i]'(by rw[List.length_append,List.length_cons,List.length_nil];omega)=x:=by
    rw[List.getElem_append_right (by omega)];simp[hl]
   rw[e];exact hx
end
section
open Go.RowKit Go.ChangeShapes Go.WideShapes Go.ChangeAt Go.Deep fK fZ
section
variable {H:Type}{enc:TypeId×Value->H}{w:World}{base:Nat}{held:Bool}{k:Nat}
theorem Yc{x:Value}{y:DataW H×List MemPlace}(h:DataW.trod enc prog w base (fun _=>true) held k 45 [x]=some y):∃(A:Option Addr) (l:List Nat) (c:Nat),x=.slice A l.length c∧Row eW w A l∧l.length<=c∧c<=maxLen∧∀z∈l,z<4294967296:=by
 rcases open_ints underlying45 underlying44 (by kernel_rfl) h with ⟨hcs,_⟩|⟨a,l,c,zs,hcs,_,hl,hm,hz,_,hcell,hwz⟩
 ·obtain rfl:=List.singleton_inj.1 hcs;exact⟨none,[],0,rfl,Row.none_ rfl,nR,by unfold maxLen;omega,fun z hz=>by cases hz⟩
 ·obtain rfl:=List.singleton_inj.1 hcs;have hzl:zs.length=c:=by simpa using hz
  have hb:∀z∈zs,0<=z∧z<=4294967295:=fun z hz=>bounds_u32 (hwz z hz);have hll:((zs.take l).map Int.toNat).length=l:=by simp;omega
  refine⟨some a,(zs.take l).map Int.toNat,c,by rw[hll],fun hn=>?_,by rw[hll];exact hl,hm,fun z hz=>?_⟩
  ·rw[hll] at hn;obtain⟨b,off,spot⟩:=a;have h0:=hcell 0 (by omega);have hspot:spot=none:=by simpa[Addr.add] using World.cell?_spot h0
   subst hspot;refine⟨b,off,rfl,fun j hj=>?_⟩;rw[hll] at hj;have hc:=hcell j (by omega);rw[qg] at hc;rw[hc];have hj':j<zs.length:=by omega
   have h3:=hb zs[j] (List.getElem_mem hj');simp only[List.getElem_map,List.getElem_take,List.getD_eq_getElem?_getD,List.getElem?_eq_getElem hj',Option.getD_some,eW,Option.some.injEq,Value.int.injEq,true_and];omega
  ·simp only[List.mem_map] at hz;obtain⟨y,hy,rfl⟩:=hz;have:=hb y (List.mem_of_mem_take hy);omega
theorem Qa{cs:List Value}{y:DataW H×List MemPlace}(hc:cs.length=6)(h:DataW.trod enc prog w base (fun _=>true) held k 39 cs=some y):∃m:Mp,cs=m.cs:=by
 obtain⟨c0,c1,c2,c3,c4,c5,rfl⟩:∃c0 c1 c2 c3 c4 c5,cs=[c0,c1,c2,c3,c4,c5]:=by
  match cs,hc with
  | [c0,c1,c2,c3,c4,c5],_=>exact⟨_,_,_,_,_,_,rfl⟩
 obtain⟨d,p⟩:=y;obtain⟨ys,n',_,hy,hlen,hyl,hfl⟩:=DataW.trod_struct underlying39 h;have YC:ys.length=6:=hyl;have z0:prog.cellsOf 2=1:=by kernel_rfl
 have g0:DataW.trod enc prog w base (fun _=>true) held n' 2 ((([c0,c1,c2,c3,c4,c5]:List Value).drop 0).take (prog.cellsOf 2))=ys[0]?:=hfl 0 _ rfl;rw[z0] at g0;try simp only[List.drop_zero,List.take_succ_cons,List.take_zero] at g0
 rw[List.getElem?_eq_getElem (by omega)] at g0;have z1:prog.cellsOf 2=1:=by kernel_rfl
 have g1:DataW.trod enc prog w base (fun _=>true) held n' 2 ((([c0,c1,c2,c3,c4,c5]:List Value).drop 1).take (prog.cellsOf 2))=ys[1]?:=hfl 1 _ rfl;rw[z1] at g1;try simp only[List.drop_succ_cons,List.drop_zero,List.take_succ_cons,List.take_zero] at g1
 rw[List.getElem?_eq_getElem (by omega)] at g1;have z2:prog.cellsOf 2=1:=by kernel_rfl
 have g2:DataW.trod enc prog w base (fun _=>true) held n' 2 ((([c0,c1,c2,c3,c4,c5]:List Value).drop 2).take (prog.cellsOf 2))=ys[2]?:=hfl 2 _ rfl;rw[z2] at g2;try simp only[List.drop_succ_cons,List.drop_zero,List.take_succ_cons,List.take_zero] at g2
 rw[List.getElem?_eq_getElem (by omega)] at g2;have z3:prog.cellsOf 2=1:=by kernel_rfl
 have g3:DataW.trod enc prog w base (fun _=>true) held n' 2 ((([c0,c1,c2,c3,c4,c5]:List Value).drop 3).take (prog.cellsOf 2))=ys[3]?:=hfl 3 _ rfl;rw[z3] at g3;try simp only[List.drop_succ_cons,List.drop_zero,List.take_succ_cons,List.take_zero] at g3
 rw[List.getElem?_eq_getElem (by omega)] at g3;have z4:prog.cellsOf 2=1:=by kernel_rfl
 have g4:DataW.trod enc prog w base (fun _=>true) held n' 2 ((([c0,c1,c2,c3,c4,c5]:List Value).drop 4).take (prog.cellsOf 2))=ys[4]?:=hfl 4 _ rfl;rw[z4] at g4;try simp only[List.drop_succ_cons,List.drop_zero,List.take_succ_cons,List.take_zero] at g4
 rw[List.getElem?_eq_getElem (by omega)] at g4;have z5:prog.cellsOf 2=1:=by kernel_rfl
 have g5:DataW.trod enc prog w base (fun _=>true) held n' 2 ((([c0,c1,c2,c3,c4,c5]:List Value).drop 5).take (prog.cellsOf 2))=ys[5]?:=hfl 5 _ rfl;rw[z5] at g5;try simp only[List.drop_succ_cons,List.drop_zero,List.take_succ_cons,List.take_zero] at g5
 rw[List.getElem?_eq_getElem (by omega)] at g5;obtain⟨x0,e0,-,w0⟩:=DataW.trod_int underlying2 g0;obtain rfl:=List.singleton_inj.1 e0;obtain⟨x1,e1,-,w1⟩:=DataW.trod_int underlying2 g1;obtain rfl:=List.singleton_inj.1 e1;obtain⟨x2,e2,-,w2⟩:=DataW.trod_int underlying2 g2;obtain rfl:=List.singleton_inj.1 e2;obtain⟨x3,e3,-,w3⟩:=DataW.trod_int underlying2 g3;obtain rfl:=List.singleton_inj.1 e3;obtain⟨x4,e4,-,w4⟩:=DataW.trod_int underlying2 g4;obtain rfl:=List.singleton_inj.1 e4;obtain⟨x5,e5,-,w5⟩:=DataW.trod_int underlying2 g5;obtain rfl:=List.singleton_inj.1 e5
 exact⟨⟨x0,x1,x2,x3,x4,x5⟩,rfl⟩
theorem J5{cs:List Value}{y:DataW H×List MemPlace}(hc:cs.length=4)(h:DataW.trod enc prog w base (fun _=>true) held k 75 cs=some y):∃m:Bx,cs=m.cs:=by
 obtain⟨c0,c1,c2,c3,rfl⟩:∃c0 c1 c2 c3,cs=[c0,c1,c2,c3]:=by
  match cs,hc with
  | [c0,c1,c2,c3],_=>exact⟨_,_,_,_,rfl⟩
 obtain⟨d,p⟩:=y;obtain⟨ys,n',_,hy,hlen,hyl,hfl⟩:=DataW.trod_struct underlying75 h;have YC:ys.length=4:=hyl;have z0:prog.cellsOf 3=1:=by kernel_rfl
 have g0:DataW.trod enc prog w base (fun _=>true) held n' 3 ((([c0,c1,c2,c3]:List Value).drop 0).take (prog.cellsOf 3))=ys[0]?:=hfl 0 _ rfl;rw[z0] at g0;try simp only[List.drop_zero,List.take_succ_cons,List.take_zero] at g0
 rw[List.getElem?_eq_getElem (by omega)] at g0;have z1:prog.cellsOf 3=1:=by kernel_rfl
 have g1:DataW.trod enc prog w base (fun _=>true) held n' 3 ((([c0,c1,c2,c3]:List Value).drop 1).take (prog.cellsOf 3))=ys[1]?:=hfl 1 _ rfl;rw[z1] at g1;try simp only[List.drop_succ_cons,List.drop_zero,List.take_succ_cons,List.take_zero] at g1
 rw[List.getElem?_eq_getElem (by omega)] at g1;have z2:prog.cellsOf 3=1:=by kernel_rfl
 have g2:DataW.trod enc prog w base (fun _=>true) held n' 3 ((([c0,c1,c2,c3]:List Value).drop 2).take (prog.cellsOf 3))=ys[2]?:=hfl 2 _ rfl;rw[z2] at g2;try simp only[List.drop_succ_cons,List.drop_zero,List.take_succ_cons,List.take_zero] at g2
 rw[List.getElem?_eq_getElem (by omega)] at g2;have z3:prog.cellsOf 3=1:=by kernel_rfl
 have g3:DataW.trod enc prog w base (fun _=>true) held n' 3 ((([c0,c1,c2,c3]:List Value).drop 3).take (prog.cellsOf 3))=ys[3]?:=hfl 3 _ rfl;rw[z3] at g3;try simp only[List.drop_succ_cons,List.drop_zero,List.take_succ_cons,List.take_zero] at g3
 rw[List.getElem?_eq_getElem (by omega)] at g3;obtain⟨x0,e0,-,w0⟩:=DataW.trod_int underlying3 g0;obtain rfl:=List.singleton_inj.1 e0;obtain⟨x1,e1,-,w1⟩:=DataW.trod_int underlying3 g1;obtain rfl:=List.singleton_inj.1 e1;obtain⟨x2,e2,-,w2⟩:=DataW.trod_int underlying3 g2;obtain rfl:=List.singleton_inj.1 e2;obtain⟨x3,e3,-,w3⟩:=DataW.trod_int underlying3 g3;obtain rfl:=List.singleton_inj.1 e3;exact⟨⟨x0,x1,x2,x3⟩,rfl⟩
theorem Ib{cs:List Value}{y:DataW H×List MemPlace}(hc:cs.length=3)(h:DataW.trod enc prog w base (fun _=>true) held k 47 cs=some y):∃(iw ih:Int) (A:Option Addr) (l:List Nat) (c:Nat),cs=(Vn iw ih A l.length c)∧Row eW w A l∧l.length<=c∧c<=maxLen∧∀z∈l,z<4294967296:=by
 obtain⟨c0,c1,c2,rfl⟩:∃c0 c1 c2,cs=[c0,c1,c2]:=by
  match cs,hc with
  | [c0,c1,c2],_=>exact⟨_,_,_,rfl⟩
 obtain⟨d,p⟩:=y;obtain⟨ys,n',_,hy,hlen,hyl,hfl⟩:=DataW.trod_struct underlying47 h;have YC:ys.length=3:=hyl;have z0:prog.cellsOf 3=1:=by kernel_rfl
 have g0:DataW.trod enc prog w base (fun _=>true) held n' 3 ((([c0,c1,c2]:List Value).drop 0).take (prog.cellsOf 3))=ys[0]?:=hfl 0 _ rfl;rw[z0] at g0;try simp only[List.drop_zero,List.take_succ_cons,List.take_zero] at g0
 rw[List.getElem?_eq_getElem (by omega)] at g0;have z1:prog.cellsOf 3=1:=by kernel_rfl
 have g1:DataW.trod enc prog w base (fun _=>true) held n' 3 ((([c0,c1,c2]:List Value).drop 1).take (prog.cellsOf 3))=ys[1]?:=hfl 1 _ rfl;rw[z1] at g1;try simp only[List.drop_succ_cons,List.drop_zero,List.take_succ_cons,List.take_zero] at g1
 rw[List.getElem?_eq_getElem (by omega)] at g1;have z2:prog.cellsOf 45=1:=by kernel_rfl
 have g2:DataW.trod enc prog w base (fun _=>true) held n' 45 ((([c0,c1,c2]:List Value).drop 2).take (prog.cellsOf 45))=ys[2]?:=hfl 2 _ rfl;rw[z2] at g2;try simp only[List.drop_succ_cons,List.drop_zero,List.take_succ_cons,List.take_zero] at g2
 rw[List.getElem?_eq_getElem (by omega)] at g2;obtain⟨x0,e0,-,w0⟩:=DataW.trod_int underlying3 g0;obtain rfl:=List.singleton_inj.1 e0;obtain⟨x1,e1,-,w1⟩:=DataW.trod_int underlying3 g1;obtain rfl:=List.singleton_inj.1 e1;obtain⟨A,l,c,rfl,r1,r2,r3,r4⟩:=Yc g2;exact⟨x0,x1,A,l,c,rfl,r1,r2,r3,r4⟩
theorem KE{cs:List Value}{y:DataW H×List MemPlace}(hc:cs.length=7)(h:DataW.trod enc prog w base (fun _=>true) held k 49 cs=some y):∃(kk WW HH:Int) (pp:Nat) (iw ih:Int) (A:Option Addr) (l:List Nat) (c:Nat),cs=(Vk kk WW HH pp iw ih A l.length c)∧pp<4294967296∧Row eW w A l∧l.length<=c∧c<=maxLen∧∀z∈l,z<4294967296:=by
 obtain⟨c0,c1,c2,c3,c4,c5,c6,rfl⟩:∃c0 c1 c2 c3 c4 c5 c6,cs=[c0,c1,c2,c3,c4,c5,c6]:=by
  match cs,hc with
  | [c0,c1,c2,c3,c4,c5,c6],_=>exact⟨_,_,_,_,_,_,_,rfl⟩
 obtain⟨d,p⟩:=y;obtain⟨ys,n',_,hy,hlen,hyl,hfl⟩:=DataW.trod_struct underlying49 h;have YC:ys.length=5:=hyl;have z0:prog.cellsOf 3=1:=by kernel_rfl
 have g0:DataW.trod enc prog w base (fun _=>true) held n' 3 ((([c0,c1,c2,c3,c4,c5,c6]:List Value).drop 0).take (prog.cellsOf 3))=ys[0]?:=hfl 0 _ rfl;rw[z0] at g0;try simp only[List.drop_zero,List.take_succ_cons,List.take_zero] at g0
 rw[List.getElem?_eq_getElem (by omega)] at g0;have z1:prog.cellsOf 3=1:=by kernel_rfl
 have g1:DataW.trod enc prog w base (fun _=>true) held n' 3 ((([c0,c1,c2,c3,c4,c5,c6]:List Value).drop 1).take (prog.cellsOf 3))=ys[1]?:=hfl 1 _ rfl;rw[z1] at g1;try simp only[List.drop_succ_cons,List.drop_zero,List.take_succ_cons,List.take_zero] at g1
 rw[List.getElem?_eq_getElem (by omega)] at g1;have z2:prog.cellsOf 3=1:=by kernel_rfl
 have g2:DataW.trod enc prog w base (fun _=>true) held n' 3 ((([c0,c1,c2,c3,c4,c5,c6]:List Value).drop 2).take (prog.cellsOf 3))=ys[2]?:=hfl 2 _ rfl;rw[z2] at g2;try simp only[List.drop_succ_cons,List.drop_zero,List.take_succ_cons,List.take_zero] at g2
 rw[List.getElem?_eq_getElem (by omega)] at g2;have z3:prog.cellsOf 44=1:=by kernel_rfl
 have g3:DataW.trod enc prog w base (fun _=>true) held n' 44 ((([c0,c1,c2,c3,c4,c5,c6]:List Value).drop 3).take (prog.cellsOf 44))=ys[3]?:=hfl 3 _ rfl;rw[z3] at g3;try simp only[List.drop_succ_cons,List.drop_zero,List.take_succ_cons,List.take_zero] at g3
 rw[List.getElem?_eq_getElem (by omega)] at g3;have z4:prog.cellsOf 47=3:=by kernel_rfl
 have g4:DataW.trod enc prog w base (fun _=>true) held n' 47 ((([c0,c1,c2,c3,c4,c5,c6]:List Value).drop 4).take (prog.cellsOf 47))=ys[4]?:=hfl 4 _ rfl;rw[z4] at g4;try simp only[List.drop_succ_cons,List.drop_zero,List.take_succ_cons,List.take_zero] at g4
 rw[List.getElem?_eq_getElem (by omega)] at g4;obtain⟨x0,e0,-,w0⟩:=DataW.trod_int underlying3 g0;obtain rfl:=List.singleton_inj.1 e0;obtain⟨x1,e1,-,w1⟩:=DataW.trod_int underlying3 g1;obtain rfl:=List.singleton_inj.1 e1;obtain⟨x2,e2,-,w2⟩:=DataW.trod_int underlying3 g2;obtain rfl:=List.singleton_inj.1 e2;obtain⟨x3,e3,-,w3⟩:=DataW.trod_int underlying44 g3;obtain rfl:=List.singleton_inj.1 e3;have b3:=bounds_u32 w3;obtain⟨iw,ih,A,l,c,ei,r1,r2,r3,r4⟩:=Ib rfl g4;simp only[List.cons.injEq,and_true] at ei;obtain⟨rfl,rfl,rfl⟩:=ei
 obtain⟨pp,rfl⟩:∃pp:Nat,x3=(pp:Nat):=⟨x3.toNat,by omega⟩
 exact⟨x0,x1,x2,pp,iw,ih,A,l,c,rfl,by omega,r1,r2,r3,r4⟩
theorem Ub{cs:List Value}{y:DataW H×List MemPlace}(hc:cs.length=23)(h:DataW.trod enc prog w base (fun _=>true) held k 77 cs=some y):∃q:iO,cs=q.cs∧Row eW w q.A q.o.lk.l∧Jc q.o:=by
 obtain⟨c0,c1,c2,c3,c4,c5,c6,c7,c8,c9,c10,c11,c12,c13,c14,c15,c16,c17,c18,c19,c20,c21,QW,rfl⟩:∃c0 c1 c2 c3 c4 c5 c6 c7 c8 c9 c10 c11 c12 c13 c14 c15 c16 c17 c18 c19 c20 c21 QW,cs=[c0,c1,c2,c3,c4,c5,c6,c7,c8,c9,c10,c11,c12,c13,c14,c15,c16,c17,c18,c19,c20,c21,QW]:=by
  match cs,hc with
  | [c0,c1,c2,c3,c4,c5,c6,c7,c8,c9,c10,c11,c12,c13,c14,c15,c16,c17,c18,c19,c20,c21,QW],_=>exact⟨_,_,_,_,_,_,_,_,_,_,_,_,_,_,_,_,_,_,_,_,_,_,_,rfl⟩
 obtain⟨d,p⟩:=y;obtain⟨ys,n',_,hy,hlen,hyl,hfl⟩:=DataW.trod_struct underlying77 h;have YC:ys.length=9:=hyl;have z0:prog.cellsOf 3=1:=by kernel_rfl
 have g0:DataW.trod enc prog w base (fun _=>true) held n' 3 ((([c0,c1,c2,c3,c4,c5,c6,c7,c8,c9,c10,c11,c12,c13,c14,c15,c16,c17,c18,c19,c20,c21,QW]:List Value).drop 0).take (prog.cellsOf 3))=ys[0]?:=hfl 0 _ rfl;rw[z0] at g0;try simp only[List.drop_zero,List.take_succ_cons,List.take_zero] at g0
 rw[List.getElem?_eq_getElem (by omega)] at g0;have z1:prog.cellsOf 3=1:=by kernel_rfl
 have g1:DataW.trod enc prog w base (fun _=>true) held n' 3 ((([c0,c1,c2,c3,c4,c5,c6,c7,c8,c9,c10,c11,c12,c13,c14,c15,c16,c17,c18,c19,c20,c21,QW]:List Value).drop 1).take (prog.cellsOf 3))=ys[1]?:=hfl 1 _ rfl;rw[z1] at g1;try simp only[List.drop_succ_cons,List.drop_zero,List.take_succ_cons,List.take_zero] at g1
 rw[List.getElem?_eq_getElem (by omega)] at g1;have z2:prog.cellsOf 3=1:=by kernel_rfl
 have g2:DataW.trod enc prog w base (fun _=>true) held n' 3 ((([c0,c1,c2,c3,c4,c5,c6,c7,c8,c9,c10,c11,c12,c13,c14,c15,c16,c17,c18,c19,c20,c21,QW]:List Value).drop 2).take (prog.cellsOf 3))=ys[2]?:=hfl 2 _ rfl;rw[z2] at g2;try simp only[List.drop_succ_cons,List.drop_zero,List.take_succ_cons,List.take_zero] at g2
 rw[List.getElem?_eq_getElem (by omega)] at g2;have z3:prog.cellsOf 3=1:=by kernel_rfl
 have g3:DataW.trod enc prog w base (fun _=>true) held n' 3 ((([c0,c1,c2,c3,c4,c5,c6,c7,c8,c9,c10,c11,c12,c13,c14,c15,c16,c17,c18,c19,c20,c21,QW]:List Value).drop 3).take (prog.cellsOf 3))=ys[3]?:=hfl 3 _ rfl;rw[z3] at g3;try simp only[List.drop_succ_cons,List.drop_zero,List.take_succ_cons,List.take_zero] at g3
 rw[List.getElem?_eq_getElem (by omega)] at g3;have z4:prog.cellsOf 39=6:=by kernel_rfl
 have g4:DataW.trod enc prog w base (fun _=>true) held n' 39 ((([c0,c1,c2,c3,c4,c5,c6,c7,c8,c9,c10,c11,c12,c13,c14,c15,c16,c17,c18,c19,c20,c21,QW]:List Value).drop 4).take (prog.cellsOf 39))=ys[4]?:=hfl 4 _ rfl;rw[z4] at g4;try simp only[List.drop_succ_cons,List.drop_zero,List.take_succ_cons,List.take_zero] at g4
 rw[List.getElem?_eq_getElem (by omega)] at g4;have z5:prog.cellsOf 75=4:=by kernel_rfl
 have g5:DataW.trod enc prog w base (fun _=>true) held n' 75 ((([c0,c1,c2,c3,c4,c5,c6,c7,c8,c9,c10,c11,c12,c13,c14,c15,c16,c17,c18,c19,c20,c21,QW]:List Value).drop 10).take (prog.cellsOf 75))=ys[5]?:=hfl 5 _ rfl;rw[z5] at g5;try simp only[List.drop_succ_cons,List.drop_zero,List.take_succ_cons,List.take_zero] at g5
 rw[List.getElem?_eq_getElem (by omega)] at g5;have z6:prog.cellsOf 4=1:=by kernel_rfl
 have g6:DataW.trod enc prog w base (fun _=>true) held n' 4 ((([c0,c1,c2,c3,c4,c5,c6,c7,c8,c9,c10,c11,c12,c13,c14,c15,c16,c17,c18,c19,c20,c21,QW]:List Value).drop 14).take (prog.cellsOf 4))=ys[6]?:=hfl 6 _ rfl;rw[z6] at g6;try simp only[List.drop_succ_cons,List.drop_zero,List.take_succ_cons,List.take_zero] at g6
 rw[List.getElem?_eq_getElem (by omega)] at g6;have z7:prog.cellsOf 3=1:=by kernel_rfl
 have g7:DataW.trod enc prog w base (fun _=>true) held n' 3 ((([c0,c1,c2,c3,c4,c5,c6,c7,c8,c9,c10,c11,c12,c13,c14,c15,c16,c17,c18,c19,c20,c21,QW]:List Value).drop 15).take (prog.cellsOf 3))=ys[7]?:=hfl 7 _ rfl;rw[z7] at g7;try simp only[List.drop_succ_cons,List.drop_zero,List.take_succ_cons,List.take_zero] at g7
 rw[List.getElem?_eq_getElem (by omega)] at g7;have z8:prog.cellsOf 49=7:=by kernel_rfl
 have g8:DataW.trod enc prog w base (fun _=>true) held n' 49 ((([c0,c1,c2,c3,c4,c5,c6,c7,c8,c9,c10,c11,c12,c13,c14,c15,c16,c17,c18,c19,c20,c21,QW]:List Value).drop 16).take (prog.cellsOf 49))=ys[8]?:=hfl 8 _ rfl;rw[z8] at g8;try simp only[List.drop_succ_cons,List.drop_zero,List.take_succ_cons,List.take_zero] at g8
 rw[List.getElem?_eq_getElem (by omega)] at g8;obtain⟨x0,e0,-,w0⟩:=DataW.trod_int underlying3 g0;obtain rfl:=List.singleton_inj.1 e0;obtain⟨x1,e1,-,w1⟩:=DataW.trod_int underlying3 g1;obtain rfl:=List.singleton_inj.1 e1;obtain⟨x2,e2,-,w2⟩:=DataW.trod_int underlying3 g2;obtain rfl:=List.singleton_inj.1 e2;obtain⟨x3,e3,-,w3⟩:=DataW.trod_int underlying3 g3;obtain rfl:=List.singleton_inj.1 e3;obtain⟨x7,e7,-,w7⟩:=DataW.trod_int underlying3 g7;obtain rfl:=List.singleton_inj.1 e7;obtain⟨m,em⟩:=Qa rfl g4;obtain⟨r,er⟩:=J5 rfl g5
 obtain⟨x6,e6,-⟩:=DataW.trod_bool underlying4 g6;obtain rfl:=List.singleton_inj.1 e6;obtain⟨kk,WW,HH,pp,iw,ih,A,l,c,el,hp,r1,r2,r3,r4⟩:=KE rfl g8;unfold Mp.cs at em;unfold Bx.cs at er;simp only[List.cons.injEq,and_true] at em er el;obtain⟨rfl,rfl,rfl,rfl,rfl,rfl⟩:=em;obtain⟨rfl,rfl,rfl,rfl⟩:=er;obtain⟨rfl,rfl,rfl,rfl,rfl,rfl,rfl⟩:=el;exact⟨⟨⟨x0,x1,x2,x3,m,r,x6,x7,⟨kk,WW,HH,pp,iw,ih,l⟩⟩,A,c⟩,rfl,r1,⟨bounds_i64 w1,bounds_i64 w2,hp,r4,Nat.le_trans r2 r3⟩⟩
def Held(d:DataW H)(n:Nat):Prop:=n=0∨∃e s,d=.slice e s∧n<=e.length+s.length
theorem Pn{x:Value}{y:DataW H×List MemPlace}(h:DataW.trod enc prog w base (fun _=>true) held k 73 [x]=some y):∃(A:Option Addr) (l:List iO) (cc:Nat),x=.slice A l.length cc∧Bg w A l∧l.length<=maxLen∧Held y.1 l.length:=by
 rcases open_slice underlying73 h with ⟨hcs,_⟩|⟨⟨b,off,spot⟩,n,c,m,k',D,Pl,hcs,_,hl,hm,hmm,hy,hi⟩
 ·obtain rfl:=List.singleton_inj.1 hcs;exact⟨none,[],0,rfl,⟨fun h=>absurd h (by simp),fun z hz=>by cases hz⟩,by simp,.inl rfl⟩
 ·obtain rfl:=List.singleton_inj.1 hcs;simp only[if_true] at hmm;subst hmm;have hC:prog.cellsOf 77=23:=by kernel_rfl
  have hsp:0<n->spot=none:=fun h0=>by
   obtain⟨cs',hc,_⟩:=hi 0 (by omega);rw[hC] at hc;obtain⟨_,hcl,hat⟩:=World.cells?_some hc;have a0:=hat 0 (by omega);rw[List.getElem?_eq_getElem (by omega)] at a0
   simpa[Addr.add] using World.cell?_spot a0
  have one:∀i,i<n->∃q:iO,(∀j v,q.cs[j]?=some v->w.cell? ⟨b,off+i*23+j,none⟩=some v)∧Row eW w q.A q.o.lk.l∧Jc q.o:=fun i hin=>by
   obtain⟨cs',hc,ht⟩:=hi i (by omega);rw[hC] at hc;obtain⟨_,hcl,hat⟩:=World.cells?_some hc;obtain⟨q,rfl,hr,ho⟩:=Ub hcl ht;have hspot:spot=none:=hsp (by omega);subst hspot;refine⟨q,fun j v hj=>?_,hr,ho⟩
   have hlt:j<23:=by
    have:=(List.getElem?_eq_some_iff.1 hj).1
    rwa [iO.aZ] at this
   have a0:=hat j hlt;rw[hj,qg,qg] at a0;exact a0
  obtain⟨xs,hxl,hxs⟩:=Dl one;refine⟨some ⟨b,off,spot⟩,xs,m,by rw[hxl],⟨fun hn=>⟨b,off,by rw[hsp (by omega)],fun j hj i v hv=>(hxs j hj).1 i v hv⟩,fun q hq=>?_⟩,by omega,.inr ⟨_,_,by rw[hy],by simp;omega⟩⟩;obtain⟨j,hj,rfl⟩:=List.mem_iff_getElem.1 hq;exact(hxs j hj).2
structure WC(w:World)(A:Option Addr)(L:List vw):Prop where
 row:aS 1 vw.cs w A L
 ops:∀q∈L,Bg w q.A q.l
theorem JW{x:Value}{y:DataW H×List MemPlace}(h:DataW.trod enc prog w base (fun _=>true) held k 22 [x]=some y):∃(A:Option Addr) (L:List vw) (cc:Nat),x=.slice A L.length cc∧WC w A L∧L.length<=maxLen ∧
  (L=[]∨∃e s,y.1=.slice e s∧L.length<=e.length+s.length∧∀q∈L,∃d∈e,Held d q.l.length):=by
 rcases open_slice underlying22 h with ⟨hcs,_⟩|⟨⟨b,off,spot⟩,n,c,m,k',D,Pl,hcs,_,hl,hm,hmm,hy,hi⟩
 ·obtain rfl:=List.singleton_inj.1 hcs;exact⟨none,[],0,rfl,⟨fun h=>absurd h (by simp),fun z hz=>by cases hz⟩,by simp,.inl rfl⟩
 ·obtain rfl:=List.singleton_inj.1 hcs;simp only[if_true] at hmm;subst hmm;have hC:prog.cellsOf 73=1:=by kernel_rfl
  have hsp:0<n->spot=none:=fun h0=>by
   obtain⟨cs',hc,_⟩:=hi 0 (by omega);rw[hC] at hc;obtain⟨_,hcl,hat⟩:=World.cells?_some hc;have a0:=hat 0 (by omega);rw[List.getElem?_eq_getElem (by omega)] at a0
   simpa[Addr.add] using World.cell?_spot a0
  have one:∀i,i<n->∃q:vw,w.cell? ⟨b,off+i,none⟩=some (.slice q.A q.l.length q.c)∧Bg w q.A q.l∧Held (D i) q.l.length:=fun i hin=>by
   obtain⟨cs',hc,ht⟩:=hi i (by omega);rw[hC] at hc;obtain⟨_,hcl,hat⟩:=World.cells?_some hc
   obtain⟨c0,rfl⟩:∃c0,cs'=[c0]:=by
    match cs',hcl with
    | [c0],_=>exact⟨_,rfl⟩
   obtain⟨A,l,cc,rfl,ho,_,hh⟩:=Pn ht;have hspot:spot=none:=hsp (by omega);subst hspot;have a0:=hat 0 (by omega);rw[qg,qg] at a0;simp only[Nat.add_zero,Nat.mul_one] at a0;exact⟨⟨A,cc,l⟩,a0,ho,hh⟩
  obtain⟨xs,hxl,hxs⟩:=Dl one;refine⟨some ⟨b,off,spot⟩,xs,m,by rw[hxl],⟨fun hn=>⟨b,off,by rw[hsp (by omega)],fun j hj i v hv=>?_⟩,fun q hq=>?_⟩,by omega,.inr ⟨_,_,by rw[hy],by simp;omega,fun q hq=>?_⟩⟩
  ·have hi0:i=0:=by
    have:=(List.getElem?_eq_some_iff.1 hv).1;rw[vw.aZ] at this;omega
   subst hi0
   have e:(.slice xs[j].A xs[j].l.length xs[j].c:Value)=v:=by
    have h2:=hv;unfold vw.cs at h2
    simpa using h2
   rw[← e]
   simpa using(hxs j hj).1
  ·obtain⟨j,hj,rfl⟩:=List.mem_iff_getElem.1 hq;exact(hxs j hj).2.1
  ·obtain⟨j,hj,rfl⟩:=List.mem_iff_getElem.1 hq;exact⟨D j,List.mem_map.2 ⟨j,by simp;omega,rfl⟩,(hxs j hj).2.2⟩
end
section
variable {H:Type}{enc:TypeId×Value->H}{w:World}{base:Nat}{held:Bool}{a:Option Addr}{n c:Nat}{d:DataW H}{p:List MemPlace}
theorem TB(h:DataW.Trod enc prog w base (fun _=>true) held 22 (.slice a n c) d p):∃L:List vw,n=L.length∧WC w a L∧L.length<=maxLen ∧
  (L=[]∨∃e s,d=.slice e s∧L.length<=e.length+s.length∧∀q∈L,∃d'∈e,Held d' q.l.length):=by
 obtain⟨fuel,hf⟩:=h;obtain⟨A,l,cc,e,h1,h2,h3⟩:=JW hf
 injection e with e1 e2 e3
 subst e1;exact⟨l,e2,h1,h2,h3⟩
end
section
variable {H:Type}{enc:TypeId×Value->H}{w:World}{base b0:Nat}{held:Bool}{r:Reach}{v:Value}{d:DataW H}{p:List MemPlace}
end
section
variable {H:Type}{ts:List TypeId}{ds:List (DataW H)}
theorem weightsAll_mem{e:TypeId}:∀{l:List (DataW H)} {d:DataW H},d∈l->∀n∈d.weights prog e,n∈DataW.weightsAll prog e l
 | d'::r,d,hd,n,hn=>by
  simp only[DataW.weightsAll,List.mem_append];rcases List.mem_cons.1 hd with rfl|h
  ·exact Or.inl hn
  ·exact Or.inr (weightsAll_mem h n hn)
theorem CX(h:(DataW.weightsEach prog ts ds).all (·<=reachBytes)=true){j:Nat}{d:DataW H}{w:World}{A:Option Addr}{L:List vw}(ht:ts[j]?=some 22)(hd:ds[j]?=some d)(hr:WC w A L)(hm:L.length<=maxLen)
  (hh:L=[]∨∃e s,d=.slice e s∧L.length<=e.length+s.length∧∀q∈L,∃d'∈e,Held d' q.l.length):Md w A L∧L.length*24<=140737488351232:=by
 have hm2:L.length<=9223372036854775807:=by unfold maxLen at hm;omega
 rcases hh with rfl|⟨e,s,rfl,hle,hq⟩
 ·exact⟨⟨hr.row,hr.ops,(fun q hq=>by cases hq),hm2⟩,by simp⟩
 have h1:=sized_slice h ht hd underlying22;rw[show prog.bytesOf 73=24 from by kernel_rfl,show reachBytes=140737488351232 from rfl] at h1;refine⟨⟨hr.row,hr.ops,fun q hq'=>?_,hm2⟩,by omega⟩;obtain⟨d',hd',hh⟩:=hq q hq';rcases hh with h0|⟨e',s',rfl,a6t⟩
 ·omega
 have h2:(e'.length+s'.length)*prog.bytesOf 77<=reachBytes:=by
  refine of_decide_eq_true (List.all_eq_true.1 h _ (DataW.weights_mem_each ht hd _ ?_));simp only[DataW.weights,underlying22,List.mem_cons,List.mem_append];exact Or.inr (Or.inl (weightsAll_mem hd' _ (by simp[DataW.weights,underlying73])))
 rw[show prog.bytesOf 77=200 from by kernel_rfl,show reachBytes=140737488351232 from rfl] at h2;omega
end
end
end Go.Proofs.YtekdoeilpheklaaGreat
