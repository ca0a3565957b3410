import Derived.Test.YthmegninhpihkaaGreatVScD
set_option maxHeartbeats 16000000
set_option maxRecDepth 100000
open Go.Proofs.Tryz
namespace Go.Proofs.YthmegninhpihkaaGreat
section
open Go.RowKit fG gm
theorem S9:(prog.info? 41).map (fun i=>(i.zero,i.size,i.bytes))=some (some (.int .u32 0),1,4):=by kernel_rfl
abbrev Qk(w:World)(base:Nat)(v:Value)(l:List Nat):Prop:=ax 41 1 eWs w base v l
theorem QY{w:World}{base:Nat}{v:Value}{l:List Nat}(h:Qk w base v l)(z:Nat)(hn:l.length<=20000000)(hb:base<=w.heap.size){g:Nat}(hg:g=w.heap.size) :
  ∃A9 c9 w',(Builtin.append_ #[42,42] 42 #[v,.slice (some ⟨g,0,none⟩) 1 1]).run prog (w.alloc (.cells #[.int .u32 (z:Nat)] 41))=.ok (.slice A9 (l.length+1) c9) w'∧Qk w' base (.slice A9 (l.length+1) c9) (l++[z])∧Below base w w':=by
 subst hg;have hr:aV 1 eWs (w.alloc (.cells #[.int .u32 (z:Nat)] 41)) (some ⟨w.heap.size,0,none⟩) [z]:=jA qI w [z] 41 rfl;obtain⟨v',w',hrun,ho,hg,-⟩:=ax.app (P:=prog) (ts:=42) (z:=.int .u32 0) (sG:=4) underlying42 S9 rfl (by decide) (by decide) qI (by intro x u hu;rw[List.mem_singleton.1 hu];rfl) (h.below (bR.alloc nR (.cells #[.int .u32 (z:Nat)] 41))) (xs:=[z]) (c:=1) (fun _=>hr) (by simp;omega) (by simp;omega);have hB:Below base w w':=((Below.refl base w).alloc hb _).grown hg (by simp;omega) (fun j hj=>(h.block hj).1)
 obtain⟨A9,c9,rfl,-⟩:=ho.row qI;rw[List.length_append,List.length_singleton]at hrun ho;exact⟨A9,c9,w',hrun,ho,hB⟩
end
section
open Go.RowKit fG gm
def frV(z:Nat):Value:=.agg (Vl ((BF z).r:Nat) ((BF z).g:Nat) ((BF z).b:Nat) ((BF z).a:Nat)).toArray
theorem Np(z:Nat)(hz:z<4294967296)(w:World):Calls prog 129 #[.int .u32 (z:Nat)] w (aZ (frV z) w):=PO z hz w
theorem Nc(z:Nat)(hz:z<4294967296)(w:World):Calls prog 128 #[frV z] w (aZ (.bool (rb z)) w):=by
 have h:=Gi ((BF z).r:Nat) ((BF z).g:Nat) ((BF z).b:Nat) ((BF z).a:Nat) w;rw[PI (BF z) (Dc hz)]at h;exact h
theorem a0w{W H:Int}{l:List Nat}(h:¬(1<=W∧1<=H∧W<=4096∧H<=4096)):chk W H l=11:=by
 unfold chk;rw[if_neg (fun h2=>h (jS.1 h2))]
theorem a0x{W H:Int}{l:List Nat}(h:1<=W∧1<=H∧W<=4096∧H<=4096)(hn:¬(l.length:Int)=W*H):chk W H l=10:=by
 unfold chk;rw[if_pos (jS.2 h),if_neg (fun h2=>hn (BR.1 h2).2)]
theorem a0v{W H:Int}{l:List Nat}(h:1<=W∧1<=H∧W<=4096∧H<=4096)(hn:(l.length:Int)=W*H):chk W H l=if l.all rb=true then 0 else 10:=by
 unfold chk;rw[if_pos (jS.2 h),if_pos (BR.2 ⟨jS.2 h,hn⟩)]
theorem Uc(W H:Int)(A:Option Addr)(l:List Nat)(c:Nat)(hl:∀z∈l,z<4294967296)(hn:l.length<=maxLen)(w:World)(hr:Row eW w A l) :
  Calls prog 130 #[EU W H A l.length c] w (aZ (.int .i64 (chk W H l)) w):=by
 have HC:Hid (chk W H l=chk W H l):=rfl;have hn3:l.length<=9223372036854775807:=by unfold maxLen at hn;omega
 have H11:=Hd (fun h=>a0w (W:=W) (H:=H) (l:=l) h);have H10:=Hd (fun h hn=>a0x (W:=W) (H:=H) (l:=l) h hn);have HIN:=Hd (fun h hn=>a0v (W:=W) (H:=H) (l:=l) h hn);have Ya:=Hd (fun h=>CP (W:=W) (H:=H) h);have HR:=Hd hr;have HL:=Hd hl;clear hr hl hn;generalize chk W H l=R at*;unfold EU;have HB1:Hid (bz w (w.alloc (.cells (Vn W H A l.length c).toArray 44))):=bR.alloc nR _;by_cases t1:W<1
 ·have t:decide (W<1)=true:=by simpa using t1
  have HF:=Hd (H11.o (by omega));clear t1;go_enter func130,ntmps130;go_wp2_with (fail);go_ret;exact⟨aB HF.o.symm,HB1.o⟩
 ·have s1:decide (W<1)=false:=by simpa using t1
  by_cases t2:H<1
  ·have t:decide (H<1)=true:=by simpa using t2
   have HF:=Hd (H11.o (by omega));clear t1 t2;go_enter func130,ntmps130;go_wp2_with (fail);go_ret;exact⟨aB HF.o.symm,HB1.o⟩
  ·have s2:decide (H<1)=false:=by simpa using t2
   by_cases t3:4096<W
   ·have t:decide (4096<W)=true:=by simpa using t3
    have HF:=Hd (H11.o (by omega));clear t1 t2 t3;go_enter func130,ntmps130;go_wp2_with (fail);go_ret;exact⟨aB HF.o.symm,HB1.o⟩
   ·have s3:decide (4096<W)=false:=by simpa using t3
    by_cases t4:4096<H
    ·have t:decide (4096<H)=true:=by simpa using t4
     have HF:=Hd (H11.o (by omega));clear t1 t2 t3 t4;go_enter func130,ntmps130;go_wp2_with (fail);go_ret;exact⟨aB HF.o.symm,HB1.o⟩
    ·have s4:decide (4096<H)=false:=by simpa using t4
     have hs:1<=W∧1<=H∧W<=4096∧H<=4096:=by omega
     obtain⟨m1,m2⟩:=Ya.o (jS.2 hs);have q:wrap64 (W*H)=W*H:=IntWalk.wrap64_in _ (by omega);have kG:=Hd hs;clear t1 t2 t3 t4 Ya H11 hs m1 m2;by_cases t5:(l.length:Int)=W*H
     ·have HI2:=Hd (HIN.o kG.o t5);have q1:((l.length:Int) != W*H)=false:=by simpa using t5
      clear t5 HIN H10 kG;go_enter func130,ntmps130;go_wp2_with (fail);have HI:Hid (az (w.alloc (.cells (Vn W H A l.length c).toArray 44)) w.heap.size (Vn W H A l.length c)):=aA w (Vn W H A l.length c) _;generalize w.alloc (.cells (Vn W H A l.length c).toArray 44)=w2 at*;clear s1 s2 s3 s4 q q1
      go_loopw [3] (fun i wr=>∃k:Nat,k<=l.length∧i=.int .i64 k∧Hid ((l.take k).all rb=true)∧Hid (bz w wr)∧Hid (az wr w.heap.size (Vn W H A l.length c))) (fun i _=>l.length - (intOf i).toNat)
      case atStart=>exact⟨0,Nat.zero_le _,rfl,rfl,HB1.o,HI.o⟩
      case round=>
       clear HI;obtain⟨k,hk,rfl,HK,HB,HI⟩:=hrel;have ci:=HI.o.cell 2;have cj:=HI.o.inside;have HI':wr.cell? ⟨w.heap.size,2,none⟩=some (.slice A l.length c):=ci;clear ci;by_cases hlt:k<l.length
       ·have t:decide (k<l.length)=true:=by simpa using hlt
        obtain⟨b,off,eA,hc⟩:=(HR.o.below HB.o).at_ hlt;subst eA;have hz:l[k]<4294967296:=HL.o _ (List.getElem_mem hlt);have HP:=Hd (fun w=>Np l[k] hz w);have HP2:=Hd (fun w=>Nc l[k] hz w);have H1:=Hd (vZ HK.o hlt);have H0:=Hd (KI (p:=rb) hlt);generalize l[k]=z at*;unfold eW at hc;unfold frV at HP HP2;go_wp2_with (fail);refine(HP.o _).mono ?_;rintro e w3 ⟨rfl,hb⟩;have HB3:=Hd (HB.o.trans (hb.mono HB.o.size));have HI3:=Hd (HI.o.below' hb);clear hb HP hc;go_wp2_with (fail);refine(HP2.o _).mono ?_;rintro e w4 ⟨rfl,hb⟩
        have HB4:=Hd (HB3.o.trans (hb.mono HB3.o.size));have HI4:=Hd (HI3.o.below' hb);clear hb HP2;generalize rb z=y at*;cases y with
        |false=>
         have HF:=Hd (HI2.o.trans (if_neg (by rw[H0.o (by trivial)];decide)));go_wp2_with (fail);go_ret;exact⟨aB HF.o.symm,HB4.o⟩
        |true=>
         go_wp2_with (fail)
         go_roundw
         case rel=>exact⟨k+1,by omega,by go_num,H1.o (by trivial),HB4,HI4⟩
         case measure=>simp[intOf];omega
       ·obtain rfl:k=l.length:=by omega
        have HF:=Hd (HI2.o.trans (if_pos (by have:=HK.o;rwa [List.take_length]at this)));have t:decide (l.length<l.length)=false:=by simp
        go_wp2_with (fail);go_ret;exact⟨aB HF.o.symm,HB.o⟩
     ·have HI2:=Hd (H10.o kG.o t5);have q1:((l.length:Int) != W*H)=true:=by simpa using t5
      clear t5 HIN H10 kG;go_enter func130,ntmps130;go_wp2_with (fail);go_ret;exact⟨aB HI2.o.symm,HB1.o⟩
end
section
open Go.RowKit fG gm
def MH(iw ih:Int)(l:List Nat):Bool:=(iw==0)&&((ih==0)&&(((l.length:Nat):Int)==0))
theorem RZ(iw ih:Int)(l:List Nat):xG iw ih l=!MH iw ih l:=by
 unfold xG Y3 MH;rw[Bool.eq_iff_iff];simp
def NC(W H:Int)(p:Nat):Bool:=(W==0)&&((H==0)&&((p:Int)==0))
theorem Un(W H:Int)(p:Nat):xH W H p=!NC W H p:=by
 unfold xH NC;rw[Bool.eq_iff_iff];simp
 try omega
theorem PN(m:Mp)(op:Int)(hi cl:Bool)(r:Bx)(k W H:Int)(p:Nat)(iw ih:Int)(A:Option Addr)(l:List Nat)(c:Nat)(hp:p<4294967296)(hl:∀z∈l,z<4294967296)(hn:l.length<=maxLen)(w:World)(hr:Row eW w A l) :
  Calls prog 107 #[MI m op hi cl r k W H p iw ih A l.length c] w (aZ (.int .i64 (Bz k W H p iw ih l)) w):=by
 have HR:=Hd hr;have HC:Hid (Bz k W H p iw ih l=if k=0 then VW (!xH W H p && !xG iw ih l) else if k=1 then (if eF W H=true then VW (rb p && !xG iw ih l) else 11) else if k=2 then VW (oC iw ih l && !xH W H p) else 11):=rfl;have UM:Hid (oC iw ih l=(decide (iw<=256∧ih<=256)&&decide (chk iw ih l=0))):=rfl;have kG:Hid (eF W H=decide (1<=W∧1<=H∧W<=4096∧H<=4096)):=rfl;have HK:=Hd (fun w hr=>Uc iw ih A l c hl hn w hr);have HF:=Hd (fun w=>Np p hp w);have HG:=Hd (fun w=>Nc p hp w)
 have uQ:Hid (MH iw ih l=((iw==0)&&((ih==0)&&(((l.length:Nat):Int)==0)))):=rfl;have Zy:Hid (NC W H p=((W==0)&&((H==0)&&((p:Int)==0)))):=rfl;rw[RZ,Un,Bool.not_not,Bool.not_not]at HC;have hn3:l.length<=9223372036854775807:=by unfold maxLen at hn;omega
 clear hr hp hl hn;generalize Bz k W H p iw ih l=R at*;generalize MH iw ih l=nB at*;generalize NC W H p=bB at*;generalize oC iw ih l=sB at*;generalize chk iw ih l=C at*;generalize eF W H=S at*;generalize rb p=br at*;unfold EU at HK;unfold frV at HF HG;unfold MI;obtain⟨ma,mb,mc,md,me,mf⟩:=m;obtain⟨x0,y0,x1,y1⟩:=r;simp only;have HB:Hid (bz w (w.alloc (.cells (Vc ma mb mc md me mf op hi cl x0 y0 x1 y1 k W H p iw ih A l.length c).toArray 46))):=bR.alloc nR _
 have HI:Hid (az (w.alloc (.cells (Vc ma mb mc md me mf op hi cl x0 y0 x1 y1 k W H p iw ih A l.length c).toArray 46)) w.heap.size (Vc ma mb mc md me mf op hi cl x0 y0 x1 y1 k W H p iw ih A l.length c)):=aA w (Vc ma mb mc md me mf op hi cl x0 y0 x1 y1 k W H p iw ih A l.length c) _;go_enter func107,ntmps107
 go_upto_region 1 with(fail)
 generalize (w.alloc (.cells (Vc ma mb mc md me mf op hi cl x0 y0 x1 y1 k W H p iw ih A l.length c).toArray 46))=wz at*;have c13:=HI.o.c 13 rfl;have c14:=HI.o.c 14 rfl;have c15:=HI.o.c 15 rfl;have c16:=HI.o.c 16 rfl;have c17:=HI.o.c 17 rfl;have c18:=HI.o.c 18 rfl;have c19:=HI.o.c 19 rfl;have hlt:=HI.o.inside;generalize h1:(iw==0)=b1 at*;generalize h2:(ih==0)=b2 at*;generalize h3:(((l.length:Nat):Int)==0)=b3 at*;generalize h4:(W==0)=b4 at*;generalize h5:(H==0)=b5 at*;generalize h6:((p:Int)==0)=b6 at*
 go_cut [3] from 22 (fun u wx=>u=.bool (b1&&(b2&&b3))∧wx=wz)
 case first=>
  cases b1 with
  |false=>
   go_wp2_with (fail)
   go_meet
   case rel=>exact⟨rfl,rfl⟩
  |true=>
   cases b2 with
   |false=>
    go_wp2_with (fail)
    go_meet
    case rel=>exact⟨rfl,rfl⟩
   |true=>
    go_wp2_with (fail)
    go_meet
    case rel=>exact⟨rfl,rfl⟩
 case rest=>
  obtain⟨rfl,rfl⟩:=hcut;have e1:=uQ.o;rw[←e1];clear e1
  go_upto_region 2 with(fail)
  go_cut [4] from 35 (fun u wx=>u=.bool (b4&&(b5&&b6))∧wx=wc)
  case first=>
   cases b4 with
   |false=>
    go_wp2_with (fail)
    go_meet
    case rel=>exact⟨rfl,rfl⟩
   |true=>
    cases b5 with
    |false=>
     go_wp2_with (fail)
     go_meet
     case rel=>exact⟨rfl,rfl⟩
    |true=>
     go_wp2_with (fail)
     go_meet
     case rel=>exact⟨rfl,rfl⟩
  case rest=>
   obtain⟨rfl,rfl⟩:=hcut;have e1:=Zy.o;rw[←e1];clear e1;clear uQ Zy h1 h2 h3 h4 h5 h6;by_cases k0:k=0
   ·subst k0;have HC2:=Hd (HC.o.trans (if_pos rfl));clear HC UM kG HK HF HG;cases nB with
    |false=>
     rw[Bool.and_false]at HC2;go_wp2_with (fail);go_ret;exact⟨aB HC2.o.symm,HB.o⟩
    |true=>
     rw[Bool.and_true]at HC2;cases bB with
     |false=>
      go_wp2_with (fail);go_ret;exact⟨aB HC2.o.symm,HB.o⟩
     |true=>
      go_wp2_with (fail);go_ret;exact⟨aB HC2.o.symm,HB.o⟩
   ·have q0:(k==0)=false:=by simp;omega
    have HC2:=Hd (HC.o.trans (if_neg k0));clear HC;by_cases k1:k=1
    ·subst k1;clear q0 k0;have yC:=Hd (HC2.o.trans (if_pos rfl));clear HC2 UM HK;by_cases t1:W<1
     ·have t:decide (W<1)=true:=by simpa using t1
      have kH:Hid (S=false):=kG.o.trans (decide_eq_false (by omega));clear t1 kG;rw[kH.o]at yC;clear kH HF HG;go_wp2_with (fail);go_ret;exact⟨aB yC.o.symm,HB.o⟩
     ·have s1:decide (W<1)=false:=by simpa using t1
      by_cases t2:H<1
      ·have t:decide (H<1)=true:=by simpa using t2
       have kH:Hid (S=false):=kG.o.trans (decide_eq_false (by omega));clear t1 t2 kG;rw[kH.o]at yC;clear kH HF HG;go_wp2_with (fail);go_ret;exact⟨aB yC.o.symm,HB.o⟩
      ·have s2:decide (H<1)=false:=by simpa using t2
       by_cases t3:4096<W
       ·have t:decide (4096<W)=true:=by simpa using t3
        have kH:Hid (S=false):=kG.o.trans (decide_eq_false (by omega));clear t1 t2 t3 kG;rw[kH.o]at yC;clear kH HF HG;go_wp2_with (fail);go_ret;exact⟨aB yC.o.symm,HB.o⟩
       ·have s3:decide (4096<W)=false:=by simpa using t3
        by_cases t4:4096<H
        ·have t:decide (4096<H)=true:=by simpa using t4
         have kH:Hid (S=false):=kG.o.trans (decide_eq_false (by omega));clear t1 t2 t3 t4 kG;rw[kH.o]at yC;clear kH HF HG;go_wp2_with (fail);go_ret;exact⟨aB yC.o.symm,HB.o⟩
        ·have s4:decide (4096<H)=false:=by simpa using t4
         have kH:Hid (S=true):=kG.o.trans (decide_eq_true (by omega));clear t1 t2 t3 t4 kG;rw[kH.o]at yC;clear kH;cases nB with
         |false=>
          rw[Bool.and_false]at yC;clear HF HG;go_wp2_with (fail);go_ret;exact⟨aB yC.o.symm,HB.o⟩
         |true=>
          rw[Bool.and_true]at yC;go_wp2_with (fail);refine(HF.o _).mono ?_;rintro e w1 ⟨rfl,hb⟩;have HB1:=Hd (bel2 HB.o hb);have HI1:=Hd (HI.o.below' hb);clear hb HF c13 c14 c15 c16 c17 c18 c19 hlt;go_wp2_with (fail);refine(HG.o _).mono ?_;rintro e w2 ⟨rfl,hb⟩;have HB2:=Hd (bel2 HB1.o hb);have HI2:=Hd (HI1.o.below' hb);clear hb HG;have c13:=HI2.o.c 13 rfl;have c14:=HI2.o.c 14 rfl;have c15:=HI2.o.c 15 rfl;have c16:=HI2.o.c 16 rfl;have c17:=HI2.o.c 17 rfl;have c18:=HI2.o.c 18 rfl;have c19:=HI2.o.c 19 rfl;have hlt:=HI2.o.inside;cases br with
          |false=>
           go_wp2_with (fail);go_ret;exact⟨aB yC.o.symm,HB2.o⟩
          |true=>
           go_wp2_with (fail);go_ret;exact⟨aB yC.o.symm,HB2.o⟩
    ·have q1:(k==1)=false:=by simp;omega
     have yC:=Hd (HC2.o.trans (if_neg k1));clear HC2 kG HF HG;by_cases k2:k=2
     ·subst k2;clear q0 q1 k0 k1;have xP:=Hd (yC.o.trans (if_pos rfl));clear yC;cases bB with
      |false=>
       rw[Bool.and_false]at xP;clear HK UM;go_wp2_with (fail);go_ret;exact⟨aB xP.o.symm,HB.o⟩
      |true=>
       rw[Bool.and_true]at xP;go_wp2_with (fail);refine(HK.o _ (HR.o.below HB.o)).mono ?_;rintro e w1 ⟨rfl,hb⟩;have HB1:=Hd (bel2 HB.o hb);have HI1:=Hd (HI.o.below' hb);clear hb HK c13 c14 c15 c16 c17 c18 c19 hlt;have c13:=HI1.o.c 13 rfl;have c14:=HI1.o.c 14 rfl;have c15:=HI1.o.c 15 rfl;have c16:=HI1.o.c 16 rfl;have c17:=HI1.o.c 17 rfl;have c18:=HI1.o.c 18 rfl;have c19:=HI1.o.c 19 rfl;have hlt:=HI1.o.inside;by_cases z0:C=0
       ·have qz:(C==0)=true:=by simp;omega
        rw[decide_eq_true z0,Bool.and_true]at UM;clear z0;by_cases t1:iw<=256
        ·have s1:decide (iw<=256)=true:=by simpa using t1
         have kH:Hid (sB=decide (ih<=256)):=UM.o.trans (decide_eq_decide.2 ⟨fun h=>h.2,fun h=>⟨t1,h⟩⟩);rw[kH.o]at xP;clear UM kH t1;generalize hd:decide (ih<=256)=d at*;cases d with
         |false=>
          go_wp2_with (fail);go_ret;exact⟨aB xP.o.symm,HB1.o⟩
         |true=>
          go_wp2_with (fail);go_ret;exact⟨aB xP.o.symm,HB1.o⟩
        ·have s1:decide (iw<=256)=false:=by simpa using t1
         have kH:Hid (sB=false):=UM.o.trans (decide_eq_false (fun h=>t1 h.1));rw[kH.o]at xP;clear UM kH t1;go_wp2_with (fail);go_ret;exact⟨aB xP.o.symm,HB1.o⟩
       ·have qz:(C==0)=false:=by simp;omega
        have kH:Hid (sB=false):=UM.o.trans (by rw[decide_eq_false z0,Bool.and_false]);rw[kH.o]at xP;clear UM kH z0;go_wp2_with (fail);go_ret;exact⟨aB xP.o.symm,HB1.o⟩
     ·have q2:(k==2)=false:=by simp;omega
      have xP:=Hd (yC.o.trans (if_neg k2));clear yC UM HK;by_cases t1:k<0
      ·have t:decide (k<0)=true:=by simpa using t1
       clear t1 k0 k1 k2 q0 q1 q2;go_wp2_with (fail);go_ret;exact⟨aB xP.o.symm,HB.o⟩
      ·have s1:decide (k<0)=false:=by simpa using t1
       have t:decide (2<k)=true:=by simp;omega
       clear t1 k0 k1 k2 q0 q1 q2;go_wp2_with (fail);go_ret;exact⟨aB xP.o.symm,HB.o⟩
end
section
open Go.RowKit fG gm
end
section
open Go.RowKit fG gm
def ZP(x:Int):Bool:=decide (-16384<=x∧x<=16384)
def Bx.l(r:Bx):List Int:=[r.a,r.b,r.c,r.d]
theorem XB(r:Bx):J8 r=r.l.all ZP:=by
 unfold J8 Bx.l ZP;rw[Bool.eq_iff_iff];simp only[List.all_cons,List.all_nil,Bool.and_eq_true,decide_eq_true_eq,Bool.and_true];omega
theorem a2p(a b c d:Int)(w:World):(binOp .neq 40 (.agg (Vl a b c d).toArray) (.agg Vr.toArray)).run prog w=.ok (.bool (!decide ((⟨a,b,c,d⟩:Bx)=Bx.o))) w:=by
 obtain⟨i,hi⟩:=Option.isSome_iff_exists.1 (show(prog.info? 3).isSome=true by kernel_rfl);have hc:prog.cellsOf 3=1:=by kernel_rfl
 have h:=run_equalIn_array (P:=prog) w 9999 (Vl a b c d).toArray Vr.toArray underlying40 hi;rw[hc]at h;rw[run_neq_struct,h];unfold Bx.o;by_cases ha:a=0
 ·by_cases hb:b=0
  ·by_cases hc:c=0
   ·by_cases hd:d=0
    ·subst ha;subst hb;subst hc;subst hd;simp[Op.eqItems,List.range,List.range.loop,part,go_sem]
    ·rw[decide_eq_false (by simp[hd])];simp[Op.eqItems,List.range,List.range.loop,part,go_sem,ha,hb,hc,hd]
   ·rw[decide_eq_false (by simp[hc])];simp[Op.eqItems,List.range,List.range.loop,part,go_sem,ha,hb,hc]
  ·rw[decide_eq_false (by simp[hb])];simp[Op.eqItems,List.range,List.range.loop,part,go_sem,ha,hb]
 ·rw[decide_eq_false (by simp[ha])];simp[Op.eqItems,List.range,List.range.loop,part,go_sem,ha]
theorem PM(m:Mp)(op:Int)(hi cl:Bool)(r:Bx)(k W H:Int)(p:Nat)(iw ih:Int)(A:Option Addr)(l:List Nat)(c:Nat)(hp:p<4294967296)(hl:∀z∈l,z<4294967296)(hn:l.length<=maxLen)(w:World)(hr:Row eW w A l) :
  Calls prog 84 #[MI m op hi cl r k W H p iw ih A l.length c] w (aZ (.int .i64 (Jw m op cl r (Bz k W H p iw ih l))) w):=by
 have HM:=Hd (fun w=>OM m w);have HL:=Hd (fun w hr=>PN m op hi cl r k W H p iw ih A l c hp hl hn w hr);have HC:Hid (Jw m op cl r (Bz k W H p iw ih l)=if (m.right&&decide (0<=op∧op<=255))=true then (if cl=true then (if J8 r=true then Bz k W H p iw ih l else 11) else (if decide (r=Bx.o)=true then Bz k W H p iw ih l else 10)) else 11):=by show _=_;unfold Jw;simp only[decide_eq_true_eq]
 rw[XB]at HC;have HR:=Hd hr;have hn3:l.length<=9223372036854775807:=by unfold maxLen at hn;omega
 clear hp hl hn hr;generalize Jw m op cl r (Bz k W H p iw ih l)=R at*;generalize Bz k W H p iw ih l=K at*;generalize m.right=y at*;unfold MI at*;obtain⟨ma,mb,mc,md,me,mf⟩:=m;obtain⟨x0,y0,x1,y1⟩:=r;have hq:=fun w=>a2p x0 y0 x1 y1 w;generalize decide ((⟨x0,y0,x1,y1⟩:Bx)=Bx.o)=u at*
 obtain⟨rl,hrl⟩:=aC (Bx.l ⟨x0,y0,x1,y1⟩)
 rw[hrl]at HC;have qU:=Hd hrl;have hrn:rl.length=4:=by rw[←hrl];rfl
 have XV:=Hd hrn;clear hrl hrn;unfold Mp.v at HM;simp only at HM HL ⊢;have HB0:Hid (bz w (w.alloc (.cells (Vc ma mb mc md me mf op hi cl x0 y0 x1 y1 k W H p iw ih A l.length c).toArray 46))):=bR.alloc nR _;have oh:Hid (az (w.alloc (.cells (Vc ma mb mc md me mf op hi cl x0 y0 x1 y1 k W H p iw ih A l.length c).toArray 46)) w.heap.size (Vc ma mb mc md me mf op hi cl x0 y0 x1 y1 k W H p iw ih A l.length c)):=aA w (Vc ma mb mc md me mf op hi cl x0 y0 x1 y1 k W H p iw ih A l.length c) _;go_enter func84,ntmps84
 go_wp2_with (first|(with_reducible refine gL ?_;first|(refine wt 37 0 rfl rfl rfl oh.o (Vh ma mb mc md me mf) rfl underlying37 rfl ?_)));refine(HM.o _).mono ?_;rintro e w1 ⟨rfl,hb⟩;have HB:=Hd (bel2 HB0.o hb);have HK:=Hd (oh.o.below' hb);clear hb HM HB0 oh;have c6:=HK.o.c 6 rfl;have c8:=HK.o.c 8 rfl;have hlt:=HK.o.inside;cases y with
 |false=>
  go_wp2_with (fail);go_ret;exact⟨aB HC.o.symm,HB.o⟩
 |true=>
  by_cases o1:op<0
  ·have t1:decide (op<0)=true:=by simpa using o1
   have HC2:Hid (R=11):=HC.o.trans (if_neg (by rw[decide_eq_false (by omega)];decide));clear o1 HC;go_wp2_with (fail);go_ret;exact⟨aB HC2.o.symm,HB.o⟩
  ·have t1:decide (op<0)=false:=by simpa using o1
   by_cases o2:255<op
   ·have t2:decide (255<op)=true:=by simpa using o2
    have HC2:Hid (R=11):=HC.o.trans (if_neg (by rw[decide_eq_false (by omega)];decide));clear o1 o2 HC;go_wp2_with (fail);go_ret;exact⟨aB HC2.o.symm,HB.o⟩
   ·have t2:decide (255<op)=false:=by simpa using o2
    have HC2:=Hd (HC.o.trans (if_pos (by rw[decide_eq_true (by omega)];rfl)));clear o1 o2 HC;cases cl with
    |true=>
     have yC:Hid (R=if rl.all ZP=true then K else 11):=HC2.o;clear HC2;go_wp2_with (fail);clear t1 t2 c6
     go_loop [3] (fun i=>∃j:Nat,j<=4∧i=.int .i64 j∧Hid ((rl.take j).all ZP=true)) (fun i=>4 - (intOf i).toNat)
     case atStart=>exact⟨0,Nat.zero_le _,rfl,rfl⟩
     case round=>
      obtain⟨j,hj,rfl,HJ⟩:=hrel;by_cases hlt4:j<4
      ·have t:decide (j<4)=true:=by simpa using hlt4
       have hjl:j<rl.length:=by rw[XV.o];exact hlt4
       have hc:w1.cell? ⟨w.heap.size,9+j,none⟩=some (.int .i64 rl[j]):=by
        have h1:=HK.o.cell (9+j);rw[h1];have h2:=qU.o;subst h2;obtain rfl|rfl|rfl|rfl:j=0∨j=1∨j=2∨j=3:=by omega
        all_goals rfl
       have H1:=Hd (vZ (p:=ZP) HJ.o hjl);have H0:=Hd (KI (p:=ZP) hjl);generalize rl[j]=x at*;have HO:Hid (ZP x=decide (-16384<=x∧x<=16384)):=rfl;clear HJ;by_cases x1:x < -16384
       ·have t1:decide (x < -16384)=true:=by simpa using x1
        have HF:=Hd (yC.o.trans (if_neg (by rw[H0.o (HO.o.trans (decide_eq_false (by omega)))];decide)));clear x1 H0 H1 HO;go_wp2_with (fail);go_ret;exact⟨aB HF.o.symm,HB.o⟩
       ·have t1:decide (x < -16384)=false:=by simpa using x1
        by_cases x2:16384<x
        ·have t2:decide (16384<x)=true:=by simpa using x2
         have HF:=Hd (yC.o.trans (if_neg (by rw[H0.o (HO.o.trans (decide_eq_false (by omega)))];decide)));clear x1 x2 H0 H1 HO;go_wp2_with (fail);go_ret;exact⟨aB HF.o.symm,HB.o⟩
        ·have t2:decide (16384<x)=false:=by simpa using x2
         have HJ2:=Hd (H1.o (HO.o.trans (decide_eq_true (by omega))));clear x1 x2 H0 H1 HO;go_wp2_with (fail)
         go_round
         case rel=>exact⟨j+1,by omega,by go_num,HJ2⟩
         case measure=>simp[intOf];omega
      ·obtain rfl:j=4:=by omega
       have HC2:Hid (R=K):=yC.o.trans (if_pos (by have:=HJ.o;rwa [List.take_of_length_le (by rw[XV.o];exact nR)]at this));clear hlt4 HJ yC
       go_wp2_with (first|(with_reducible refine gL ?_;first|(refine lF 46 _ rfl rfl _ 0 rfl _ HK.o [.int .i64 ma,.int .i64 mb,.int .i64 mc,.int .i64 md,.int .i64 me,.int .i64 mf,.int .i64 op,.bool hi,.bool true,.int .i64 x0,.int .i64 y0,.int .i64 x1,.int .i64 y1,.int .i64 k,.int .i64 W,.int .i64 H,.int .u32 (p:Nat),.int .i64 iw,.int .i64 ih,.slice A l.length c] rfl _ underlying46 rfl ag ?_)|(refine wt 40 9 rfl rfl rfl HK.o (Vl x0 y0 x1 y1) rfl underlying40 rfl ?_)));refine(HL.o _ (HR.o.below HB.o)).mono ?_;rintro e w9 ⟨rfl,hb⟩
       have uT:=Hd (bel2 HB.o hb);clear hb HL;go_wp2_with (fail);go_ret;exact⟨aB HC2.o.symm,uT.o⟩
    |false=>
     go_wp2_with (fail);clear t1 t2 c6
     go_loop [3] (fun i=>∃j:Nat,j<=4∧i=.int .i64 j) (fun i=>4 - (intOf i).toNat)
     case atStart=>exact⟨0,Nat.zero_le _,rfl⟩
     case round=>
      obtain⟨j,hj,rfl⟩:=hrel;by_cases hlt4:j<4
      ·have t:decide (j<4)=true:=by simpa using hlt4
       go_wp2_with (fail)
       go_round
       case rel=>exact⟨j+1,by omega,by go_num⟩
       case measure=>simp[intOf];omega
      ·obtain rfl:j=4:=by omega
       clear hlt4;have e9:w1.cell? ⟨w.heap.size,9,none⟩=some (.int .i64 x0):=HK.o.cell 9;have e10:w1.cell? ⟨w.heap.size,10,none⟩=some (.int .i64 y0):=HK.o.cell 10;have e11:w1.cell? ⟨w.heap.size,11,none⟩=some (.int .i64 x1):=HK.o.cell 11;have e12:w1.cell? ⟨w.heap.size,12,none⟩=some (.int .i64 y1):=HK.o.cell 12;cases u with
       |false=>
        go_wp2_with (first|(with_reducible refine gL ?_;first|(refine wt 40 9 rfl rfl rfl HK.o (Vl x0 y0 x1 y1) rfl underlying40 rfl ?_)));go_ret;exact⟨aB HC2.o.symm,HB.o⟩
       |true=>
        go_wp2_with (first|(with_reducible refine gL ?_;first|(refine lF 46 _ rfl rfl _ 0 rfl _ HK.o [.int .i64 ma,.int .i64 mb,.int .i64 mc,.int .i64 md,.int .i64 me,.int .i64 mf,.int .i64 op,.bool hi,.bool false,.int .i64 x0,.int .i64 y0,.int .i64 x1,.int .i64 y1,.int .i64 k,.int .i64 W,.int .i64 H,.int .u32 (p:Nat),.int .i64 iw,.int .i64 ih,.slice A l.length c] rfl _ underlying46 rfl ag ?_)|(refine wt 40 9 rfl rfl rfl HK.o (Vl x0 y0 x1 y1) rfl underlying40 rfl ?_)));refine(HL.o _ (HR.o.below HB.o)).mono ?_;rintro e w9 ⟨rfl,hb⟩
        have uT:=Hd (bel2 HB.o hb);clear hb HL;go_wp2_with (fail);go_ret;exact⟨aB HC2.o.symm,uT.o⟩
end
end Go.Proofs.YthmegninhpihkaaGreat
