import Derived.Test.YthmegninhpihkaaGreatWScB
import Derived.Test.YthmegninhpihkaaGreatWScC
import Derived.Deep.RegionHeld3
import Derived.Laws.Cover3
import Derived.ChangeKeysEq
import Derived.Deep.Grids
import Derived.Deep.DeepCutAuto
import Derived.Deep.CutBlock
set_option maxHeartbeats 16000000
set_option maxRecDepth 100000
open Go.Proofs.Tryz
namespace Go.Proofs.YthmegninhpihkaaGreat
section
open Go.RowKit
end
section
open Go.RowKit fF fO
theorem CZ{a b:List Nat}{k:Nat}(h:a.take k=b.take k)(ha:k<a.length)(hb:k<b.length)(e:a[k]=b[k]):a.take (k+1)=b.take (k+1):=by
 rw[List.take_succ_eq_append_getElem ha,List.take_succ_eq_append_getElem hb,h,e]
theorem QF{a b:List Nat}{k:Nat}(ha:k<a.length)(hb:k<b.length)(e:¬a[k]=b[k]):decide (a=b)=false:=
 decide_eq_false fun h=>e (by subst h;rfl)
theorem Zi(A1 A2:Option Addr)(l1 l2:List Nat)(c1 c2:Nat)(w:World)(h1:Row eW w A1 l1)(h2:Row eW w A2 l2)(m1:l1.length<=maxLen)(m2:l2.length<=maxLen) :
  Calls prog 161 #[.slice A1 l1.length c1,.slice A2 l2.length c2] w (aX (.bool (decide (l1=l2))) w):=by
 have HR:=Hd (And.intro h1 h2);have m1:l1.length<=9223372036854775807:=by unfold maxLen at m1;omega
 have m2:l2.length<=9223372036854775807:=by unfold maxLen at m2;omega
 clear h1 h2;by_cases hn:l1.length=l2.length
 ·have q:((l1.length:Int) != (l2.length:Int))=false:=by simp;omega
  have HN:=Hd hn;clear hn;go_enter func161,ntmps161;go_wp2_with (fail);clear q
  go_loopw [13] (fun i wr=>∃k:Nat,k<=l1.length∧i=.int .i64 k∧Hid (l1.take k=l2.take k)∧Hid (dK w wr)) (fun i _=>l1.length - (intOf i).toNat)
  case atStart=>exact⟨0,Nat.zero_le _,rfl,rfl,dK.refl _⟩
  case round=>
   obtain⟨k,hk,rfl,HK,HD⟩:=hrel;by_cases hlt:k<l1.length
   ·have t:decide (k<l1.length)=true:=by simpa using hlt
    have hlt2:k<l2.length:=by rw[←HN.o];exact hlt
    obtain⟨b1,o1,rfl,k1⟩:=(HR.o.1.below (HD.o.below _)).at_ hlt;obtain⟨b2,o2,rfl,k2⟩:=(HR.o.2.below (HD.o.below _)).at_ hlt2;have HS:=Hd (fun e=>CZ HK.o hlt hlt2 e);have HO:=Hd (fun e=>QF hlt hlt2 e);generalize l1[k]=x at*;generalize l2[k]=y at*;unfold eW at k1 k2;by_cases e:x=y
    ·have HS2:=Hd (HS.o e);have q:((x:Int) != (y:Int))=false:=by simp;omega
     clear HS HO e HN;go_wp2_with (fail)
     go_quiet (fail)
     go_wp2_with (fail)
     go_roundw
     case rel=>exact⟨k+1,by omega,by go_num,HS2,HD.o.trans ⟨_,rfl⟩⟩
     case measure=>simp[intOf];omega
    ·have NP:=Hd (HO.o e);have q:((x:Int) != (y:Int))=true:=by simp;omega
     clear HS HO e HN;go_wp2_with (fail)
     go_quiet (fail)
     go_wp2_with (fail);go_ret;exact⟨aO NP.o.symm,(HD.o.trans ⟨_,rfl⟩).below _⟩
   ·obtain rfl:k=l1.length:=by omega
    have HF:Hid (decide (l1=l2)=true):=decide_eq_true (by have:=HK.o;rw[List.take_length,HN.o,List.take_length]at this;exact this);have t:decide (l1.length<l1.length)=false:=by simp
    go_wp2_with (fail);go_ret;exact⟨aO HF.o.symm,HD.o.below _⟩
 ·have q:((l1.length:Int) != (l2.length:Int))=true:=by simp;omega
  have HF:Hid (decide (l1=l2)=false):=decide_eq_false fun e=>hn (by rw[e]);clear hn;go_enter func161,ntmps161;go_wp2_with (fail);go_ret;exact⟨aO HF.o.symm,bR⟩
def Zj(W1 H1:Int)(l1:List Nat)(W2 H2:Int)(l2:List Nat):Bool:=decide (W1=W2)&&(decide (H1=H2)&&decide (l1=l2))
theorem Ro(W1 H1:Int)(A1:Option Addr)(l1:List Nat)(c1:Nat)(W2 H2:Int)(A2:Option Addr)(l2:List Nat)(c2:Nat)(w:World)(h1:Row eW w A1 l1)(h2:Row eW w A2 l2)(m1:l1.length<=maxLen)(m2:l2.length<=maxLen) :
  Calls prog 157 #[GR W1 H1 A1 l1.length c1,GR W2 H2 A2 l2.length c2] w (aX (.bool (Zj W1 H1 l1 W2 H2 l2)) w):=by
 have HR:=Hd (And.intro h1 h2);have HE:=Hd (fun w h1 h2=>Zi A1 A2 l1 l2 c1 c2 w h1 h2 m1 m2);have HQ:Hid (Zj W1 H1 l1 W2 H2 l2=(decide (W1=W2)&&(decide (H1=H2)&&decide (l1=l2)))):=rfl;clear h1 h2 m1 m2;generalize Zj W1 H1 l1 W2 H2 l2=R at*;generalize decide (l1=l2)=y at*;unfold GR;by_cases t1:W1=W2
 ·have q1:(W1==W2)=true:=by simpa using t1
  rw[decide_eq_true t1,Bool.true_and]at HQ;clear t1;by_cases t2:H1=H2
  ·have q2:(H1==H2)=true:=by simpa using t2
   rw[decide_eq_true t2,Bool.true_and]at HQ;clear t2;go_enter func157,ntmps157;go_wp2_with (fail);have HB:Hid (bz w ((w.alloc (.cells (Vo W1 H1 A1 l1.length c1).toArray 73)).alloc (.cells (Vo W2 H2 A2 l2.length c2).toArray 73))):=(bR.alloc nR _).alloc (by simp) _;refine(HE.o _ (HR.o.1.below HB.o) (HR.o.2.below HB.o)).mono ?_;rintro e w2 ⟨rfl,hb⟩;have HB2:=Hd (HB.o.trans (hb.mono HB.o.size));clear hb HE;go_wp2_with (fail);go_ret;exact⟨aO HQ.o.symm,HB2.o⟩
  ·have q2:(H1==H2)=false:=by simpa using t2
   rw[decide_eq_false t2,Bool.false_and]at HQ;clear t2 HE;go_enter func157,ntmps157;go_wp2_with (fail);go_ret;exact⟨aO HQ.o.symm,(bR.alloc nR _).alloc (by simp) _⟩
 ·have q1:(W1==W2)=false:=by simpa using t1
  rw[decide_eq_false t1,Bool.false_and]at HQ;clear t1 HE;go_enter func157,ntmps157;go_wp2_with (fail);go_ret;exact⟨aO HQ.o.symm,(bR.alloc nR _).alloc (by simp) _⟩
theorem Y7:(prog.info? 70).map (fun i=>(i.zero,i.size,i.bytes))=some (some (.int .u32 0),1,4):=by kernel_rfl
theorem DZ(A:Option Addr)(n c:Nat)(w:World):(binOp .eql 71 (.slice A n c) (.slice none 0 0)).run prog w=.ok (.bool A.isNone) w:=by
 have h:=run_equal_slice_nil (P:=prog) w 71 _ A n c underlying71;unfold binOp;simp[h,go_sem]
def eWs(z:Nat):List Value:=[eW z]
theorem rG(z:Nat):(eWs z).length=1:=rfl
theorem Wj(l:List Nat):l.flatMap eWs=l.map eW:=by
 induction l with
 |nil=>rfl
 |cons x l ih=>rw[List.flatMap_cons,ih,List.map_cons];rfl
theorem aU.a3a{w:World}{A:Option Addr}{l:List Nat}(h:aU 1 eWs w A l):Row eW w A l:=fun hn=>by
 obtain⟨b,off,e,hc⟩:=h hn;refine⟨b,off,e,fun j hj=>?_⟩;have:=hc j hj 0 (eW l[j]) rfl
 rwa [Nat.mul_one,Nat.add_zero]at this
theorem Row.BG{w w':World}{A:Option Addr}{l:List Nat}(h:Row eW w A l)(hb:∀b o,A=some ⟨b,o,none⟩->w'.heap[b]?=w.heap[b]?):Row eW w' A l:=fun hn=>by
 obtain⟨b,off,e,hc⟩:=h hn;refine⟨b,off,e,fun j hj=>?_⟩;rw[←hc j hj];simp only[World.cell?,hb b off e]
def Pxs(w:World)(base:Nat)(A:Option Addr)(l:List Nat)(c:Nat):Prop:=Row eW w A l∧(∀b o,A=some ⟨b,o,none⟩->base<=b∧∀j,w.frozen? ⟨b,j,none⟩=false)∧(A=none->c=0)∧l.length<=c∧c<=maxLen
def GK(l:List Nat)(w:World)(e:Ending)(w':World):Prop:=∃A9 cap,e=.returned (.slice A9 l.length cap)∧Pxs w' w.heap.size A9 l cap∧bz w w'
theorem clone_any(A:Option Addr)(l:List Nat)(c:Nat)(w:World)(hr:Row eW w A l)(hn2:l.length<=20000000):Calls prog 115 #[.slice A l.length c] w (GK l w):=by
 unfold GK;cases A with
 |none=>
  obtain rfl:l=[]:=by
   by_cases h:0<l.length
   ·obtain⟨b,o,e,_⟩:=hr h;cases e
   ·exact List.eq_nil_of_length_eq_zero (by omega)
  clear hr hn2;have hq:∀w,(binOp .eql 71 (.slice none 0 c) (.slice none 0 0)).run prog w=.ok (.bool true) w:=fun w=>DZ none 0 c w;simp only[List.length_nil];go_enter func115,ntmps115;go_wp2_with (fail);go_ret;exact⟨none,0,rfl,⟨Row.none_ rfl,(fun _ _ h=>nomatch h),(fun _=>rfl),nR,by unfold maxLen;omega⟩,bR⟩
 |some a=>
  have hl:ak 70 1 eWs (w.alloc (.cells #[] 70)) w.heap.size (.slice (some ⟨w.heap.size,0,none⟩) 0 0) []:=ak.lit rG w [] nR (by simp);obtain⟨i,hi,hz,hsize,hby⟩:=info_parts Y7
  obtain⟨v',w',hrun,ho,hg,hnil,-⟩:=run_append_own_at (P:=prog) (w.alloc (.cells #[] 70)) w.heap.size 71 71 70 i (.int .u32 0) 1 4 underlying71 hi hz hsize hby rfl (by decide) _ 0 [] hl a l.length c (l.map eW) (by simp) (by
    intro j u hj;obtain⟨h1,h2⟩:=List.getElem?_eq_some_iff.1 hj;rw[List.length_map]at h1
    obtain⟨b,off,e,hc⟩:=(hr.alloc (.cells #[] 70)) (by omega)
    obtain rfl:=Option.some.inj e;have e2:(⟨b,off,none⟩:Addr).add j=⟨b,off+j,none⟩:=by unfold Addr.add;split<;>simp_all
    rw[e2,hc j h1,←h2,List.getElem_map]) (by
    intro u hu;obtain⟨z,_,rfl⟩:=List.mem_map.1 hu
    rfl) (by unfold maxLen;omega) (by omega) (by simp)
  have HO:Hid (ak 70 1 eWs w' w.heap.size v' l):=by
   rw[Nat.zero_add,List.nil_append,←Wj]at ho;exact ho
  have HB:Hid (bz w w'):=by
   have h1:bz w (w.alloc (.cells #[] 70)):=bR.alloc nR _;exact h1.grown hg (by simp) (fun j hj=>by cases hj;exact nR)
  have hn3:l.length<=9223372036854775807:=by omega
  have HNI:=Hd hnil;clear hr hl ho hg hn2 hnil hi hz hsize hby;have hq:∀w,(binOp .eql 71 (.slice (some a) l.length c) (.slice none 0 0)).run prog w=.ok (.bool false) w:=fun w=>DZ _ _ _ w;go_enter func115,ntmps115;go_wp2_with (at_builtin;refine bg rfl _ _ 71 71 71 rfl rfl _ _ _ _ rfl rfl hrun ?_;clear hrun);go_ret;obtain⟨A9,c9,rfl,h1,h2,h3⟩:=HO.o.row rG;refine⟨A9,c9,rfl,⟨h3.a3a,(fun b o e=>?_),(fun e=>?_),h1,h2⟩,HB.o⟩
  ·subst e;refine⟨(HO.o.block rfl).1,fun j=>?_⟩;rcases HO.o.2 with ⟨h,_⟩|⟨g,cap,cur,h,hg,hgg,_⟩
   ·injection h with h _ _;cases h
   ·injection h with h _ _
    cases h;exact frozen_of_row _ _ _ _ _ hgg
  ·subst e;rcases HO.o.2 with ⟨h,_⟩|⟨g,cap,cur,h,_⟩
   ·injection h
   ·injection h with h _ _;cases h
def Yp(W H:Int)(l:List Nat)(w:World)(e:Ending)(w':World):Prop:=∃A9 cap,e=.returned (GR W H A9 l.length cap)∧Pxs w' w.heap.size A9 l cap∧bz w w'
theorem WQ(W H:Int)(A:Option Addr)(l:List Nat)(c:Nat)(w:World)(hr:Row eW w A l)(hn2:l.length<=20000000):Calls prog 94 #[GR W H A l.length c] w (Yp W H l w):=by
 have HR:=Hd hr;have HC:=Hd (fun w hr=>clone_any A l c w hr hn2);unfold GK at HC;unfold Yp;have hn3:l.length<=9223372036854775807:=by omega
 clear hr hn2;unfold GR;go_enter func94,ntmps94;go_wp2_with (fail)
 obtain⟨w1,hw1⟩:=aB (((w.alloc (.cells (Vo W H A l.length c).toArray 73)).alloc (.cells Vv.toArray 73)))
 have HB1:Hid (bz w w1):=by rw[←hw1];exact(bR.alloc nR _).alloc (by simp) _
 have KM:Hid (aA w1 w.heap.size (Vo W H A l.length c)):=by rw[←hw1];exact(az w (Vo W H A l.length c) _).alloc _
 have KR:Hid (aA w1 (w.heap.size+1) Vv):=by rw[←hw1];exact aW (w.alloc _) _ (by simp) Vv _
 rw[hw1];clear hw1;obtain⟨⟨c0,c1,c2⟩,-,ci⟩:=KM.o.c3;have a0t:Hid (bz w w1.drew):=HB1.o.drew;have KMd:Hid (aA w1.drew w.heap.size (Vo W H A l.length c)):=KM.o;have KRd:Hid (aA w1.drew (w.heap.size+1) Vv):=KR.o
 go_region_held3 (fun w'=>w'.cell? ⟨w.heap.size,0,none⟩=some (.int .i64 W)∧w'.cell? ⟨w.heap.size,1,none⟩=some (.int .i64 H)∧w'.cell? ⟨w.heap.size,2,none⟩=some (.slice A l.length c))
  (first|exact⟨KMd.o.c3.1.1,KMd.o.c3.1.2.1,KMd.o.c3.1.2.2⟩|exact⟨x0,x1,x2⟩|go_keep)
  ((first|(go_at_call 115;refine(HC.o _ (HR.o.below a0t.o)).mono ?_;rintro e w2 ⟨A9,RP,rfl,hx9,aY⟩;have k2:aA w2 w.heap.size (Vo W H A l.length c):=KMd.o.below' aY;have k3:aA w2 (w.heap.size+1) Vv:=KRd.o.below' aY;have x0:w2.cell? ⟨w.heap.size,0,none⟩=some (.int .i64 W):=k2.c3.1.1;have x1:w2.cell? ⟨w.heap.size,1,none⟩=some (.int .i64 H):=k2.c3.1.2.1;have x2:w2.cell? ⟨w.heap.size,2,none⟩=some (.slice A l.length c):=k2.c3.1.2.2;have y0:w2.cell? ⟨w.heap.size+1,0,none⟩=some (.int .i64 0):=k3.c3.1.1;have y1:w2.cell? ⟨w.heap.size+1,1,none⟩=some (.int .i64 0):=k3.c3.1.2.1;have y2:w2.cell? ⟨w.heap.size+1,2,none⟩=some (.slice none 0 0):=k3.c3.1.2.2;have z0:w2.frozen? ⟨w.heap.size+1,0,none⟩=false:=k3.c3.2.1.1;have z1:w2.frozen? ⟨w.heap.size+1,1,none⟩=false:=k3.c3.2.1.2.1;have z2:w2.frozen? ⟨w.heap.size+1,2,none⟩=false:=k3.c3.2.1.2.2;have hlt2:w.heap.size+1<w2.heap.size:=k3.c3.2.2)))
 have hz1:w1.drew.heap.size=w1.heap.size:=rfl
 have HX:Hid (Pxs (((w2.setCell ⟨w.heap.size+1,0,none⟩ (.int .i64 W)).setCell ⟨w.heap.size+1,1,none⟩ (.int .i64 H)).setCell ⟨w.heap.size+1,2,none⟩ (.slice A9 l.length RP)) w.heap.size A9 l RP):=by
  refine⟨hx9.1.BG fun b o e=>?_,fun b o e=>⟨Nat.le_trans a0t.o.size (hx9.2.1 b o e).1,fun j=>?_⟩,hx9.2.2⟩
  ·have hne:b≠w.heap.size+1:=by have:=hx9.2.1 b o e;have:=KR.o.inside;have:w1.drew.heap.size=w1.heap.size:=rfl;omega
   rw[Below.heap_setCell _ _ _ _ hne,Below.heap_setCell _ _ _ _ hne,Below.heap_setCell _ _ _ _ hne]
  ·refine(World.frozen?_of_block ?_).trans ((hx9.2.1 b o e).2 j);have hne:b≠w.heap.size+1:=by have:=hx9.2.1 b o e;have:=KR.o.inside;have:w1.drew.heap.size=w1.heap.size:=rfl;omega
   rw[Below.heap_setCell _ _ _ _ hne,Below.heap_setCell _ _ _ _ hne,Below.heap_setCell _ _ _ _ hne]
 have HB2:Hid (bz w (((w2.setCell ⟨w.heap.size+1,0,none⟩ (.int .i64 W)).setCell ⟨w.heap.size+1,1,none⟩ (.int .i64 H)).setCell ⟨w.heap.size+1,2,none⟩ (.slice A9 l.length RP))):=
  dB (dB (dB (a0t.o.trans (aY.mono a0t.o.size)) (by omega)) (by omega)) (by omega)
 have HK:=Hd (((k3.set 0 (.int .i64 W)).set 1 (.int .i64 H)).set 2 (.slice A9 l.length RP));clear hx9 aY k2 k3 x0 x1 x2 y0 y1 y2 z0 z1 z2 hlt2 c0 c1 c2 ci;generalize (((w2.setCell ⟨w.heap.size+1,0,none⟩ (.int .i64 W)).setCell ⟨w.heap.size+1,1,none⟩ (.int .i64 H)).setCell ⟨w.heap.size+1,2,none⟩ (.slice A9 l.length RP))=w5 at*;go_wp2_with (fail);exact bP rfl rfl HK.o underlying73 rfl ag ⟨A9,RP,rfl,HX.o,HB2.o⟩
end
section
open Go.RowKit fF fO
def Ku(k W H:Int)(p:Nat)(iw ih:Int)(A:Option Addr)(n c:Nat):Value:=.agg (Vk k W H p iw ih A n c).toArray
theorem a1T(w:World)(k W H:Int)(p:Nat)(iw ih:Int)(A:Option Addr)(n c:Nat)(T:TypeId):aA (w.alloc (.cells (Vk k W H p iw ih A n c).toArray T)) w.heap.size (Vk k W H p iw ih A n c):=
 az w (Vk k W H p iw ih A n c) T
theorem aA.c7{w:World}{g:Nat}{a b c d e f h:Value}(hB:aA w g [a,b,c,d,e,f,h]):(w.cell? ⟨g,0,none⟩=some a∧w.cell? ⟨g,1,none⟩=some b∧w.cell? ⟨g,2,none⟩=some c∧w.cell? ⟨g,3,none⟩=some d∧w.cell? ⟨g,4,none⟩=some e∧w.cell? ⟨g,5,none⟩=some f∧w.cell? ⟨g,6,none⟩=some h) ∧
  (w.frozen? ⟨g,0,none⟩=false∧w.frozen? ⟨g,1,none⟩=false∧w.frozen? ⟨g,2,none⟩=false∧w.frozen? ⟨g,3,none⟩=false∧w.frozen? ⟨g,4,none⟩=false∧w.frozen? ⟨g,5,none⟩=false∧w.frozen? ⟨g,6,none⟩=false)∧g<w.heap.size:=
 ⟨⟨hB.cell 0,hB.cell 1,hB.cell 2,hB.cell 3,hB.cell 4,hB.cell 5,hB.cell 6⟩,⟨hB.free 0,hB.free 1,hB.free 2,hB.free 3,hB.free 4,hB.free 5,hB.free 6⟩,hB.inside⟩
def Wh(b:Bool):Int:=if b=true then 0 else 10
theorem MG(b:Bool)(w:World):Calls prog 148 #[.bool b] w (aX (.int .i64 (Wh b)) w):=by
 cases b
 all_goals
  go_enter func148,ntmps148;go_wp2_with (fail);go_ret;exact⟨rfl,bR⟩
def xe(W H:Int)(p:Nat):Bool:=decide (¬(W=0∧H=0∧p=0))
theorem IY(k W H:Int)(p:Nat)(iw ih:Int)(A:Option Addr)(n c:Nat)(w:World):Calls prog 149 #[Ku k W H p iw ih A n c] w (aX (.bool (xe W H p)) w):=by
 obtain⟨R,hR⟩:=aB (xe W H p)
 rw[hR];have HR:=Hd hR;clear hR;unfold Ku;by_cases t1:W=0
 ·have q1:(W != 0)=false:=by simp;omega
  by_cases t2:H=0
  ·have q2:(H != 0)=false:=by simp;omega
   have HF:Hid (R=((p:Int) != 0)):=by
    show R=_;rw[←HR.o,Bool.eq_iff_iff];unfold xe;simp[t1,t2]
    try omega
   generalize hq:((p:Int) != 0)=y at HF;obtain rfl:=HF.o;clear t1 t2 HR HF;go_enter func149,ntmps149;go_wp2_with (fail);go_ret;exact⟨rfl,bR.alloc nR _⟩
  ·have q2:(H != 0)=true:=by simp;omega
   obtain rfl:R=true:=by rw[←HR.o];exact decide_eq_true (fun h=>t2 h.2.1)
   clear t1 t2 HR;go_enter func149,ntmps149;go_wp2_with (fail);go_ret;exact⟨rfl,bR.alloc nR _⟩
 ·have q1:(W != 0)=true:=by simp;omega
  obtain rfl:R=true:=by rw[←HR.o];exact decide_eq_true (fun h=>t1 h.1)
  clear t1 HR;go_enter func149,ntmps149;go_wp2_with (fail);go_ret;exact⟨rfl,bR.alloc nR _⟩
def uX(iw ih:Int)(l:List Nat):Bool:=!Zj iw ih l 0 0 []
theorem FH(k W H:Int)(p:Nat)(iw ih:Int)(A:Option Addr)(l:List Nat)(c:Nat)(hn:l.length<=maxLen)(w:World)(hr:Row eW w A l):Calls prog 150 #[Ku k W H p iw ih A l.length c] w (aX (.bool (uX iw ih l)) w):=by
 have HE:=Hd (fun w h1=>Ro iw ih A l c 0 0 none [] 0 w h1 (Row.none_ rfl) hn (by simp));have HR:=Hd hr;have HI:Hid (uX iw ih l=!Zj iw ih l 0 0 []):=rfl;clear hr hn;generalize Zj iw ih l 0 0 []=y at*;generalize uX iw ih l=R at*;unfold GR at HE;simp only[List.length_nil]at HE;unfold Ku;go_enter func150,ntmps150;go_wp2_with (fail);have HB:Hid (bz w (w.alloc (.cells (Vk k W H p iw ih A l.length c).toArray 75))):=bR.alloc nR _;refine(HE.o _ (HR.o.below HB.o)).mono ?_;rintro e w1 ⟨rfl,hb⟩
 have HB2:=Hd (HB.o.trans (hb.mono HB.o.size));clear hb HE HB;go_wp2_with (fail);go_ret;exact⟨aO HI.o.symm,HB2.o⟩
end
section
open Go.RowKit fF fO
def y8(k W H:Int)(p:Nat)(iw ih:Int)(l:List Nat):Int:=
 if k=0 then Wh (!xe W H p && !uX iw ih l) else if k=1 then (if dS W H=true then Wh (rb p && !uX iw ih l) else 11) else if k=2 then Wh (nY iw ih l && !xe W H p) else 11
theorem bel2{w w1 w2:World}(h:bz w w1)(hb:bz w1 w2):bz w w2:=h.trans (hb.mono h.size)
theorem IE(k W H:Int)(p:Nat)(iw ih:Int)(A:Option Addr)(l:List Nat)(c:Nat)(hp:p<4294967296)(hl:∀z∈l,z<4294967296)(hn:l.length<=maxLen)(w:World)(hr:Row eW w A l) :
  Calls prog 141 #[Ku k W H p iw ih A l.length c] w (aX (.int .i64 (y8 k W H p iw ih l)) w):=by
 have HF:=Hd (fun w=>IY k W H p iw ih A l.length c w);have HI:=Hd (fun w hr=>FH k W H p iw ih A l c hn w hr);have HS:=Hd (fun w hr=>Qi iw ih A l c hl hn w hr);have HG:=Hd (fun w=>Ov p hp w);have HM:=Hd (fun b w=>MG b w);have HC:Hid (y8 k W H p iw ih l=if k=0 then Wh (!xe W H p && !uX iw ih l) else if k=1 then (if dS W H=true then Wh (rb p && !uX iw ih l) else 11) else if k=2 then Wh (nY iw ih l && !xe W H p) else 11):=rfl;have kY:Hid (dS W H=decide (1<=W∧1<=H∧W<=4096∧H<=4096)):=rfl;have HR:=Hd hr;clear hp hl hn hr
 generalize y8 k W H p iw ih l=R at*;generalize xe W H p=bf at*;generalize uX iw ih l=bi at*;generalize nY iw ih l=bs at*;generalize rb p=br at*;unfold Ku GR at*;by_cases k0:k=0
 ·subst k0;have HC2:=Hd (HC.o.trans (if_pos rfl));clear HC kY HS HG;go_enter func141,ntmps141;go_wp2_with (fail);refine(HF.o _).mono ?_;rintro e w1 ⟨rfl,hb⟩;have HB:=Hd (Sv hb);have hK:Hid (aA w1 w.heap.size [.int .i64 0,.int .i64 W,.int .i64 H,.int .u32 (p:Nat),.int .i64 iw,.int .i64 ih,.slice A l.length c]):=(a1T w 0 W H p iw ih A l.length c _).below hb (by simp);clear hb HF;obtain⟨⟨c0,c1,c2,c3,c4,c5,c6⟩,-,ci⟩:=hK.o.c7;cases bf with
  |true=>
   go_wp2_with (fail);refine(HM.o false _).mono ?_;rintro e w2 ⟨rfl,hb⟩;have HB2:=Hd (bel2 HB.o hb);clear hb HM HI;go_wp2_with (fail);go_ret;exact⟨aC HC2.o.symm,HB2.o⟩
  |false=>
   go_wp2_with (fail);refine(HI.o _ (HR.o.below HB.o)).mono ?_;rintro e w2 ⟨rfl,hb⟩;have HB2:=Hd (bel2 HB.o hb);clear hb HI HB hK c0 c1 c2 c3 c4 c5 c6 ci;go_wp2_with (fail);refine(HM.o (!bi) _).mono ?_;rintro e w3 ⟨rfl,hb⟩;have HB3:=Hd (bel2 HB2.o hb);clear hb HM HB2;go_wp2_with (fail);go_ret;exact⟨aC HC2.o.symm,HB3.o⟩
 ·have q0:(k==0)=false:=by simp;omega
  replace HC:=Hd (HC.o.trans (if_neg k0))
  clear k0;by_cases k1:k=1
  ·subst k1;clear q0;have HC2:=Hd (HC.o.trans (if_pos rfl));clear HC HS;obtain⟨M,hmax,hM⟩:=mx2 W H;obtain⟨m,hmin,hm⟩:=mn2 W H;specialize hM 4096;specialize hm 1;by_cases t1:m<1
   ·have t:decide (m<1)=true:=by simpa using t1
    have kZ:Hid (dS W H=false):=kY.o.trans (decide_eq_false (by omega));clear hM hm t1 kY;rw[kZ.o]at HC2;clear kZ;go_enter func141,ntmps141;go_wp2_with (fail);go_ret;exact⟨aC HC2.o.symm,bR.alloc nR _⟩
   ·have t:decide (m<1)=false:=by simpa using t1
    by_cases t2:4096<M
    ·have t3:decide (4096<M)=true:=by simpa using t2
     have kZ:Hid (dS W H=false):=kY.o.trans (decide_eq_false (by omega));clear hM hm t1 t2 kY;rw[kZ.o]at HC2;clear kZ;go_enter func141,ntmps141;go_wp2_with (fail);go_ret;exact⟨aC HC2.o.symm,bR.alloc nR _⟩
    ·have t3:decide (4096<M)=false:=by simpa using t2
     have kZ:Hid (dS W H=true):=kY.o.trans (decide_eq_true (by omega));clear hM hm t1 t2 kY;rw[kZ.o]at HC2;clear kZ;go_enter func141,ntmps141;go_wp2_with (fail);have hb0:bz w (w.alloc (.cells (Vk 1 W H p iw ih A l.length c).toArray 75)):=bR.alloc nR _;refine(HG.o _).mono ?_;rintro e w1 ⟨rfl,hd⟩;have HB:Hid (bz w w1):=hb0.trans (hd.below _);have hK:Hid (aA w1 w.heap.size (Vk 1 W H p iw ih A l.length c)):=hd.blk (a1T w 1 W H p iw ih A l.length c _);clear hd HG hb0 hmax hmin t t3
     obtain⟨⟨c0,c1,c2,c3,c4,c5,c6⟩,-,ci⟩:=hK.o.c7;cases br with
     |false=>
      go_wp2_with (fail);refine(HM.o false _).mono ?_;rintro e w2 ⟨rfl,hb⟩;have HB2:=Hd (bel2 HB.o hb);clear hb HM HI;go_wp2_with (fail);go_ret;exact⟨aC HC2.o.symm,HB2.o⟩
     |true=>
      go_wp2_with (fail);refine(HI.o _ (HR.o.below HB.o)).mono ?_;rintro e w2 ⟨rfl,hb⟩;have HB2:=Hd (bel2 HB.o hb);clear hb HI HB hK c0 c1 c2 c3 c4 c5 c6 ci;go_wp2_with (fail);refine(HM.o (!bi) _).mono ?_;rintro e w3 ⟨rfl,hb⟩;have HB3:=Hd (bel2 HB2.o hb);clear hb HM HB2;go_wp2_with (fail);go_ret;exact⟨aC HC2.o.symm,HB3.o⟩
  ·have q1:(k==1)=false:=by simp;omega
   replace HC:=Hd (HC.o.trans (if_neg k1))
   clear k1 kY HG;by_cases k2:k=2
   ·subst k2;clear q0 q1;have HC2:=Hd (HC.o.trans (if_pos rfl));clear HC;go_enter func141,ntmps141;go_wp2_with (fail);refine(HS.o _ (HR.o.alloc _)).mono ?_;rintro e w1 ⟨rfl,hb⟩;have HB:=Hd (Sv hb);have hK:Hid (aA w1 w.heap.size (Vk 2 W H p iw ih A l.length c)):=(a1T w 2 W H p iw ih A l.length c _).below hb (by simp);clear hb HS;obtain⟨⟨c0,c1,c2,c3,c4,c5,c6⟩,-,ci⟩:=hK.o.c7;cases bs with
    |false=>
     go_wp2_with (fail);refine(HM.o false _).mono ?_;rintro e w2 ⟨rfl,hb⟩;have HB2:=Hd (bel2 HB.o hb);clear hb HM HF;go_wp2_with (fail);go_ret;exact⟨aC HC2.o.symm,HB2.o⟩
    |true=>
     go_wp2_with (fail);refine(HF.o _).mono ?_;rintro e w2 ⟨rfl,hb⟩;have HB2:=Hd (bel2 HB.o hb);clear hb HF HB hK c0 c1 c2 c3 c4 c5 c6 ci;go_wp2_with (fail);refine(HM.o (!bf) _).mono ?_;rintro e w3 ⟨rfl,hb⟩;have HB3:=Hd (bel2 HB2.o hb);clear hb HM HB2;go_wp2_with (fail);go_ret;exact⟨aC HC2.o.symm,HB3.o⟩
   ·have q2:(k==2)=false:=by simp;omega
    replace HC:=Hd (HC.o.trans (if_neg k2))
    clear k2 HF HI HS HM HR;go_enter func141,ntmps141;go_wp2_with (fail);go_ret;exact⟨aC HC.o.symm,bR.alloc nR _⟩
end
section
open Go.RowKit fF fO
def ER(k W iw:Int):Int:=if k=1 then W else if k=2 then iw else 0
theorem size_any(k W H:Int)(p:Nat)(iw ih:Int)(A:Option Addr)(n c:Nat)(w:World):Calls prog 21 #[Ku k W H p iw ih A n c] w (aX (.tuple #[.int .i64 (ER k W iw),.int .i64 (ER k H ih)]) w):=by
 have H1:Hid (ER k W iw=if k=1 then W else if k=2 then iw else 0):=rfl;have H2:Hid (ER k H ih=if k=1 then H else if k=2 then ih else 0):=rfl;generalize ER k W iw=X at*;generalize ER k H ih=Y at*;unfold Ku;by_cases k1:k=1
 ·subst k1;obtain rfl:=H1.o.trans (if_pos rfl);obtain rfl:=H2.o.trans (if_pos rfl);clear H1 H2;go_enter func21,ntmps21;go_wp2_with (fail)
  go_quiet (fail)
  go_wp2_with (fail);go_ret2;exact⟨rfl,(bR.alloc nR _).trans (dK.below ⟨_,rfl⟩ _)⟩
 ·have q1:(k==1)=false:=by simp;omega
  by_cases k2:k=2
  ·subst k2;clear q1;obtain rfl:=H1.o.trans ((if_neg k1).trans (if_pos rfl));obtain rfl:=H2.o.trans ((if_neg k1).trans (if_pos rfl));clear H1 H2 k1;go_enter func21,ntmps21;go_wp2_with (fail)
   go_quiet (fail)
   go_wp2_with (fail);go_ret2;exact⟨rfl,(bR.alloc nR _).trans (dK.below ⟨_,rfl⟩ _)⟩
  ·have q2:(k==2)=false:=by simp;omega
   obtain rfl:=H1.o.trans ((if_neg k1).trans (if_neg k2));obtain rfl:=H2.o.trans ((if_neg k1).trans (if_neg k2));clear H1 H2 k1 k2;go_enter func21,ntmps21;go_wp2_with (fail);go_ret2;exact⟨rfl,bR.alloc nR _⟩
def a5v(k W H:Int)(p:Nat)(iw ih:Int)(l:List Nat)(x y:Int):Nat:=if k=2 then a3e iw ih l x y else if inB (ER k W iw) (ER k H ih) x y=true then p else 0
theorem Bh(W H:Int)(p:Nat)(w:World):Calls prog 23 #[.int .i64 W,.int .i64 H,.int .u32 (p:Nat)] w (aX (Ku 1 W H p 0 0 none 0 0) w):=by
 go_enter func23,ntmps23;go_wp2_with (fail);exact bP rfl rfl (aW _ _ (by simp) [.int .i64 1,.int .i64 W,.int .i64 H,.int .u32 (p:Nat),.int .i64 0,.int .i64 0,.slice none 0 0] _) underlying75 rfl ag ⟨rfl,bR.alloc nR _⟩
end
section
open Go.RowKit fF fO
theorem a5t(x y z u:Int):∃M:Int,(∀(P:Program) (w:World) (ts:Array TypeId) (t:TypeId),(Builtin.max_ ts t (Vm x y z u).toArray).run P w=.ok (.int .i64 M) w)∧(∀a,M<=a↔x<=a∧y<=a∧z<=a∧u<=a):=by
 refine⟨if u > (if z > (if y > x then y else x) then z else (if y > x then y else x)) then u else (if z > (if y > x then y else x) then z else (if y > x then y else x)),fun P w ts t=>by simp[Builtin.max_,Builtin.max2],fun a=>?_⟩;split<;>split<;>split<;>omega
theorem a5s(x y z u:Int):∃M:Int,(∀(P:Program) (w:World) (ts:Array TypeId) (t:TypeId),(Builtin.min_ ts t (Vm x y z u).toArray).run P w=.ok (.int .i64 M) w)∧(∀a,a<=M↔a<=x∧a<=y∧a<=z∧a<=u):=by
 refine⟨if u<(if z<(if y<x then y else x) then z else (if y<x then y else x)) then u else (if z<(if y<x then y else x) then z else (if y<x then y else x)),fun P w ts t=>by simp[Builtin.min_,Builtin.min2],fun a=>?_⟩;split<;>split<;>split<;>omega
def MO(r:Bx):Bool:=decide ((-16384<=r.a∧-16384<=r.b∧-16384<=r.c∧-16384<=r.d)∧(r.a<=16384∧r.b<=16384∧r.c<=16384∧r.d<=16384))
theorem RN(r:Bx)(w:World):Calls prog 140 #[r.v] w (aX (.bool (MO r)) w):=by
 obtain⟨x0,y0,x1,y1⟩:=r;have HC:Hid (MO ⟨x0,y0,x1,y1⟩=decide ((-16384<=x0∧-16384<=y0∧-16384<=x1∧-16384<=y1)∧(x0<=16384∧y0<=16384∧x1<=16384∧y1<=16384))):=rfl;obtain⟨M,hmax,hM⟩:=a5t x0 y0 x1 y1;obtain⟨m,hmin,hm⟩:=a5s x0 y0 x1 y1;specialize hM 16384;specialize hm (-16384);generalize MO ⟨x0,y0,x1,y1⟩=R at*;unfold Bx.v;simp only;by_cases t1:-16384<=m
 ·have t:decide (-16384<=m)=true:=by simpa using t1
  have HS:Hid (R=decide (M<=16384)):=HC.o.trans (decide_eq_decide.2 ⟨fun h=>hM.2 h.2,fun h=>⟨hm.1 t1,hM.1 h⟩⟩);generalize hd:decide (M<=16384)=d at*;clear hM hm t1 HC;go_enter func140,ntmps140;go_wp2_with (fail);go_ret;exact⟨aO HS.o.symm,bR.alloc nR _⟩
 ·have t:decide (-16384<=m)=false:=by simpa using t1
  have HS:Hid (R=false):=HC.o.trans (decide_eq_false (fun h=>t1 (hm.2 h.1)));clear hM hm t1 HC;go_enter func140,ntmps140;go_wp2_with (fail);go_ret;exact⟨aO HS.o.symm,bR.alloc nR _⟩
def Kt(m:Mp)(op:Int)(hi cl:Bool)(r:Bx)(k W H:Int)(p:Nat)(iw ih:Int)(A:Option Addr)(n c:Nat):Value:=
 .agg (Vc m.a m.b m.c m.d m.e m.f op hi cl r.a r.b r.c r.d k W H p iw ih A n c).toArray
theorem Qv(w:World):Calls prog 50 #[] w (aX (Kt Mp.one 255 false false Bx.o 0 0 0 0 0 0 none 0 0) w):=by
 have HO:=Hd (fun w=>a1f w);unfold Kt;unfold Mp.v Mp.one Bx.o at*;simp only at*;go_enter func50,ntmps50;go_wp2_with (fail);refine(HO.o _).mono ?_;rintro e w1 ⟨rfl,hb⟩;have HB:=Hd (Sv hb);have hK:Hid (aA w1 w.heap.size Va):=(az w Va _).below hb (by simp);clear hb HO;have hlt:=hK.o.inside
 go_wp2_with (refine ay 77 _ _ rfl rfl rfl _ 0 rfl [.int .i64 65536,.int .i64 0,.int .i64 0,.int .i64 65536,.int .i64 0,.int .i64 0,.int .i64 255,.bool false,.bool false,.int .i64 0,.int .i64 0,.int .i64 0,.int .i64 0,.int .i64 0,.int .i64 0,.int .i64 0,.int .u32 0,.int .i64 0,.int .i64 0,.slice none 0 0] rfl _ hK.o [.int .i64 65536,.int .i64 0,.int .i64 0,.int .i64 65536,.int .i64 0,.int .i64 0,.int .i64 255,.bool false,.bool false,.int .i64 0,.int .i64 0,.int .i64 0,.int .i64 0,.int .i64 0,.int .i64 0,.int .i64 0,.int .u32 0,.int .i64 0,.int .i64 0,.slice none 0 0] rfl (by simp) ag rfl ?_;intro w2 HW HK)
 exact bP rfl rfl HK.o underlying77 rfl ag ⟨rfl,HW.o.below HB.o nR⟩
def Lu(m:Mp)(op:Int)(cl:Bool)(r:Bx)(lk:Int):Int:=if (m.right&&decide (0<=op∧op<=255))=true then (if cl=true then (if MO r=true then lk else 11) else (if r=Bx.o then lk else 10)) else 11
end
section
open Go.RowKit fF fO
theorem Iu(m:Mp)(op:Int)(hi cl:Bool)(r:Bx)(k W H:Int)(p:Nat)(iw ih:Int)(A:Option Addr)(l:List Nat)(c:Nat)(hp:p<4294967296)(hl:∀z∈l,z<4294967296)(hn:l.length<=maxLen)(w:World)(hr:Row eW w A l) :
  Calls prog 125 #[Kt m op hi cl r k W H p iw ih A l.length c] w (aX (.int .i64 (Lu m op cl r (y8 k W H p iw ih l))) w):=by
 have HM:=Hd (fun w=>uN m w);have PX:=Hd (fun w=>RN r w);have HL:=Hd (fun w hr=>IE k W H p iw ih A l c hp hl hn w hr);have hq:=fun w=>a1O r Bx.o w;have HC:Hid (Lu m op cl r (y8 k W H p iw ih l)=if (m.right&&decide (0<=op∧op<=255))=true then (if cl=true then (if MO r=true then y8 k W H p iw ih l else 11) else (if decide (r=Bx.o)=true then y8 k W H p iw ih l else 10)) else 11):=by show _=_;unfold Lu;simp only[decide_eq_true_eq]
 have HR:=Hd hr;have hn3:l.length<=9223372036854775807:=by unfold maxLen at hn;omega
 clear hp hl hn hr;generalize Lu m op cl r (y8 k W H p iw ih l)=R at*;generalize y8 k W H p iw ih l=K at*;generalize MO r=z at*;generalize decide (r=Bx.o)=u at*;generalize m.right=y at*;unfold Kt;unfold Bx.v Bx.o at hq;obtain⟨ma,mb,mc,md,me,mf⟩:=m;obtain⟨x0,y0,x1,y1⟩:=r;unfold Mp.v at HM;unfold Bx.v at PX;unfold Ku at HL;simp only at HM PX hq ⊢;have HB0:Hid (bz w (w.alloc (.cells (Vc ma mb mc md me mf op hi cl x0 y0 x1 y1 k W H p iw ih A l.length c).toArray 77))):=bR.alloc nR _
 have lg:Hid (aA (w.alloc (.cells (Vc ma mb mc md me mf op hi cl x0 y0 x1 y1 k W H p iw ih A l.length c).toArray 77)) w.heap.size (Vc ma mb mc md me mf op hi cl x0 y0 x1 y1 k W H p iw ih A l.length c)):=az w (Vc ma mb mc md me mf op hi cl x0 y0 x1 y1 k W H p iw ih A l.length c) _;go_enter func125,ntmps125
 go_wp2_with (first|(with_reducible refine gL ?_;first|(refine wt 67 0 rfl rfl rfl lg.o (Vh ma mb mc md me mf) rfl underlying67 rfl ?_)|(refine wt 69 9 rfl rfl rfl lg.o (Vm x0 y0 x1 y1) rfl underlying69 rfl ?_)|(refine wt 75 13 rfl rfl rfl lg.o (Vk k W H p iw ih A l.length c) rfl underlying75 rfl ?_)));refine(HM.o _).mono ?_;rintro e w1 ⟨rfl,hb⟩;have HB:=Hd (bel2 HB0.o hb);have HK:=Hd (lg.o.below' hb);clear hb HM HB0 lg;have c6:=HK.o.c 6 rfl;have c8:=HK.o.c 8 rfl;have hlt:=HK.o.inside;cases y with
 |false=>
  go_wp2_with (fail);go_ret;exact⟨aC HC.o.symm,HB.o⟩
 |true=>
  by_cases o1:op<0
  ·have t1:decide (op<0)=true:=by simpa using o1
   have HC2:Hid (R=11):=HC.o.trans (if_neg (by rw[decide_eq_false (by omega)];decide));clear o1 HC;go_wp2_with (fail);go_ret;exact⟨aC HC2.o.symm,HB.o⟩
  ·have t1:decide (op<0)=false:=by simpa using o1
   by_cases o2:255<op
   ·have t2:decide (255<op)=true:=by simpa using o2
    have HC2:Hid (R=11):=HC.o.trans (if_neg (by rw[decide_eq_false (by omega)];decide));clear o1 o2 HC;go_wp2_with (fail);go_ret;exact⟨aC HC2.o.symm,HB.o⟩
   ·have t2:decide (255<op)=false:=by simpa using o2
    have HC2:=Hd (HC.o.trans (if_pos (by rw[decide_eq_true (by omega)];rfl)));clear o1 o2 HC;cases cl with
    |true=>
     go_wp2_with (first|(with_reducible refine gL ?_;first|(refine wt 67 0 rfl rfl rfl HK.o (Vh ma mb mc md me mf) rfl underlying67 rfl ?_)|(refine wt 69 9 rfl rfl rfl HK.o (Vm x0 y0 x1 y1) rfl underlying69 rfl ?_)|(refine wt 75 13 rfl rfl rfl HK.o (Vk k W H p iw ih A l.length c) rfl underlying75 rfl ?_)));refine(PX.o _).mono ?_;rintro e w2 ⟨rfl,hb⟩;have HB2:=Hd (bel2 HB.o hb);have dh:=Hd (HK.o.below' hb);clear hb PX HB HK c6 c8 hlt;have hlt:=dh.o.inside;have c8:=dh.o.c 8 rfl;cases z with
     |false=>
      go_wp2_with (fail);go_ret;exact⟨aC HC2.o.symm,HB2.o⟩
     |true=>
      go_wp2_with (first|(with_reducible refine gL ?_;first|(refine wt 67 0 rfl rfl rfl dh.o (Vh ma mb mc md me mf) rfl underlying67 rfl ?_)|(refine wt 69 9 rfl rfl rfl dh.o (Vm x0 y0 x1 y1) rfl underlying69 rfl ?_)|(refine wt 75 13 rfl rfl rfl dh.o (Vk k W H p iw ih A l.length c) rfl underlying75 rfl ?_)));refine(HL.o _ (HR.o.below HB2.o)).mono ?_;rintro e w9 ⟨rfl,hb⟩;have pV:=Hd (bel2 HB2.o hb);clear hb HL;go_wp2_with (fail);go_ret;exact⟨aC HC2.o.symm,pV.o⟩
    |false=>
     clear PX;cases u with
     |false=>
      go_wp2_with (first|(with_reducible refine gL ?_;first|(refine wt 67 0 rfl rfl rfl HK.o (Vh ma mb mc md me mf) rfl underlying67 rfl ?_)|(refine wt 69 9 rfl rfl rfl HK.o (Vm x0 y0 x1 y1) rfl underlying69 rfl ?_)|(refine wt 75 13 rfl rfl rfl HK.o (Vk k W H p iw ih A l.length c) rfl underlying75 rfl ?_)));go_ret;exact⟨aC HC2.o.symm,HB.o⟩
     |true=>
      go_wp2_with (first|(with_reducible refine gL ?_;first|(refine wt 67 0 rfl rfl rfl HK.o (Vh ma mb mc md me mf) rfl underlying67 rfl ?_)|(refine wt 69 9 rfl rfl rfl HK.o (Vm x0 y0 x1 y1) rfl underlying69 rfl ?_)|(refine wt 75 13 rfl rfl rfl HK.o (Vk k W H p iw ih A l.length c) rfl underlying75 rfl ?_)));refine(HL.o _ (HR.o.below HB.o)).mono ?_;rintro e w9 ⟨rfl,hb⟩;have pV:=Hd (bel2 HB.o hb);clear hb HL;go_wp2_with (fail);go_ret;exact⟨aC HC2.o.symm,pV.o⟩
end
section
open Go.RowKit fF fO
def GI(k W H:Int)(p:Nat)(iw ih:Int)(l:List Nat)(w:World)(e:Ending)(w':World):Prop:=∃A9 cap,e=.returned (Ku k W H p iw ih A9 l.length cap)∧Pxs w' w.heap.size A9 l cap∧bz w w'
theorem MN(k W H:Int)(p:Nat)(iw ih:Int)(A:Option Addr)(l:List Nat)(c:Nat)(w:World)(hr:Row eW w A l)(hn:l.length<=20000000):Calls prog 73 #[Ku k W H p iw ih A l.length c] w (GI k W H p iw ih l w):=by
 have HR:=Hd hr;have HC:=Hd (fun w hr=>WQ iw ih A l c w hr hn);unfold Yp at HC;unfold GI;have hn3:l.length<=9223372036854775807:=by omega
 clear hr hn;unfold Ku at*;unfold GR at HC;have HB0:Hid (bz w ((w.alloc (.cells (Vk k W H p iw ih A l.length c).toArray 75)).alloc (.cells Vp.toArray 75))):=(bR.alloc nR _).alloc (by simp) _;have lg:Hid (aA ((w.alloc (.cells (Vk k W H p iw ih A l.length c).toArray 75)).alloc (.cells Vp.toArray 75)) w.heap.size (Vk k W H p iw ih A l.length c)):=(az w (Vk k W H p iw ih A l.length c) _).alloc _
 have J5:Hid (aA ((w.alloc (.cells (Vk k W H p iw ih A l.length c).toArray 75)).alloc (.cells Vp.toArray 75)) (w.heap.size+1) Vp):=aW (w.alloc _) _ (by simp) Vp _;have iQ:Hid (w.heap.size+2<=((w.alloc (.cells (Vk k W H p iw ih A l.length c).toArray 75)).alloc (.cells Vp.toArray 75)).heap.size):=by simp[Hid]
 go_enter func73,ntmps73;go_wp2_with (refine wt 73 4 rfl rfl rfl lg.o (Vo iw ih A l.length c) rfl underlying73 rfl ?_);refine(HC.o _ (HR.o.below HB0.o)).mono ?_;rintro e w1 ⟨A9,c9,rfl,hx,hb⟩;have HX:=Hd hx;have HB:=Hd (bel2 HB0.o hb);have HK:=Hd (lg.o.below' hb);have jm:=Hd (J5.o.below' hb);generalize ((w.alloc (.cells (Vk k W H p iw ih A l.length c).toArray 75)).alloc (.cells Vp.toArray 75))=wz at*;clear hb hx HC HB0 lg J5
 go_wp2_with (first|(refine ay 73 _ _ rfl rfl rfl _ 4 rfl (Vo iw ih A9 l.length c9) rfl _ HK.o (Vk k W H p iw ih A9 l.length c9) rfl (by simp) ag rfl ?_;intro w2 HW2 dh;have HR2:=Hd (HW2.o.blk (by omega) jm.o))|(refine wt 75 0 rfl rfl rfl dh.o (Vk k W H p iw ih A9 l.length c9) rfl underlying75 rfl ?_)|(refine ay 75 _ _ rfl rfl rfl _ 0 rfl (Vk k W H p iw ih A9 l.length c9) rfl _ HR2.o (Vk k W H p iw ih A9 l.length c9) rfl (by simp) ag rfl ?_;intro w3 HW3 dO))
 refine bP rfl rfl dO.o underlying75 rfl ag ⟨A9,c9,rfl,⟨HX.o.1.BG fun b o e=>?_,fun b o e=>?_,HX.o.2.2⟩,HW3.o.below (HW2.o.below HB.o nR) (by omega)⟩
 ·have h1:b≠w.heap.size∧b≠w.heap.size+1:=by have:=HX.o.2.1 b o e;have:=iQ.o;omega
  exact(HW3.o.far h1.2).trans (HW2.o.far h1.1)
 ·have h1:b≠w.heap.size∧b≠w.heap.size+1:=by have:=HX.o.2.1 b o e;have:=iQ.o;omega
  exact⟨by have:=HX.o.2.1 b o e;have:=iQ.o;omega,fun j=>(World.frozen?_of_block ((HW3.o.far h1.2).trans (HW2.o.far h1.1))).trans ((HX.o.2.1 b o e).2 j)⟩
def PM(m:Mp)(op:Int)(hi cl:Bool)(r:Bx)(k W H:Int)(p:Nat)(iw ih:Int)(l:List Nat)(w:World)(e:Ending)(w':World):Prop:=∃A9 cap,e=.returned (Kt m op hi cl r k W H p iw ih A9 l.length cap)∧Pxs w' w.heap.size A9 l cap∧bz w w'
theorem Lt(m:Mp)(op:Int)(hi cl:Bool)(r:Bx)(k W H:Int)(p:Nat)(iw ih:Int)(A:Option Addr)(l:List Nat)(c:Nat)(w:World)(hr:Row eW w A l)(hn:l.length<=20000000):Calls prog 46 #[Kt m op hi cl r k W H p iw ih A l.length c] w (PM m op hi cl r k W H p iw ih l w):=by
 have HR:=Hd hr;have HC:=Hd (fun w hr=>MN k W H p iw ih A l c w hr hn);unfold GI at HC;unfold PM;have hn3:l.length<=9223372036854775807:=by omega
 clear hr hn;unfold Kt at*;unfold Ku at HC;obtain⟨ma,mb,mc,md,me,mf⟩:=m;obtain⟨x0,y0,x1,y1⟩:=r;simp only at HC ⊢;have HB0:Hid (bz w ((w.alloc (.cells (Vc ma mb mc md me mf op hi cl x0 y0 x1 y1 k W H p iw ih A l.length c).toArray 77)).alloc (.cells Va.toArray 77))):=(bR.alloc nR _).alloc (by simp) _
 have lg:Hid (aA ((w.alloc (.cells (Vc ma mb mc md me mf op hi cl x0 y0 x1 y1 k W H p iw ih A l.length c).toArray 77)).alloc (.cells Va.toArray 77)) w.heap.size (Vc ma mb mc md me mf op hi cl x0 y0 x1 y1 k W H p iw ih A l.length c)):=(az w (Vc ma mb mc md me mf op hi cl x0 y0 x1 y1 k W H p iw ih A l.length c) _).alloc _;have J5:Hid (aA ((w.alloc (.cells (Vc ma mb mc md me mf op hi cl x0 y0 x1 y1 k W H p iw ih A l.length c).toArray 77)).alloc (.cells Va.toArray 77)) (w.heap.size+1) Va):=aW (w.alloc _) _ (by simp) Va _
 have iQ:Hid (w.heap.size+2<=((w.alloc (.cells (Vc ma mb mc md me mf op hi cl x0 y0 x1 y1 k W H p iw ih A l.length c).toArray 77)).alloc (.cells Va.toArray 77)).heap.size):=by simp[Hid]
 go_enter func46,ntmps46;go_wp2_with (refine wt 75 13 rfl rfl rfl lg.o (Vk k W H p iw ih A l.length c) rfl underlying75 rfl ?_);refine(HC.o _ (HR.o.below HB0.o)).mono ?_;rintro e w1 ⟨A9,c9,rfl,hx,hb⟩;have HX:=Hd hx;have HB:=Hd (bel2 HB0.o hb);have HK:=Hd (lg.o.below' hb);have jm:=Hd (J5.o.below' hb);generalize ((w.alloc (.cells (Vc ma mb mc md me mf op hi cl x0 y0 x1 y1 k W H p iw ih A l.length c).toArray 77)).alloc (.cells Va.toArray 77))=wz at*;clear hb hx HC HB0 lg J5
 go_wp2_with (first|(refine ay 75 _ _ rfl rfl rfl _ 13 rfl (Vk k W H p iw ih A9 l.length c9) rfl _ HK.o (Vc ma mb mc md me mf op hi cl x0 y0 x1 y1 k W H p iw ih A9 l.length c9) rfl (by simp) ag rfl ?_;intro w2 HW2 dh;have HR2:=Hd (HW2.o.blk (by omega) jm.o))|(refine wt 77 0 rfl rfl rfl dh.o (Vc ma mb mc md me mf op hi cl x0 y0 x1 y1 k W H p iw ih A9 l.length c9) rfl underlying77 rfl ?_)|(refine ay 77 _ _ rfl rfl rfl _ 0 rfl (Vc ma mb mc md me mf op hi cl x0 y0 x1 y1 k W H p iw ih A9 l.length c9) rfl _ HR2.o (Vc ma mb mc md me mf op hi cl x0 y0 x1 y1 k W H p iw ih A9 l.length c9) rfl (by simp) ag rfl ?_;intro w3 HW3 dO))
 refine bP rfl rfl dO.o underlying77 rfl ag ⟨A9,c9,rfl,⟨HX.o.1.BG fun b o e=>?_,fun b o e=>?_,HX.o.2.2⟩,HW3.o.below (HW2.o.below HB.o nR) (by omega)⟩
 ·have h1:b≠w.heap.size∧b≠w.heap.size+1:=by have:=HX.o.2.1 b o e;have:=iQ.o;omega
  exact(HW3.o.far h1.2).trans (HW2.o.far h1.1)
 ·have h1:b≠w.heap.size∧b≠w.heap.size+1:=by have:=HX.o.2.1 b o e;have:=iQ.o;omega
  exact⟨by have:=HX.o.2.1 b o e;have:=iQ.o;omega,fun j=>(World.frozen?_of_block ((HW3.o.far h1.2).trans (HW2.o.far h1.1))).trans ((HX.o.2.1 b o e).2 j)⟩
end
section
open Go.RowKit fF fO
def a5J(k1 W1 H1:Int)(p1:Nat)(iw1 ih1:Int)(l1:List Nat)(k2 W2 H2:Int)(p2:Nat)(iw2 ih2:Int)(l2:List Nat):Bool:=(k1==k2)&&((W1==W2)&&((H1==H2)&&(((p1:Int)==(p2:Int))&&Zj iw1 ih1 l1 iw2 ih2 l2)))
def a5I(m1:Mp)(op1:Int)(hi1 cl1:Bool)(r1:Bx)(m2:Mp)(op2:Int)(hi2 cl2:Bool)(r2:Bx)(lk:Bool):Bool:=decide (m1=m2)&&(decide (r1=r2)&&((op1==op2)&&((hi1==hi2)&&((cl1==cl2)&&lk))))
end
end Go.Proofs.YthmegninhpihkaaGreat
