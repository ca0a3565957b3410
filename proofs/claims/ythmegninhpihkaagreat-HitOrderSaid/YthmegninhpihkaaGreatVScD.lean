import Derived.Test.YthmegninhpihkaaGreatVScB
import Derived.Test.YthmegninhpihkaaGreatVScC
import Derived.Deep.RegionHeld3
import Derived.Laws.Cover3
import Derived.ChangeKeysEq
import Derived.Deep.Grids
import Derived.Deep.DeepCutAuto
import Derived.Deep.CutBlock
set_option maxHeartbeats 16000000
set_option maxRecDepth 100000
open Go.Proofs.Tryz
namespace Go.Proofs.YthmegninhpihkaaGreat
section
open Go.RowKit
end
section
open Go.RowKit fG gm
theorem Bl{a b:List Nat}{k:Nat}(h:a.take k=b.take k)(ha:k<a.length)(hb:k<b.length)(e:a[k]=b[k]):a.take (k+1)=b.take (k+1):=by
 rw[List.take_succ_eq_append_getElem ha,List.take_succ_eq_append_getElem hb,h,e]
theorem OL{a b:List Nat}{k:Nat}(ha:k<a.length)(hb:k<b.length)(e:¬a[k]=b[k]):decide (a=b)=false:=
 decide_eq_false fun h=>e (by subst h;rfl)
theorem Xq(A1 A2:Option Addr)(l1 l2:List Nat)(c1 c2:Nat)(w:World)(h1:Row eW w A1 l1)(h2:Row eW w A2 l2)(m1:l1.length<=maxLen)(m2:l2.length<=maxLen) :
  Calls prog 161 #[.slice A1 l1.length c1,.slice A2 l2.length c2] w (aZ (.bool (decide (l1=l2))) w):=by
 have HR:=Hd (And.intro h1 h2);have m1:l1.length<=9223372036854775807:=by unfold maxLen at m1;omega
 have m2:l2.length<=9223372036854775807:=by unfold maxLen at m2;omega
 clear h1 h2;by_cases hn:l1.length=l2.length
 ·have q:((l1.length:Int) != (l2.length:Int))=false:=by simp;omega
  have HN:=Hd hn;clear hn;go_enter func161,ntmps161;go_wp2_with (fail);clear q
  go_loopw [13] (fun i wr=>∃k:Nat,k<=l1.length∧i=.int .i64 k∧Hid (l1.take k=l2.take k)∧Hid (dP w wr)) (fun i _=>l1.length - (intOf i).toNat)
  case atStart=>exact⟨0,Nat.zero_le _,rfl,rfl,dP.refl _⟩
  case round=>
   obtain⟨k,hk,rfl,HK,HD⟩:=hrel;by_cases hlt:k<l1.length
   ·have t:decide (k<l1.length)=true:=by simpa using hlt
    have hlt2:k<l2.length:=by rw[←HN.o];exact hlt
    obtain⟨b1,o1,rfl,k1⟩:=(HR.o.1.below (HD.o.below _)).at_ hlt;obtain⟨b2,o2,rfl,k2⟩:=(HR.o.2.below (HD.o.below _)).at_ hlt2;have HS:=Hd (fun e=>Bl HK.o hlt hlt2 e);have HO:=Hd (fun e=>OL hlt hlt2 e);generalize l1[k]=x at*;generalize l2[k]=y at*;unfold eW at k1 k2;by_cases e:x=y
    ·have HS2:=Hd (HS.o e);have q:((x:Int) != (y:Int))=false:=by simp;omega
     clear HS HO e HN;go_wp2_with (fail)
     go_quiet (fail)
     go_wp2_with (fail)
     go_roundw
     case rel=>exact⟨k+1,by omega,by go_num,HS2,HD.o.trans ⟨_,rfl⟩⟩
     case measure=>simp[intOf];omega
    ·have Lj:=Hd (HO.o e);have q:((x:Int) != (y:Int))=true:=by simp;omega
     clear HS HO e HN;go_wp2_with (fail)
     go_quiet (fail)
     go_wp2_with (fail);go_ret;exact⟨aI Lj.o.symm,(HD.o.trans ⟨_,rfl⟩).below _⟩
   ·obtain rfl:k=l1.length:=by omega
    have HF:Hid (decide (l1=l2)=true):=decide_eq_true (by have:=HK.o;rw[List.take_length,HN.o,List.take_length]at this;exact this);have t:decide (l1.length<l1.length)=false:=by simp
    go_wp2_with (fail);go_ret;exact⟨aI HF.o.symm,HD.o.below _⟩
 ·have q:((l1.length:Int) != (l2.length:Int))=true:=by simp;omega
  have HF:Hid (decide (l1=l2)=false):=decide_eq_false fun e=>hn (by rw[e]);clear hn;go_enter func161,ntmps161;go_wp2_with (fail);go_ret;exact⟨aI HF.o.symm,bR⟩
def Y3(W1 H1:Int)(l1:List Nat)(W2 H2:Int)(l2:List Nat):Bool:=decide (W1=W2)&&(decide (H1=H2)&&decide (l1=l2))
theorem PH(W1 H1:Int)(A1:Option Addr)(l1:List Nat)(c1:Nat)(W2 H2:Int)(A2:Option Addr)(l2:List Nat)(c2:Nat)(w:World)(h1:Row eW w A1 l1)(h2:Row eW w A2 l2)(m1:l1.length<=maxLen)(m2:l2.length<=maxLen) :
  Calls prog 157 #[EU W1 H1 A1 l1.length c1,EU W2 H2 A2 l2.length c2] w (aZ (.bool (Y3 W1 H1 l1 W2 H2 l2)) w):=by
 have HR:=Hd (And.intro h1 h2);have HE:=Hd (fun w h1 h2=>Xq A1 A2 l1 l2 c1 c2 w h1 h2 m1 m2);have HQ:Hid (Y3 W1 H1 l1 W2 H2 l2=(decide (W1=W2)&&(decide (H1=H2)&&decide (l1=l2)))):=rfl;clear h1 h2 m1 m2;generalize Y3 W1 H1 l1 W2 H2 l2=R at*;generalize decide (l1=l2)=y at*;unfold EU;by_cases t1:W1=W2
 ·have q1:(W1==W2)=true:=by simpa using t1
  rw[decide_eq_true t1,Bool.true_and]at HQ;clear t1;by_cases t2:H1=H2
  ·have q2:(H1==H2)=true:=by simpa using t2
   rw[decide_eq_true t2,Bool.true_and]at HQ;clear t2;go_enter func157,ntmps157;go_wp2_with (fail);have HB:Hid (bz w ((w.alloc (.cells (Vn W1 H1 A1 l1.length c1).toArray 73)).alloc (.cells (Vn W2 H2 A2 l2.length c2).toArray 73))):=(bR.alloc nR _).alloc (by simp) _;refine(HE.o _ (HR.o.1.below HB.o) (HR.o.2.below HB.o)).mono ?_;rintro e w2 ⟨rfl,hb⟩;have HB2:=Hd (HB.o.trans (hb.mono HB.o.size));clear hb HE;go_wp2_with (fail);go_ret;exact⟨aI HQ.o.symm,HB2.o⟩
  ·have q2:(H1==H2)=false:=by simpa using t2
   rw[decide_eq_false t2,Bool.false_and]at HQ;clear t2 HE;go_enter func157,ntmps157;go_wp2_with (fail);go_ret;exact⟨aI HQ.o.symm,(bR.alloc nR _).alloc (by simp) _⟩
 ·have q1:(W1==W2)=false:=by simpa using t1
  rw[decide_eq_false t1,Bool.false_and]at HQ;clear t1 HE;go_enter func157,ntmps157;go_wp2_with (fail);go_ret;exact⟨aI HQ.o.symm,(bR.alloc nR _).alloc (by simp) _⟩
theorem Xb:(prog.info? 70).map (fun i=>(i.zero,i.size,i.bytes))=some (some (.int .u32 0),1,4):=by kernel_rfl
theorem Ci(A:Option Addr)(n c:Nat)(w:World):(binOp .eql 71 (.slice A n c) (.slice none 0 0)).run prog w=.ok (.bool A.isNone) w:=by
 have h:=run_equal_slice_nil (P:=prog) w 71 _ A n c underlying71;unfold binOp;simp[h,go_sem]
def eWs(z:Nat):List Value:=[eW z]
theorem qI(z:Nat):(eWs z).length=1:=rfl
theorem TK(l:List Nat):l.flatMap eWs=l.map eW:=by
 induction l with
 |nil=>rfl
 |cons x l ih=>rw[List.flatMap_cons,ih,List.map_cons];rfl
theorem aV.a1z{w:World}{A:Option Addr}{l:List Nat}(h:aV 1 eWs w A l):Row eW w A l:=fun hn=>by
 obtain⟨b,off,e,hc⟩:=h hn;refine⟨b,off,e,fun j hj=>?_⟩;have:=hc j hj 0 (eW l[j]) rfl
 rwa [Nat.mul_one,Nat.add_zero]at this
theorem Row.Ag{w w':World}{A:Option Addr}{l:List Nat}(h:Row eW w A l)(hb:∀b o,A=some ⟨b,o,none⟩->w'.heap[b]?=w.heap[b]?):Row eW w' A l:=fun hn=>by
 obtain⟨b,off,e,hc⟩:=h hn;refine⟨b,off,e,fun j hj=>?_⟩;rw[←hc j hj];simp only[World.cell?,hb b off e]
def Pxs(w:World)(base:Nat)(A:Option Addr)(l:List Nat)(c:Nat):Prop:=Row eW w A l∧(∀b o,A=some ⟨b,o,none⟩->base<=b∧∀j,w.frozen? ⟨b,j,none⟩=false)∧(A=none->c=0)∧l.length<=c∧c<=maxLen
def ES(l:List Nat)(w:World)(e:Ending)(w':World):Prop:=∃A9 cap,e=.returned (.slice A9 l.length cap)∧Pxs w' w.heap.size A9 l cap∧bz w w'
theorem clone_any(A:Option Addr)(l:List Nat)(c:Nat)(w:World)(hr:Row eW w A l)(hn2:l.length<=20000000):Calls prog 115 #[.slice A l.length c] w (ES l w):=by
 unfold ES;cases A with
 |none=>
  obtain rfl:l=[]:=by
   by_cases h:0<l.length
   ·obtain⟨b,o,e,_⟩:=hr h;cases e
   ·exact List.eq_nil_of_length_eq_zero (by omega)
  clear hr hn2;have hq:∀w,(binOp .eql 71 (.slice none 0 c) (.slice none 0 0)).run prog w=.ok (.bool true) w:=fun w=>Ci none 0 c w;simp only[List.length_nil];go_enter func115,ntmps115;go_wp2_with (fail);go_ret;exact⟨none,0,rfl,⟨Row.none_ rfl,(fun _ _ h=>nomatch h),(fun _=>rfl),nR,by unfold maxLen;omega⟩,bR⟩
 |some a=>
  have hl:ax 70 1 eWs (w.alloc (.cells #[] 70)) w.heap.size (.slice (some ⟨w.heap.size,0,none⟩) 0 0) []:=ax.lit qI w [] nR (by simp);obtain⟨i,hi,hz,hsize,hby⟩:=info_parts Xb
  obtain⟨v',w',hrun,ho,hg,hnil,-⟩:=run_append_own_at (P:=prog) (w.alloc (.cells #[] 70)) w.heap.size 71 71 70 i (.int .u32 0) 1 4 underlying71 hi hz hsize hby rfl (by decide) _ 0 [] hl a l.length c (l.map eW) (by simp) (by
    intro j u hj;obtain⟨h1,h2⟩:=List.getElem?_eq_some_iff.1 hj;rw[List.length_map]at h1
    obtain⟨b,off,e,hc⟩:=(hr.alloc (.cells #[] 70)) (by omega)
    obtain rfl:=Option.some.inj e;have e2:(⟨b,off,none⟩:Addr).add j=⟨b,off+j,none⟩:=by unfold Addr.add;split<;>simp_all
    rw[e2,hc j h1,←h2,List.getElem_map]) (by
    intro u hu;obtain⟨z,_,rfl⟩:=List.mem_map.1 hu
    rfl) (by unfold maxLen;omega) (by omega) (by simp)
  have HO:Hid (ax 70 1 eWs w' w.heap.size v' l):=by
   rw[Nat.zero_add,List.nil_append,←TK]at ho;exact ho
  have HB:Hid (bz w w'):=by
   have h1:bz w (w.alloc (.cells #[] 70)):=bR.alloc nR _;exact h1.grown hg (by simp) (fun j hj=>by cases hj;exact nR)
  have hn3:l.length<=9223372036854775807:=by omega
  have HNI:=Hd hnil;clear hr hl ho hg hn2 hnil hi hz hsize hby;have hq:∀w,(binOp .eql 71 (.slice (some a) l.length c) (.slice none 0 0)).run prog w=.ok (.bool false) w:=fun w=>Ci _ _ _ w;go_enter func115,ntmps115;go_wp2_with (at_builtin;refine bG rfl _ _ 71 71 71 rfl rfl _ _ _ _ rfl rfl hrun ?_;clear hrun);go_ret;obtain⟨A9,c9,rfl,h1,h2,h3⟩:=HO.o.row qI;refine⟨A9,c9,rfl,⟨h3.a1z,(fun b o e=>?_),(fun e=>?_),h1,h2⟩,HB.o⟩
  ·subst e;refine⟨(HO.o.block rfl).1,fun j=>?_⟩;rcases HO.o.2 with ⟨h,_⟩|⟨g,cap,cur,h,hg,hgg,_⟩
   ·injection h with h _ _;cases h
   ·injection h with h _ _
    cases h;exact frozen_of_row _ _ _ _ _ hgg
  ·subst e;rcases HO.o.2 with ⟨h,_⟩|⟨g,cap,cur,h,_⟩
   ·injection h
   ·injection h with h _ _;cases h
def VP(W H:Int)(l:List Nat)(w:World)(e:Ending)(w':World):Prop:=∃A9 cap,e=.returned (EU W H A9 l.length cap)∧Pxs w' w.heap.size A9 l cap∧bz w w'
theorem Ue(W H:Int)(A:Option Addr)(l:List Nat)(c:Nat)(w:World)(hr:Row eW w A l)(hn2:l.length<=20000000):Calls prog 94 #[EU W H A l.length c] w (VP W H l w):=by
 have HR:=Hd hr;have HC:=Hd (fun w hr=>clone_any A l c w hr hn2);unfold ES at HC;unfold VP;have hn3:l.length<=9223372036854775807:=by omega
 clear hr hn2;unfold EU;go_enter func94,ntmps94;go_wp2_with (fail)
 obtain⟨w1,hw1⟩:=aC (((w.alloc (.cells (Vn W H A l.length c).toArray 73)).alloc (.cells Vu.toArray 73)))
 have HB1:Hid (bz w w1):=by rw[←hw1];exact(bR.alloc nR _).alloc (by simp) _
 have KM:Hid (az w1 w.heap.size (Vn W H A l.length c)):=by rw[←hw1];exact(aA w (Vn W H A l.length c) _).alloc _
 have KR:Hid (az w1 (w.heap.size+1) Vu):=by rw[←hw1];exact aY (w.alloc _) _ (by simp) Vu _
 rw[hw1];clear hw1;obtain⟨⟨c0,c1,c2⟩,-,ci⟩:=KM.o.c3;have YC:Hid (bz w w1.drew):=HB1.o.drew;have KMd:Hid (az w1.drew w.heap.size (Vn W H A l.length c)):=KM.o;have KRd:Hid (az w1.drew (w.heap.size+1) Vu):=KR.o
 go_region_held3 (fun w'=>w'.cell? ⟨w.heap.size,0,none⟩=some (.int .i64 W)∧w'.cell? ⟨w.heap.size,1,none⟩=some (.int .i64 H)∧w'.cell? ⟨w.heap.size,2,none⟩=some (.slice A l.length c))
  (first|exact⟨KMd.o.c3.1.1,KMd.o.c3.1.2.1,KMd.o.c3.1.2.2⟩|exact⟨x0,x1,x2⟩|go_keep)
  ((first|(go_at_call 115;refine(HC.o _ (HR.o.below YC.o)).mono ?_;rintro e w2 ⟨A9,PV,rfl,Z8,bD⟩;have k2:az w2 w.heap.size (Vn W H A l.length c):=KMd.o.below' bD;have k3:az w2 (w.heap.size+1) Vu:=KRd.o.below' bD;have x0:w2.cell? ⟨w.heap.size,0,none⟩=some (.int .i64 W):=k2.c3.1.1;have x1:w2.cell? ⟨w.heap.size,1,none⟩=some (.int .i64 H):=k2.c3.1.2.1;have x2:w2.cell? ⟨w.heap.size,2,none⟩=some (.slice A l.length c):=k2.c3.1.2.2;have y0:w2.cell? ⟨w.heap.size+1,0,none⟩=some (.int .i64 0):=k3.c3.1.1;have y1:w2.cell? ⟨w.heap.size+1,1,none⟩=some (.int .i64 0):=k3.c3.1.2.1;have y2:w2.cell? ⟨w.heap.size+1,2,none⟩=some (.slice none 0 0):=k3.c3.1.2.2;have z0:w2.frozen? ⟨w.heap.size+1,0,none⟩=false:=k3.c3.2.1.1;have z1:w2.frozen? ⟨w.heap.size+1,1,none⟩=false:=k3.c3.2.1.2.1;have z2:w2.frozen? ⟨w.heap.size+1,2,none⟩=false:=k3.c3.2.1.2.2;have hlt2:w.heap.size+1<w2.heap.size:=k3.c3.2.2)))
 have hz1:w1.drew.heap.size=w1.heap.size:=rfl
 have HX:Hid (Pxs (((w2.setCell ⟨w.heap.size+1,0,none⟩ (.int .i64 W)).setCell ⟨w.heap.size+1,1,none⟩ (.int .i64 H)).setCell ⟨w.heap.size+1,2,none⟩ (.slice A9 l.length PV)) w.heap.size A9 l PV):=by
  refine⟨Z8.1.Ag fun b o e=>?_,fun b o e=>⟨Nat.le_trans YC.o.size (Z8.2.1 b o e).1,fun j=>?_⟩,Z8.2.2⟩
  ·have hne:b≠w.heap.size+1:=by have:=Z8.2.1 b o e;have:=KR.o.inside;have:w1.drew.heap.size=w1.heap.size:=rfl;omega
   rw[Below.heap_setCell _ _ _ _ hne,Below.heap_setCell _ _ _ _ hne,Below.heap_setCell _ _ _ _ hne]
  ·refine(World.frozen?_of_block ?_).trans ((Z8.2.1 b o e).2 j);have hne:b≠w.heap.size+1:=by have:=Z8.2.1 b o e;have:=KR.o.inside;have:w1.drew.heap.size=w1.heap.size:=rfl;omega
   rw[Below.heap_setCell _ _ _ _ hne,Below.heap_setCell _ _ _ _ hne,Below.heap_setCell _ _ _ _ hne]
 have HB2:Hid (bz w (((w2.setCell ⟨w.heap.size+1,0,none⟩ (.int .i64 W)).setCell ⟨w.heap.size+1,1,none⟩ (.int .i64 H)).setCell ⟨w.heap.size+1,2,none⟩ (.slice A9 l.length PV))):=
  dW (dW (dW (YC.o.trans (bD.mono YC.o.size)) (by omega)) (by omega)) (by omega)
 have HK:=Hd (((k3.set 0 (.int .i64 W)).set 1 (.int .i64 H)).set 2 (.slice A9 l.length PV));clear Z8 bD k2 k3 x0 x1 x2 y0 y1 y2 z0 z1 z2 hlt2 c0 c1 c2 ci;generalize (((w2.setCell ⟨w.heap.size+1,0,none⟩ (.int .i64 W)).setCell ⟨w.heap.size+1,1,none⟩ (.int .i64 H)).setCell ⟨w.heap.size+1,2,none⟩ (.slice A9 l.length PV))=w5 at*;go_wp2_with (fail);exact bJ rfl rfl HK.o underlying73 rfl ag ⟨A9,PV,rfl,HX.o,HB2.o⟩
end
section
open Go.RowKit fG gm
def Gz(k W H:Int)(p:Nat)(iw ih:Int)(A:Option Addr)(n c:Nat):Value:=.agg (Vj k W H p iw ih A n c).toArray
theorem a0F(w:World)(k W H:Int)(p:Nat)(iw ih:Int)(A:Option Addr)(n c:Nat)(T:TypeId):az (w.alloc (.cells (Vj k W H p iw ih A n c).toArray T)) w.heap.size (Vj k W H p iw ih A n c):=
 aA w (Vj k W H p iw ih A n c) T
theorem az.c7{w:World}{g:Nat}{a b c d e f h:Value}(hB:az w g [a,b,c,d,e,f,h]):(w.cell? ⟨g,0,none⟩=some a∧w.cell? ⟨g,1,none⟩=some b∧w.cell? ⟨g,2,none⟩=some c∧w.cell? ⟨g,3,none⟩=some d∧w.cell? ⟨g,4,none⟩=some e∧w.cell? ⟨g,5,none⟩=some f∧w.cell? ⟨g,6,none⟩=some h) ∧
  (w.frozen? ⟨g,0,none⟩=false∧w.frozen? ⟨g,1,none⟩=false∧w.frozen? ⟨g,2,none⟩=false∧w.frozen? ⟨g,3,none⟩=false∧w.frozen? ⟨g,4,none⟩=false∧w.frozen? ⟨g,5,none⟩=false∧w.frozen? ⟨g,6,none⟩=false)∧g<w.heap.size:=
 ⟨⟨hB.cell 0,hB.cell 1,hB.cell 2,hB.cell 3,hB.cell 4,hB.cell 5,hB.cell 6⟩,⟨hB.free 0,hB.free 1,hB.free 2,hB.free 3,hB.free 4,hB.free 5,hB.free 6⟩,hB.inside⟩
def VW(b:Bool):Int:=if b=true then 0 else 10
theorem JU(b:Bool)(w:World):Calls prog 148 #[.bool b] w (aZ (.int .i64 (VW b)) w):=by
 cases b
 all_goals
  go_enter func148,ntmps148;go_wp2_with (fail);go_ret;exact⟨rfl,bR⟩
def xH(W H:Int)(p:Nat):Bool:=decide (¬(W=0∧H=0∧p=0))
theorem GX(k W H:Int)(p:Nat)(iw ih:Int)(A:Option Addr)(n c:Nat)(w:World):Calls prog 149 #[Gz k W H p iw ih A n c] w (aZ (.bool (xH W H p)) w):=by
 obtain⟨R,hR⟩:=aC (xH W H p)
 rw[hR];have HR:=Hd hR;clear hR;unfold Gz;by_cases t1:W=0
 ·have q1:(W != 0)=false:=by simp;omega
  by_cases t2:H=0
  ·have q2:(H != 0)=false:=by simp;omega
   have HF:Hid (R=((p:Int) != 0)):=by
    show R=_;rw[←HR.o,Bool.eq_iff_iff];unfold xH;simp[t1,t2]
    try omega
   generalize hq:((p:Int) != 0)=y at HF;obtain rfl:=HF.o;clear t1 t2 HR HF;go_enter func149,ntmps149;go_wp2_with (fail);go_ret;exact⟨rfl,bR.alloc nR _⟩
  ·have q2:(H != 0)=true:=by simp;omega
   obtain rfl:R=true:=by rw[←HR.o];exact decide_eq_true (fun h=>t2 h.2.1)
   clear t1 t2 HR;go_enter func149,ntmps149;go_wp2_with (fail);go_ret;exact⟨rfl,bR.alloc nR _⟩
 ·have q1:(W != 0)=true:=by simp;omega
  obtain rfl:R=true:=by rw[←HR.o];exact decide_eq_true (fun h=>t1 h.1)
  clear t1 HR;go_enter func149,ntmps149;go_wp2_with (fail);go_ret;exact⟨rfl,bR.alloc nR _⟩
def xG(iw ih:Int)(l:List Nat):Bool:=!Y3 iw ih l 0 0 []
theorem Ed(k W H:Int)(p:Nat)(iw ih:Int)(A:Option Addr)(l:List Nat)(c:Nat)(hn:l.length<=maxLen)(w:World)(hr:Row eW w A l):Calls prog 150 #[Gz k W H p iw ih A l.length c] w (aZ (.bool (xG iw ih l)) w):=by
 have HE:=Hd (fun w h1=>PH iw ih A l c 0 0 none [] 0 w h1 (Row.none_ rfl) hn (by simp));have HR:=Hd hr;have HI:Hid (xG iw ih l=!Y3 iw ih l 0 0 []):=rfl;clear hr hn;generalize Y3 iw ih l 0 0 []=y at*;generalize xG iw ih l=R at*;unfold EU at HE;simp only[List.length_nil]at HE;unfold Gz;go_enter func150,ntmps150;go_wp2_with (fail);have HB:Hid (bz w (w.alloc (.cells (Vj k W H p iw ih A l.length c).toArray 75))):=bR.alloc nR _;refine(HE.o _ (HR.o.below HB.o)).mono ?_;rintro e w1 ⟨rfl,hb⟩
 have HB2:=Hd (HB.o.trans (hb.mono HB.o.size));clear hb HE HB;go_wp2_with (fail);go_ret;exact⟨aI HI.o.symm,HB2.o⟩
end
section
open Go.RowKit fG gm
def Bz(k W H:Int)(p:Nat)(iw ih:Int)(l:List Nat):Int:=
 if k=0 then VW (!xH W H p && !xG iw ih l) else if k=1 then (if eF W H=true then VW (rb p && !xG iw ih l) else 11) else if k=2 then VW (oC iw ih l && !xH W H p) else 11
theorem bel2{w w1 w2:World}(h:bz w w1)(hb:bz w1 w2):bz w w2:=h.trans (hb.mono h.size)
theorem Gy(k W H:Int)(p:Nat)(iw ih:Int)(A:Option Addr)(l:List Nat)(c:Nat)(hp:p<4294967296)(hl:∀z∈l,z<4294967296)(hn:l.length<=maxLen)(w:World)(hr:Row eW w A l) :
  Calls prog 141 #[Gz k W H p iw ih A l.length c] w (aZ (.int .i64 (Bz k W H p iw ih l)) w):=by
 have HF:=Hd (fun w=>GX k W H p iw ih A l.length c w);have HI:=Hd (fun w hr=>Ed k W H p iw ih A l c hn w hr);have HS:=Hd (fun w hr=>Ol iw ih A l c hl hn w hr);have HG:=Hd (fun w=>L8 p hp w);have HM:=Hd (fun b w=>JU b w);have HC:Hid (Bz k W H p iw ih l=if k=0 then VW (!xH W H p && !xG iw ih l) else if k=1 then (if eF W H=true then VW (rb p && !xG iw ih l) else 11) else if k=2 then VW (oC iw ih l && !xH W H p) else 11):=rfl;have kG:Hid (eF W H=decide (1<=W∧1<=H∧W<=4096∧H<=4096)):=rfl;have HR:=Hd hr;clear hp hl hn hr
 generalize Bz k W H p iw ih l=R at*;generalize xH W H p=bf at*;generalize xG iw ih l=bi at*;generalize oC iw ih l=bs at*;generalize rb p=br at*;unfold Gz EU at*;by_cases k0:k=0
 ·subst k0;have HC2:=Hd (HC.o.trans (if_pos rfl));clear HC kG HS HG;go_enter func141,ntmps141;go_wp2_with (fail);refine(HF.o _).mono ?_;rintro e w1 ⟨rfl,hb⟩;have HB:=Hd (Qd hb);have hK:Hid (az w1 w.heap.size [.int .i64 0,.int .i64 W,.int .i64 H,.int .u32 (p:Nat),.int .i64 iw,.int .i64 ih,.slice A l.length c]):=(a0F w 0 W H p iw ih A l.length c _).below hb (by simp);clear hb HF;obtain⟨⟨c0,c1,c2,c3,c4,c5,c6⟩,-,ci⟩:=hK.o.c7;cases bf with
  |true=>
   go_wp2_with (fail);refine(HM.o false _).mono ?_;rintro e w2 ⟨rfl,hb⟩;have HB2:=Hd (bel2 HB.o hb);clear hb HM HI;go_wp2_with (fail);go_ret;exact⟨aB HC2.o.symm,HB2.o⟩
  |false=>
   go_wp2_with (fail);refine(HI.o _ (HR.o.below HB.o)).mono ?_;rintro e w2 ⟨rfl,hb⟩;have HB2:=Hd (bel2 HB.o hb);clear hb HI HB hK c0 c1 c2 c3 c4 c5 c6 ci;go_wp2_with (fail);refine(HM.o (!bi) _).mono ?_;rintro e w3 ⟨rfl,hb⟩;have HB3:=Hd (bel2 HB2.o hb);clear hb HM HB2;go_wp2_with (fail);go_ret;exact⟨aB HC2.o.symm,HB3.o⟩
 ·have q0:(k==0)=false:=by simp;omega
  replace HC:=Hd (HC.o.trans (if_neg k0))
  clear k0;by_cases k1:k=1
  ·subst k1;clear q0;have HC2:=Hd (HC.o.trans (if_pos rfl));clear HC HS;obtain⟨M,hmax,hM⟩:=mx2 W H;obtain⟨m,hmin,hm⟩:=mn2 W H;specialize hM 4096;specialize hm 1;by_cases t1:m<1
   ·have t:decide (m<1)=true:=by simpa using t1
    have kH:Hid (eF W H=false):=kG.o.trans (decide_eq_false (by omega));clear hM hm t1 kG;rw[kH.o]at HC2;clear kH;go_enter func141,ntmps141;go_wp2_with (fail);go_ret;exact⟨aB HC2.o.symm,bR.alloc nR _⟩
   ·have t:decide (m<1)=false:=by simpa using t1
    by_cases t2:4096<M
    ·have t3:decide (4096<M)=true:=by simpa using t2
     have kH:Hid (eF W H=false):=kG.o.trans (decide_eq_false (by omega));clear hM hm t1 t2 kG;rw[kH.o]at HC2;clear kH;go_enter func141,ntmps141;go_wp2_with (fail);go_ret;exact⟨aB HC2.o.symm,bR.alloc nR _⟩
    ·have t3:decide (4096<M)=false:=by simpa using t2
     have kH:Hid (eF W H=true):=kG.o.trans (decide_eq_true (by omega));clear hM hm t1 t2 kG;rw[kH.o]at HC2;clear kH;go_enter func141,ntmps141;go_wp2_with (fail);have hb0:bz w (w.alloc (.cells (Vj 1 W H p iw ih A l.length c).toArray 75)):=bR.alloc nR _;refine(HG.o _).mono ?_;rintro e w1 ⟨rfl,hd⟩;have HB:Hid (bz w w1):=hb0.trans (hd.below _);have hK:Hid (az w1 w.heap.size (Vj 1 W H p iw ih A l.length c)):=hd.blk (a0F w 1 W H p iw ih A l.length c _);clear hd HG hb0 hmax hmin t t3
     obtain⟨⟨c0,c1,c2,c3,c4,c5,c6⟩,-,ci⟩:=hK.o.c7;cases br with
     |false=>
      go_wp2_with (fail);refine(HM.o false _).mono ?_;rintro e w2 ⟨rfl,hb⟩;have HB2:=Hd (bel2 HB.o hb);clear hb HM HI;go_wp2_with (fail);go_ret;exact⟨aB HC2.o.symm,HB2.o⟩
     |true=>
      go_wp2_with (fail);refine(HI.o _ (HR.o.below HB.o)).mono ?_;rintro e w2 ⟨rfl,hb⟩;have HB2:=Hd (bel2 HB.o hb);clear hb HI HB hK c0 c1 c2 c3 c4 c5 c6 ci;go_wp2_with (fail);refine(HM.o (!bi) _).mono ?_;rintro e w3 ⟨rfl,hb⟩;have HB3:=Hd (bel2 HB2.o hb);clear hb HM HB2;go_wp2_with (fail);go_ret;exact⟨aB HC2.o.symm,HB3.o⟩
  ·have q1:(k==1)=false:=by simp;omega
   replace HC:=Hd (HC.o.trans (if_neg k1))
   clear k1 kG HG;by_cases k2:k=2
   ·subst k2;clear q0 q1;have HC2:=Hd (HC.o.trans (if_pos rfl));clear HC;go_enter func141,ntmps141;go_wp2_with (fail);refine(HS.o _ (HR.o.alloc _)).mono ?_;rintro e w1 ⟨rfl,hb⟩;have HB:=Hd (Qd hb);have hK:Hid (az w1 w.heap.size (Vj 2 W H p iw ih A l.length c)):=(a0F w 2 W H p iw ih A l.length c _).below hb (by simp);clear hb HS;obtain⟨⟨c0,c1,c2,c3,c4,c5,c6⟩,-,ci⟩:=hK.o.c7;cases bs with
    |false=>
     go_wp2_with (fail);refine(HM.o false _).mono ?_;rintro e w2 ⟨rfl,hb⟩;have HB2:=Hd (bel2 HB.o hb);clear hb HM HF;go_wp2_with (fail);go_ret;exact⟨aB HC2.o.symm,HB2.o⟩
    |true=>
     go_wp2_with (fail);refine(HF.o _).mono ?_;rintro e w2 ⟨rfl,hb⟩;have HB2:=Hd (bel2 HB.o hb);clear hb HF HB hK c0 c1 c2 c3 c4 c5 c6 ci;go_wp2_with (fail);refine(HM.o (!bf) _).mono ?_;rintro e w3 ⟨rfl,hb⟩;have HB3:=Hd (bel2 HB2.o hb);clear hb HM HB2;go_wp2_with (fail);go_ret;exact⟨aB HC2.o.symm,HB3.o⟩
   ·have q2:(k==2)=false:=by simp;omega
    replace HC:=Hd (HC.o.trans (if_neg k2))
    clear k2 HF HI HS HM HR;go_enter func141,ntmps141;go_wp2_with (fail);go_ret;exact⟨aB HC.o.symm,bR.alloc nR _⟩
end
section
open Go.RowKit fG gm
def IW(k W iw:Int):Int:=if k=1 then W else if k=2 then iw else 0
theorem size_any(k W H:Int)(p:Nat)(iw ih:Int)(A:Option Addr)(n c:Nat)(w:World):Calls prog 21 #[Gz k W H p iw ih A n c] w (aZ (.tuple #[.int .i64 (IW k W iw),.int .i64 (IW k H ih)]) w):=by
 have H1:Hid (IW k W iw=if k=1 then W else if k=2 then iw else 0):=rfl;have H2:Hid (IW k H ih=if k=1 then H else if k=2 then ih else 0):=rfl;generalize IW k W iw=X at*;generalize IW k H ih=Y at*;unfold Gz;by_cases k1:k=1
 ·subst k1;obtain rfl:=H1.o.trans (if_pos rfl);obtain rfl:=H2.o.trans (if_pos rfl);clear H1 H2;go_enter func21,ntmps21;go_wp2_with (fail)
  go_quiet (fail)
  go_wp2_with (fail);go_ret2;exact⟨rfl,(bR.alloc nR _).trans (dP.below ⟨_,rfl⟩ _)⟩
 ·have q1:(k==1)=false:=by simp;omega
  by_cases k2:k=2
  ·subst k2;clear q1;obtain rfl:=H1.o.trans ((if_neg k1).trans (if_pos rfl));obtain rfl:=H2.o.trans ((if_neg k1).trans (if_pos rfl));clear H1 H2 k1;go_enter func21,ntmps21;go_wp2_with (fail)
   go_quiet (fail)
   go_wp2_with (fail);go_ret2;exact⟨rfl,(bR.alloc nR _).trans (dP.below ⟨_,rfl⟩ _)⟩
  ·have q2:(k==2)=false:=by simp;omega
   obtain rfl:=H1.o.trans ((if_neg k1).trans (if_neg k2));obtain rfl:=H2.o.trans ((if_neg k1).trans (if_neg k2));clear H1 H2 k1 k2;go_enter func21,ntmps21;go_wp2_with (fail);go_ret2;exact⟨rfl,bR.alloc nR _⟩
def a3M(k W H:Int)(p:Nat)(iw ih:Int)(l:List Nat)(x y:Int):Nat:=if k=2 then a1D iw ih l x y else if inB (IW k W iw) (IW k H ih) x y=true then p else 0
theorem rU(W H:Int)(p:Nat)(w:World):Calls prog 23 #[.int .i64 W,.int .i64 H,.int .u32 (p:Nat)] w (aZ (Gz 1 W H p 0 0 none 0 0) w):=by
 go_enter func23,ntmps23;go_wp2_with (fail);exact bJ rfl rfl (aY _ _ (by simp) [.int .i64 1,.int .i64 W,.int .i64 H,.int .u32 (p:Nat),.int .i64 0,.int .i64 0,.slice none 0 0] _) underlying75 rfl ag ⟨rfl,bR.alloc nR _⟩
end
section
open Go.RowKit fG gm
theorem a3K(x y z u:Int):∃M:Int,(∀(P:Program) (w:World) (ts:Array TypeId) (t:TypeId),(Builtin.max_ ts t (Vl x y z u).toArray).run P w=.ok (.int .i64 M) w)∧(∀a,M<=a↔x<=a∧y<=a∧z<=a∧u<=a):=by
 refine⟨if u > (if z > (if y > x then y else x) then z else (if y > x then y else x)) then u else (if z > (if y > x then y else x) then z else (if y > x then y else x)),fun P w ts t=>by simp[Builtin.max_,Builtin.max2],fun a=>?_⟩;split<;>split<;>split<;>omega
theorem a3J(x y z u:Int):∃M:Int,(∀(P:Program) (w:World) (ts:Array TypeId) (t:TypeId),(Builtin.min_ ts t (Vl x y z u).toArray).run P w=.ok (.int .i64 M) w)∧(∀a,a<=M↔a<=x∧a<=y∧a<=z∧a<=u):=by
 refine⟨if u<(if z<(if y<x then y else x) then z else (if y<x then y else x)) then u else (if z<(if y<x then y else x) then z else (if y<x then y else x)),fun P w ts t=>by simp[Builtin.min_,Builtin.min2],fun a=>?_⟩;split<;>split<;>split<;>omega
def J8(r:Bx):Bool:=decide ((-16384<=r.a∧-16384<=r.b∧-16384<=r.c∧-16384<=r.d)∧(r.a<=16384∧r.b<=16384∧r.c<=16384∧r.d<=16384))
theorem PU(r:Bx)(w:World):Calls prog 140 #[r.v] w (aZ (.bool (J8 r)) w):=by
 obtain⟨x0,y0,x1,y1⟩:=r;have HC:Hid (J8 ⟨x0,y0,x1,y1⟩=decide ((-16384<=x0∧-16384<=y0∧-16384<=x1∧-16384<=y1)∧(x0<=16384∧y0<=16384∧x1<=16384∧y1<=16384))):=rfl;obtain⟨M,hmax,hM⟩:=a3K x0 y0 x1 y1;obtain⟨m,hmin,hm⟩:=a3J x0 y0 x1 y1;specialize hM 16384;specialize hm (-16384);generalize J8 ⟨x0,y0,x1,y1⟩=R at*;unfold Bx.v;simp only;by_cases t1:-16384<=m
 ·have t:decide (-16384<=m)=true:=by simpa using t1
  have HS:Hid (R=decide (M<=16384)):=HC.o.trans (decide_eq_decide.2 ⟨fun h=>hM.2 h.2,fun h=>⟨hm.1 t1,hM.1 h⟩⟩);generalize hd:decide (M<=16384)=d at*;clear hM hm t1 HC;go_enter func140,ntmps140;go_wp2_with (fail);go_ret;exact⟨aI HS.o.symm,bR.alloc nR _⟩
 ·have t:decide (-16384<=m)=false:=by simpa using t1
  have HS:Hid (R=false):=HC.o.trans (decide_eq_false (fun h=>t1 (hm.2 h.1)));clear hM hm t1 HC;go_enter func140,ntmps140;go_wp2_with (fail);go_ret;exact⟨aI HS.o.symm,bR.alloc nR _⟩
def MI(m:Mp)(op:Int)(hi cl:Bool)(r:Bx)(k W H:Int)(p:Nat)(iw ih:Int)(A:Option Addr)(n c:Nat):Value:=
 .agg (Vc m.a m.b m.c m.d m.e m.f op hi cl r.a r.b r.c r.d k W H p iw ih A n c).toArray
theorem OC(w:World):Calls prog 50 #[] w (aZ (MI Mp.one 255 false false Bx.o 0 0 0 0 0 0 none 0 0) w):=by
 have HO:=Hd (fun w=>ZY w);unfold MI;unfold Mp.v Mp.one Bx.o at*;simp only at*;go_enter func50,ntmps50;go_wp2_with (fail);refine(HO.o _).mono ?_;rintro e w1 ⟨rfl,hb⟩;have HB:=Hd (Qd hb);have hK:Hid (az w1 w.heap.size Va):=(aA w Va _).below hb (by simp);clear hb HO;have hlt:=hK.o.inside
 go_wp2_with (refine ay 77 _ _ rfl rfl rfl _ 0 rfl [.int .i64 65536,.int .i64 0,.int .i64 0,.int .i64 65536,.int .i64 0,.int .i64 0,.int .i64 255,.bool false,.bool false,.int .i64 0,.int .i64 0,.int .i64 0,.int .i64 0,.int .i64 0,.int .i64 0,.int .i64 0,.int .u32 0,.int .i64 0,.int .i64 0,.slice none 0 0] rfl _ hK.o [.int .i64 65536,.int .i64 0,.int .i64 0,.int .i64 65536,.int .i64 0,.int .i64 0,.int .i64 255,.bool false,.bool false,.int .i64 0,.int .i64 0,.int .i64 0,.int .i64 0,.int .i64 0,.int .i64 0,.int .i64 0,.int .u32 0,.int .i64 0,.int .i64 0,.slice none 0 0] rfl (by simp) ag rfl ?_;intro w2 HW HK)
 exact bJ rfl rfl HK.o underlying77 rfl ag ⟨rfl,HW.o.below HB.o nR⟩
def Jw(m:Mp)(op:Int)(cl:Bool)(r:Bx)(lk:Int):Int:=if (m.right&&decide (0<=op∧op<=255))=true then (if cl=true then (if J8 r=true then lk else 11) else (if r=Bx.o then lk else 10)) else 11
end
section
open Go.RowKit fG gm
theorem Gq(m:Mp)(op:Int)(hi cl:Bool)(r:Bx)(k W H:Int)(p:Nat)(iw ih:Int)(A:Option Addr)(l:List Nat)(c:Nat)(hp:p<4294967296)(hl:∀z∈l,z<4294967296)(hn:l.length<=maxLen)(w:World)(hr:Row eW w A l) :
  Calls prog 125 #[MI m op hi cl r k W H p iw ih A l.length c] w (aZ (.int .i64 (Jw m op cl r (Bz k W H p iw ih l))) w):=by
 have HM:=Hd (fun w=>tV m w);have Wl:=Hd (fun w=>PU r w);have HL:=Hd (fun w hr=>Gy k W H p iw ih A l c hp hl hn w hr);have hq:=fun w=>a0A r Bx.o w;have HC:Hid (Jw m op cl r (Bz k W H p iw ih l)=if (m.right&&decide (0<=op∧op<=255))=true then (if cl=true then (if J8 r=true then Bz k W H p iw ih l else 11) else (if decide (r=Bx.o)=true then Bz k W H p iw ih l else 10)) else 11):=by show _=_;unfold Jw;simp only[decide_eq_true_eq]
 have HR:=Hd hr;have hn3:l.length<=9223372036854775807:=by unfold maxLen at hn;omega
 clear hp hl hn hr;generalize Jw m op cl r (Bz k W H p iw ih l)=R at*;generalize Bz k W H p iw ih l=K at*;generalize J8 r=z at*;generalize decide (r=Bx.o)=u at*;generalize m.right=y at*;unfold MI;unfold Bx.v Bx.o at hq;obtain⟨ma,mb,mc,md,me,mf⟩:=m;obtain⟨x0,y0,x1,y1⟩:=r;unfold Mp.v at HM;unfold Bx.v at Wl;unfold Gz at HL;simp only at HM Wl hq ⊢;have HB0:Hid (bz w (w.alloc (.cells (Vc ma mb mc md me mf op hi cl x0 y0 x1 y1 k W H p iw ih A l.length c).toArray 77))):=bR.alloc nR _
 have oh:Hid (az (w.alloc (.cells (Vc ma mb mc md me mf op hi cl x0 y0 x1 y1 k W H p iw ih A l.length c).toArray 77)) w.heap.size (Vc ma mb mc md me mf op hi cl x0 y0 x1 y1 k W H p iw ih A l.length c)):=aA w (Vc ma mb mc md me mf op hi cl x0 y0 x1 y1 k W H p iw ih A l.length c) _;go_enter func125,ntmps125
 go_wp2_with (first|(with_reducible refine gL ?_;first|(refine wt 67 0 rfl rfl rfl oh.o (Vh ma mb mc md me mf) rfl underlying67 rfl ?_)|(refine wt 69 9 rfl rfl rfl oh.o (Vl x0 y0 x1 y1) rfl underlying69 rfl ?_)|(refine wt 75 13 rfl rfl rfl oh.o (Vj k W H p iw ih A l.length c) rfl underlying75 rfl ?_)));refine(HM.o _).mono ?_;rintro e w1 ⟨rfl,hb⟩;have HB:=Hd (bel2 HB0.o hb);have HK:=Hd (oh.o.below' hb);clear hb HM HB0 oh;have c6:=HK.o.c 6 rfl;have c8:=HK.o.c 8 rfl;have hlt:=HK.o.inside;cases y with
 |false=>
  go_wp2_with (fail);go_ret;exact⟨aB HC.o.symm,HB.o⟩
 |true=>
  by_cases o1:op<0
  ·have t1:decide (op<0)=true:=by simpa using o1
   have HC2:Hid (R=11):=HC.o.trans (if_neg (by rw[decide_eq_false (by omega)];decide));clear o1 HC;go_wp2_with (fail);go_ret;exact⟨aB HC2.o.symm,HB.o⟩
  ·have t1:decide (op<0)=false:=by simpa using o1
   by_cases o2:255<op
   ·have t2:decide (255<op)=true:=by simpa using o2
    have HC2:Hid (R=11):=HC.o.trans (if_neg (by rw[decide_eq_false (by omega)];decide));clear o1 o2 HC;go_wp2_with (fail);go_ret;exact⟨aB HC2.o.symm,HB.o⟩
   ·have t2:decide (255<op)=false:=by simpa using o2
    have HC2:=Hd (HC.o.trans (if_pos (by rw[decide_eq_true (by omega)];rfl)));clear o1 o2 HC;cases cl with
    |true=>
     go_wp2_with (first|(with_reducible refine gL ?_;first|(refine wt 67 0 rfl rfl rfl HK.o (Vh ma mb mc md me mf) rfl underlying67 rfl ?_)|(refine wt 69 9 rfl rfl rfl HK.o (Vl x0 y0 x1 y1) rfl underlying69 rfl ?_)|(refine wt 75 13 rfl rfl rfl HK.o (Vj k W H p iw ih A l.length c) rfl underlying75 rfl ?_)));refine(Wl.o _).mono ?_;rintro e w2 ⟨rfl,hb⟩;have HB2:=Hd (bel2 HB.o hb);have dE:=Hd (HK.o.below' hb);clear hb Wl HB HK c6 c8 hlt;have hlt:=dE.o.inside;have c8:=dE.o.c 8 rfl;cases z with
     |false=>
      go_wp2_with (fail);go_ret;exact⟨aB HC2.o.symm,HB2.o⟩
     |true=>
      go_wp2_with (first|(with_reducible refine gL ?_;first|(refine wt 67 0 rfl rfl rfl dE.o (Vh ma mb mc md me mf) rfl underlying67 rfl ?_)|(refine wt 69 9 rfl rfl rfl dE.o (Vl x0 y0 x1 y1) rfl underlying69 rfl ?_)|(refine wt 75 13 rfl rfl rfl dE.o (Vj k W H p iw ih A l.length c) rfl underlying75 rfl ?_)));refine(HL.o _ (HR.o.below HB2.o)).mono ?_;rintro e w9 ⟨rfl,hb⟩;have uT:=Hd (bel2 HB2.o hb);clear hb HL;go_wp2_with (fail);go_ret;exact⟨aB HC2.o.symm,uT.o⟩
    |false=>
     clear Wl;cases u with
     |false=>
      go_wp2_with (first|(with_reducible refine gL ?_;first|(refine wt 67 0 rfl rfl rfl HK.o (Vh ma mb mc md me mf) rfl underlying67 rfl ?_)|(refine wt 69 9 rfl rfl rfl HK.o (Vl x0 y0 x1 y1) rfl underlying69 rfl ?_)|(refine wt 75 13 rfl rfl rfl HK.o (Vj k W H p iw ih A l.length c) rfl underlying75 rfl ?_)));go_ret;exact⟨aB HC2.o.symm,HB.o⟩
     |true=>
      go_wp2_with (first|(with_reducible refine gL ?_;first|(refine wt 67 0 rfl rfl rfl HK.o (Vh ma mb mc md me mf) rfl underlying67 rfl ?_)|(refine wt 69 9 rfl rfl rfl HK.o (Vl x0 y0 x1 y1) rfl underlying69 rfl ?_)|(refine wt 75 13 rfl rfl rfl HK.o (Vj k W H p iw ih A l.length c) rfl underlying75 rfl ?_)));refine(HL.o _ (HR.o.below HB.o)).mono ?_;rintro e w9 ⟨rfl,hb⟩;have uT:=Hd (bel2 HB.o hb);clear hb HL;go_wp2_with (fail);go_ret;exact⟨aB HC2.o.symm,uT.o⟩
end
section
open Go.RowKit fG gm
def ER(k W H:Int)(p:Nat)(iw ih:Int)(l:List Nat)(w:World)(e:Ending)(w':World):Prop:=∃A9 cap,e=.returned (Gz k W H p iw ih A9 l.length cap)∧Pxs w' w.heap.size A9 l cap∧bz w w'
theorem J7(k W H:Int)(p:Nat)(iw ih:Int)(A:Option Addr)(l:List Nat)(c:Nat)(w:World)(hr:Row eW w A l)(hn:l.length<=20000000):Calls prog 73 #[Gz k W H p iw ih A l.length c] w (ER k W H p iw ih l w):=by
 have HR:=Hd hr;have HC:=Hd (fun w hr=>Ue iw ih A l c w hr hn);unfold VP at HC;unfold ER;have hn3:l.length<=9223372036854775807:=by omega
 clear hr hn;unfold Gz at*;unfold EU at HC;have HB0:Hid (bz w ((w.alloc (.cells (Vj k W H p iw ih A l.length c).toArray 75)).alloc (.cells Vo.toArray 75))):=(bR.alloc nR _).alloc (by simp) _;have oh:Hid (az ((w.alloc (.cells (Vj k W H p iw ih A l.length c).toArray 75)).alloc (.cells Vo.toArray 75)) w.heap.size (Vj k W H p iw ih A l.length c)):=(aA w (Vj k W H p iw ih A l.length c) _).alloc _
 have IK:Hid (az ((w.alloc (.cells (Vj k W H p iw ih A l.length c).toArray 75)).alloc (.cells Vo.toArray 75)) (w.heap.size+1) Vo):=aY (w.alloc _) _ (by simp) Vo _;have iL:Hid (w.heap.size+2<=((w.alloc (.cells (Vj k W H p iw ih A l.length c).toArray 75)).alloc (.cells Vo.toArray 75)).heap.size):=by simp[Hid]
 go_enter func73,ntmps73;go_wp2_with (refine wt 73 4 rfl rfl rfl oh.o (Vn iw ih A l.length c) rfl underlying73 rfl ?_);refine(HC.o _ (HR.o.below HB0.o)).mono ?_;rintro e w1 ⟨A9,c9,rfl,hx,hb⟩;have HX:=Hd hx;have HB:=Hd (bel2 HB0.o hb);have HK:=Hd (oh.o.below' hb);have jd:=Hd (IK.o.below' hb);generalize ((w.alloc (.cells (Vj k W H p iw ih A l.length c).toArray 75)).alloc (.cells Vo.toArray 75))=wz at*;clear hb hx HC HB0 oh IK
 go_wp2_with (first|(refine ay 73 _ _ rfl rfl rfl _ 4 rfl (Vn iw ih A9 l.length c9) rfl _ HK.o (Vj k W H p iw ih A9 l.length c9) rfl (by simp) ag rfl ?_;intro w2 HW2 dE;have HR2:=Hd (HW2.o.blk (by omega) jd.o))|(refine wt 75 0 rfl rfl rfl dE.o (Vj k W H p iw ih A9 l.length c9) rfl underlying75 rfl ?_)|(refine ay 75 _ _ rfl rfl rfl _ 0 rfl (Vj k W H p iw ih A9 l.length c9) rfl _ HR2.o (Vj k W H p iw ih A9 l.length c9) rfl (by simp) ag rfl ?_;intro w3 HW3 dM))
 refine bJ rfl rfl dM.o underlying75 rfl ag ⟨A9,c9,rfl,⟨HX.o.1.Ag fun b o e=>?_,fun b o e=>?_,HX.o.2.2⟩,HW3.o.below (HW2.o.below HB.o nR) (by omega)⟩
 ·have h1:b≠w.heap.size∧b≠w.heap.size+1:=by have:=HX.o.2.1 b o e;have:=iL.o;omega
  exact(HW3.o.far h1.2).trans (HW2.o.far h1.1)
 ·have h1:b≠w.heap.size∧b≠w.heap.size+1:=by have:=HX.o.2.1 b o e;have:=iL.o;omega
  exact⟨by have:=HX.o.2.1 b o e;have:=iL.o;omega,fun j=>(World.frozen?_of_block ((HW3.o.far h1.2).trans (HW2.o.far h1.1))).trans ((HX.o.2.1 b o e).2 j)⟩
def NM(m:Mp)(op:Int)(hi cl:Bool)(r:Bx)(k W H:Int)(p:Nat)(iw ih:Int)(l:List Nat)(w:World)(e:Ending)(w':World):Prop:=∃A9 cap,e=.returned (MI m op hi cl r k W H p iw ih A9 l.length cap)∧Pxs w' w.heap.size A9 l cap∧bz w w'
theorem Jv(m:Mp)(op:Int)(hi cl:Bool)(r:Bx)(k W H:Int)(p:Nat)(iw ih:Int)(A:Option Addr)(l:List Nat)(c:Nat)(w:World)(hr:Row eW w A l)(hn:l.length<=20000000):Calls prog 46 #[MI m op hi cl r k W H p iw ih A l.length c] w (NM m op hi cl r k W H p iw ih l w):=by
 have HR:=Hd hr;have HC:=Hd (fun w hr=>J7 k W H p iw ih A l c w hr hn);unfold ER at HC;unfold NM;have hn3:l.length<=9223372036854775807:=by omega
 clear hr hn;unfold MI at*;unfold Gz at HC;obtain⟨ma,mb,mc,md,me,mf⟩:=m;obtain⟨x0,y0,x1,y1⟩:=r;simp only at HC ⊢;have HB0:Hid (bz w ((w.alloc (.cells (Vc ma mb mc md me mf op hi cl x0 y0 x1 y1 k W H p iw ih A l.length c).toArray 77)).alloc (.cells Va.toArray 77))):=(bR.alloc nR _).alloc (by simp) _
 have oh:Hid (az ((w.alloc (.cells (Vc ma mb mc md me mf op hi cl x0 y0 x1 y1 k W H p iw ih A l.length c).toArray 77)).alloc (.cells Va.toArray 77)) w.heap.size (Vc ma mb mc md me mf op hi cl x0 y0 x1 y1 k W H p iw ih A l.length c)):=(aA w (Vc ma mb mc md me mf op hi cl x0 y0 x1 y1 k W H p iw ih A l.length c) _).alloc _;have IK:Hid (az ((w.alloc (.cells (Vc ma mb mc md me mf op hi cl x0 y0 x1 y1 k W H p iw ih A l.length c).toArray 77)).alloc (.cells Va.toArray 77)) (w.heap.size+1) Va):=aY (w.alloc _) _ (by simp) Va _
 have iL:Hid (w.heap.size+2<=((w.alloc (.cells (Vc ma mb mc md me mf op hi cl x0 y0 x1 y1 k W H p iw ih A l.length c).toArray 77)).alloc (.cells Va.toArray 77)).heap.size):=by simp[Hid]
 go_enter func46,ntmps46;go_wp2_with (refine wt 75 13 rfl rfl rfl oh.o (Vj k W H p iw ih A l.length c) rfl underlying75 rfl ?_);refine(HC.o _ (HR.o.below HB0.o)).mono ?_;rintro e w1 ⟨A9,c9,rfl,hx,hb⟩;have HX:=Hd hx;have HB:=Hd (bel2 HB0.o hb);have HK:=Hd (oh.o.below' hb);have jd:=Hd (IK.o.below' hb);generalize ((w.alloc (.cells (Vc ma mb mc md me mf op hi cl x0 y0 x1 y1 k W H p iw ih A l.length c).toArray 77)).alloc (.cells Va.toArray 77))=wz at*;clear hb hx HC HB0 oh IK
 go_wp2_with (first|(refine ay 75 _ _ rfl rfl rfl _ 13 rfl (Vj k W H p iw ih A9 l.length c9) rfl _ HK.o (Vc ma mb mc md me mf op hi cl x0 y0 x1 y1 k W H p iw ih A9 l.length c9) rfl (by simp) ag rfl ?_;intro w2 HW2 dE;have HR2:=Hd (HW2.o.blk (by omega) jd.o))|(refine wt 77 0 rfl rfl rfl dE.o (Vc ma mb mc md me mf op hi cl x0 y0 x1 y1 k W H p iw ih A9 l.length c9) rfl underlying77 rfl ?_)|(refine ay 77 _ _ rfl rfl rfl _ 0 rfl (Vc ma mb mc md me mf op hi cl x0 y0 x1 y1 k W H p iw ih A9 l.length c9) rfl _ HR2.o (Vc ma mb mc md me mf op hi cl x0 y0 x1 y1 k W H p iw ih A9 l.length c9) rfl (by simp) ag rfl ?_;intro w3 HW3 dM))
 refine bJ rfl rfl dM.o underlying77 rfl ag ⟨A9,c9,rfl,⟨HX.o.1.Ag fun b o e=>?_,fun b o e=>?_,HX.o.2.2⟩,HW3.o.below (HW2.o.below HB.o nR) (by omega)⟩
 ·have h1:b≠w.heap.size∧b≠w.heap.size+1:=by have:=HX.o.2.1 b o e;have:=iL.o;omega
  exact(HW3.o.far h1.2).trans (HW2.o.far h1.1)
 ·have h1:b≠w.heap.size∧b≠w.heap.size+1:=by have:=HX.o.2.1 b o e;have:=iL.o;omega
  exact⟨by have:=HX.o.2.1 b o e;have:=iL.o;omega,fun j=>(World.frozen?_of_block ((HW3.o.far h1.2).trans (HW2.o.far h1.1))).trans ((HX.o.2.1 b o e).2 j)⟩
end
section
open Go.RowKit fG gm
def a3X(k1 W1 H1:Int)(p1:Nat)(iw1 ih1:Int)(l1:List Nat)(k2 W2 H2:Int)(p2:Nat)(iw2 ih2:Int)(l2:List Nat):Bool:=(k1==k2)&&((W1==W2)&&((H1==H2)&&(((p1:Int)==(p2:Int))&&Y3 iw1 ih1 l1 iw2 ih2 l2)))
def a3W(m1:Mp)(op1:Int)(hi1 cl1:Bool)(r1:Bx)(m2:Mp)(op2:Int)(hi2 cl2:Bool)(r2:Bx)(lk:Bool):Bool:=decide (m1=m2)&&(decide (r1=r2)&&((op1==op2)&&((hi1==hi2)&&((cl1==cl2)&&lk))))
end
end Go.Proofs.YthmegninhpihkaaGreat
