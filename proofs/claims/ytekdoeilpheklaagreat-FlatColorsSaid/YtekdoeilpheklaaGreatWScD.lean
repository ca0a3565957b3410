import Derived.Test.YtekdoeilpheklaaGreatWScB
import Derived.Test.YtekdoeilpheklaaGreatWScC
import Derived.Deep.RegionHeld3
import Derived.Laws.Cover3
import Derived.ChangeKeysEq
import Derived.Deep.Grids
import Derived.Deep.DeepCutAuto
import Derived.Deep.CutBlock
set_option maxHeartbeats 16000000
set_option maxRecDepth 100000
open Go.Proofs.Tryz
namespace Go.Proofs.YtekdoeilpheklaaGreat
section
open Go.RowKit
end
section
open Go.RowKit fH fV
theorem CX{a b:List Nat}{k:Nat}(h:a.take k=b.take k)(ha:k<a.length)(hb:k<b.length)(e:a[k]=b[k]):a.take (k+1)=b.take (k+1):=by
 rw[List.take_succ_eq_append_getElem ha,List.take_succ_eq_append_getElem hb,h,e]
theorem Qz{a b:List Nat}{k:Nat}(ha:k<a.length)(hb:k<b.length)(e:¬a[k]=b[k]):decide (a=b)=false:=
 decide_eq_false fun h=>e (by subst h;rfl)
theorem Zg(A1 A2:Option Addr)(l1 l2:List Nat)(c1 c2:Nat)(w:World)(h1:Row eW w A1 l1)(h2:Row eW w A2 l2)(m1:l1.length<=maxLen)(m2:l2.length<=maxLen) :
  Calls prog 152 #[.slice A1 l1.length c1,.slice A2 l2.length c2] w (aJ (.bool (decide (l1=l2))) w):=by
 have HR:=Hd (And.intro h1 h2);have m1:l1.length<=9223372036854775807:=by unfold maxLen at m1;omega
 have m2:l2.length<=9223372036854775807:=by unfold maxLen at m2;omega
 clear h1 h2;by_cases hn:l1.length=l2.length
 ·have q:((l1.length:Int) != (l2.length:Int))=false:=by simp;omega
  have HN:=Hd hn;clear hn;go_enter func152,ntmps152;go_wp2_with (fail);clear q
  go_loopw [13] (fun i wr=>∃k:Nat,k<=l1.length∧i=.int .i64 k∧Hid (l1.take k=l2.take k)∧Hid (dn w wr)) (fun i _=>l1.length - (intOf i).toNat)
  case atStart=>exact⟨0,Nat.zero_le _,rfl,rfl,dn.refl _⟩
  case round=>
   obtain⟨k,hk,rfl,HK,HD⟩:=hrel;by_cases hlt:k<l1.length
   ·have t:decide (k<l1.length)=true:=by simpa using hlt
    have hlt2:k<l2.length:=by rw[←HN.o];exact hlt
    obtain⟨b1,o1,rfl,k1⟩:=(HR.o.1.below (HD.o.below _)).at_ hlt;obtain⟨b2,o2,rfl,k2⟩:=(HR.o.2.below (HD.o.below _)).at_ hlt2;have HS:=Hd (fun e=>CX HK.o hlt hlt2 e);have HO:=Hd (fun e=>Qz hlt hlt2 e);generalize l1[k]=x at*;generalize l2[k]=y at*;unfold eW at k1 k2;by_cases e:x=y
    ·have HS2:=Hd (HS.o e);have q:((x:Int) != (y:Int))=false:=by simp;omega
     clear HS HO e HN;go_wp2_with (fail)
     go_quiet (fail)
     go_wp2_with (fail)
     go_roundw
     case rel=>exact⟨k+1,by omega,by go_num,HS2,HD.o.trans ⟨_,rfl⟩⟩
     case measure=>simp[intOf];omega
    ·have NP:=Hd (HO.o e);have q:((x:Int) != (y:Int))=true:=by simp;omega
     clear HS HO e HN;go_wp2_with (fail)
     go_quiet (fail)
     go_wp2_with (fail);go_ret;exact⟨aG NP.o.symm,(HD.o.trans ⟨_,rfl⟩).below _⟩
   ·obtain rfl:k=l1.length:=by omega
    have HF:Hid (decide (l1=l2)=true):=decide_eq_true (by have:=HK.o;rw[List.take_length,HN.o,List.take_length]at this;exact this);have t:decide (l1.length<l1.length)=false:=by simp
    go_wp2_with (fail);go_ret;exact⟨aG HF.o.symm,HD.o.below _⟩
 ·have q:((l1.length:Int) != (l2.length:Int))=true:=by simp;omega
  have HF:Hid (decide (l1=l2)=false):=decide_eq_false fun e=>hn (by rw[e]);clear hn;go_enter func152,ntmps152;go_wp2_with (fail);go_ret;exact⟨aG HF.o.symm,bR⟩
def TD(W1 H1:Int)(l1:List Nat)(W2 H2:Int)(l2:List Nat):Bool:=decide (W1=W2)&&(decide (H1=H2)&&decide (l1=l2))
theorem Ec(W1 H1:Int)(A1:Option Addr)(l1:List Nat)(c1:Nat)(W2 H2:Int)(A2:Option Addr)(l2:List Nat)(c2:Nat)(w:World)(h1:Row eW w A1 l1)(h2:Row eW w A2 l2)(m1:l1.length<=maxLen)(m2:l2.length<=maxLen) :
  Calls prog 138 #[yl W1 H1 A1 l1.length c1,yl W2 H2 A2 l2.length c2] w (aJ (.bool (TD W1 H1 l1 W2 H2 l2)) w):=by
 have HR:=Hd (And.intro h1 h2);have HE:=Hd (fun w h1 h2=>Zg A1 A2 l1 l2 c1 c2 w h1 h2 m1 m2);have HQ:Hid (TD W1 H1 l1 W2 H2 l2=(decide (W1=W2)&&(decide (H1=H2)&&decide (l1=l2)))):=rfl;clear h1 h2 m1 m2;generalize TD W1 H1 l1 W2 H2 l2=R at*;generalize decide (l1=l2)=y at*;unfold yl;by_cases t1:W1=W2
 ·have q1:(W1==W2)=true:=by simpa using t1
  rw[decide_eq_true t1,Bool.true_and]at HQ;clear t1;by_cases t2:H1=H2
  ·have q2:(H1==H2)=true:=by simpa using t2
   rw[decide_eq_true t2,Bool.true_and]at HQ;clear t2;go_enter func138,ntmps138;go_wp2_with (fail);have HB:Hid (bz w ((w.alloc (.cells (Vn W1 H1 A1 l1.length c1).toArray 47)).alloc (.cells (Vn W2 H2 A2 l2.length c2).toArray 47))):=(bR.alloc nR _).alloc (by simp) _;refine(HE.o _ (HR.o.1.below HB.o) (HR.o.2.below HB.o)).mono ?_;rintro e w2 ⟨rfl,hb⟩;have HB2:=Hd (HB.o.trans (hb.mono HB.o.size));clear hb HE;go_wp2_with (fail);go_ret;exact⟨aG HQ.o.symm,HB2.o⟩
  ·have q2:(H1==H2)=false:=by simpa using t2
   rw[decide_eq_false t2,Bool.false_and]at HQ;clear t2 HE;go_enter func138,ntmps138;go_wp2_with (fail);go_ret;exact⟨aG HQ.o.symm,(bR.alloc nR _).alloc (by simp) _⟩
 ·have q1:(W1==W2)=false:=by simpa using t1
  rw[decide_eq_false t1,Bool.false_and]at HQ;clear t1 HE;go_enter func138,ntmps138;go_wp2_with (fail);go_ret;exact⟨aG HQ.o.symm,(bR.alloc nR _).alloc (by simp) _⟩
theorem Y4:(prog.info? 44).map (fun i=>(i.zero,i.size,i.bytes))=some (some (.int .u32 0),1,4):=by kernel_rfl
theorem DT(A:Option Addr)(n c:Nat)(w:World):(binOp .eql 45 (.slice A n c) (.slice none 0 0)).run prog w=.ok (.bool A.isNone) w:=by
 have h:=run_equal_slice_nil (P:=prog) w 45 _ A n c underlying45;unfold binOp;simp[h,go_sem]
def eWs(z:Nat):List Value:=[eW z]
theorem ru(z:Nat):(eWs z).length=1:=rfl
theorem VW(l:List Nat):l.flatMap eWs=l.map eW:=by
 induction l with
 |nil=>rfl
 |cons x l ih=>rw[List.flatMap_cons,ih,List.map_cons];rfl
theorem aT.a3a{w:World}{A:Option Addr}{l:List Nat}(h:aT 1 eWs w A l):Row eW w A l:=fun hn=>by
 obtain⟨b,off,e,hc⟩:=h hn;refine⟨b,off,e,fun j hj=>?_⟩;have:=hc j hj 0 (eW l[j]) rfl
 rwa [Nat.mul_one,Nat.add_zero]at this
theorem Row.BC{w w':World}{A:Option Addr}{l:List Nat}(h:Row eW w A l)(hb:∀b o,A=some ⟨b,o,none⟩->w'.heap[b]?=w.heap[b]?):Row eW w' A l:=fun hn=>by
 obtain⟨b,off,e,hc⟩:=h hn;refine⟨b,off,e,fun j hj=>?_⟩;rw[←hc j hj];simp only[World.cell?,hb b off e]
def Pxs(w:World)(base:Nat)(A:Option Addr)(l:List Nat)(c:Nat):Prop:=Row eW w A l∧(∀b o,A=some ⟨b,o,none⟩->base<=b∧∀j,w.frozen? ⟨b,j,none⟩=false)∧(A=none->c=0)∧l.length<=c∧c<=maxLen
def GM(l:List Nat)(w:World)(e:Ending)(w':World):Prop:=∃A9 cap,e=.returned (.slice A9 l.length cap)∧Pxs w' w.heap.size A9 l cap∧bz w w'
theorem clone_any(A:Option Addr)(l:List Nat)(c:Nat)(w:World)(hr:Row eW w A l)(hn2:l.length<=20000000):Calls prog 141 #[.slice A l.length c] w (GM l w):=by
 unfold GM;cases A with
 |none=>
  obtain rfl:l=[]:=by
   by_cases h:0<l.length
   ·obtain⟨b,o,e,_⟩:=hr h;cases e
   ·exact List.eq_nil_of_length_eq_zero (by omega)
  clear hr hn2;have hq:∀w,(binOp .eql 45 (.slice none 0 c) (.slice none 0 0)).run prog w=.ok (.bool true) w:=fun w=>DT none 0 c w;simp only[List.length_nil];go_enter func141,ntmps141;go_wp2_with (fail);go_ret;exact⟨none,0,rfl,⟨Row.none_ rfl,(fun _ _ h=>nomatch h),(fun _=>rfl),nR,by unfold maxLen;omega⟩,bR⟩
 |some a=>
  have hl:aj 44 1 eWs (w.alloc (.cells #[] 44)) w.heap.size (.slice (some ⟨w.heap.size,0,none⟩) 0 0) []:=aj.lit ru w [] nR (by simp);obtain⟨i,hi,hz,hsize,hby⟩:=info_parts Y4
  obtain⟨v',w',hrun,ho,hg,hnil,-⟩:=run_append_own_at (P:=prog) (w.alloc (.cells #[] 44)) w.heap.size 45 45 44 i (.int .u32 0) 1 4 underlying45 hi hz hsize hby rfl (by decide) _ 0 [] hl a l.length c (l.map eW) (by simp) (by
    intro j u hj;obtain⟨h1,h2⟩:=List.getElem?_eq_some_iff.1 hj;rw[List.length_map]at h1
    obtain⟨b,off,e,hc⟩:=(hr.alloc (.cells #[] 44)) (by omega)
    obtain rfl:=Option.some.inj e;have e2:(⟨b,off,none⟩:Addr).add j=⟨b,off+j,none⟩:=by unfold Addr.add;split<;>simp_all
    rw[e2,hc j h1,←h2,List.getElem_map]) (by
    intro u hu;obtain⟨z,_,rfl⟩:=List.mem_map.1 hu
    rfl) (by unfold maxLen;omega) (by omega) (by simp)
  have HO:Hid (aj 44 1 eWs w' w.heap.size v' l):=by
   rw[Nat.zero_add,List.nil_append,←VW]at ho;exact ho
  have HB:Hid (bz w w'):=by
   have h1:bz w (w.alloc (.cells #[] 44)):=bR.alloc nR _;exact h1.grown hg (by simp) (fun j hj=>by cases hj;exact nR)
  have hn3:l.length<=9223372036854775807:=by omega
  have HNI:=Hd hnil;clear hr hl ho hg hn2 hnil hi hz hsize hby;have hq:∀w,(binOp .eql 45 (.slice (some a) l.length c) (.slice none 0 0)).run prog w=.ok (.bool false) w:=fun w=>DT _ _ _ w;go_enter func141,ntmps141;go_wp2_with (at_builtin;refine bD rfl _ _ 45 45 45 rfl rfl _ _ _ _ rfl rfl hrun ?_;clear hrun);go_ret;obtain⟨A9,c9,rfl,h1,h2,h3⟩:=HO.o.row ru;refine⟨A9,c9,rfl,⟨h3.a3a,(fun b o e=>?_),(fun e=>?_),h1,h2⟩,HB.o⟩
  ·subst e;refine⟨(HO.o.block rfl).1,fun j=>?_⟩;rcases HO.o.2 with ⟨h,_⟩|⟨g,cap,cur,h,hg,hgg,_⟩
   ·injection h with h _ _;cases h
   ·injection h with h _ _
    cases h;exact frozen_of_row _ _ _ _ _ hgg
  ·subst e;rcases HO.o.2 with ⟨h,_⟩|⟨g,cap,cur,h,_⟩
   ·injection h
   ·injection h with h _ _;cases h
def Ye(W H:Int)(l:List Nat)(w:World)(e:Ending)(w':World):Prop:=∃A9 cap,e=.returned (yl W H A9 l.length cap)∧Pxs w' w.heap.size A9 l cap∧bz w w'
theorem WN(W H:Int)(A:Option Addr)(l:List Nat)(c:Nat)(w:World)(hr:Row eW w A l)(hn2:l.length<=20000000):Calls prog 124 #[yl W H A l.length c] w (Ye W H l w):=by
 have HR:=Hd hr;have HC:=Hd (fun w hr=>clone_any A l c w hr hn2);unfold GM at HC;unfold Ye;have hn3:l.length<=9223372036854775807:=by omega
 clear hr hn2;unfold yl;go_enter func124,ntmps124;go_wp2_with (fail)
 obtain⟨w1,hw1⟩:=aB (((w.alloc (.cells (Vn W H A l.length c).toArray 47)).alloc (.cells Vu.toArray 47)))
 have HB1:Hid (bz w w1):=by rw[←hw1];exact(bR.alloc nR _).alloc (by simp) _
 have KM:Hid (ax w1 w.heap.size (Vn W H A l.length c)):=by rw[←hw1];exact(az w (Vn W H A l.length c) _).alloc _
 have KR:Hid (ax w1 (w.heap.size+1) Vu):=by rw[←hw1];exact aQ (w.alloc _) _ (by simp) Vu _
 rw[hw1];clear hw1;obtain⟨⟨c0,c1,c2⟩,-,ci⟩:=KM.o.c3;have a0u:Hid (bz w w1.drew):=HB1.o.drew;have KMd:Hid (ax w1.drew w.heap.size (Vn W H A l.length c)):=KM.o;have KRd:Hid (ax w1.drew (w.heap.size+1) Vu):=KR.o
 go_region_held3 (fun w'=>w'.cell? ⟨w.heap.size,0,none⟩=some (.int .i64 W)∧w'.cell? ⟨w.heap.size,1,none⟩=some (.int .i64 H)∧w'.cell? ⟨w.heap.size,2,none⟩=some (.slice A l.length c))
  (first|exact⟨KMd.o.c3.1.1,KMd.o.c3.1.2.1,KMd.o.c3.1.2.2⟩|exact⟨x0,x1,x2⟩|go_keep)
  ((first|(go_at_call 141;refine(HC.o _ (HR.o.below a0u.o)).mono ?_;rintro e w2 ⟨A9,Ry,rfl,hx9,aS⟩;have k2:ax w2 w.heap.size (Vn W H A l.length c):=KMd.o.below' aS;have k3:ax w2 (w.heap.size+1) Vu:=KRd.o.below' aS;have x0:w2.cell? ⟨w.heap.size,0,none⟩=some (.int .i64 W):=k2.c3.1.1;have x1:w2.cell? ⟨w.heap.size,1,none⟩=some (.int .i64 H):=k2.c3.1.2.1;have x2:w2.cell? ⟨w.heap.size,2,none⟩=some (.slice A l.length c):=k2.c3.1.2.2;have y0:w2.cell? ⟨w.heap.size+1,0,none⟩=some (.int .i64 0):=k3.c3.1.1;have y1:w2.cell? ⟨w.heap.size+1,1,none⟩=some (.int .i64 0):=k3.c3.1.2.1;have y2:w2.cell? ⟨w.heap.size+1,2,none⟩=some (.slice none 0 0):=k3.c3.1.2.2;have z0:w2.frozen? ⟨w.heap.size+1,0,none⟩=false:=k3.c3.2.1.1;have z1:w2.frozen? ⟨w.heap.size+1,1,none⟩=false:=k3.c3.2.1.2.1;have z2:w2.frozen? ⟨w.heap.size+1,2,none⟩=false:=k3.c3.2.1.2.2;have hlt2:w.heap.size+1<w2.heap.size:=k3.c3.2.2)))
 have hz1:w1.drew.heap.size=w1.heap.size:=rfl
 have HX:Hid (Pxs (((w2.setCell ⟨w.heap.size+1,0,none⟩ (.int .i64 W)).setCell ⟨w.heap.size+1,1,none⟩ (.int .i64 H)).setCell ⟨w.heap.size+1,2,none⟩ (.slice A9 l.length Ry)) w.heap.size A9 l Ry):=by
  refine⟨hx9.1.BC fun b o e=>?_,fun b o e=>⟨Nat.le_trans a0u.o.size (hx9.2.1 b o e).1,fun j=>?_⟩,hx9.2.2⟩
  ·have hne:b≠w.heap.size+1:=by have:=hx9.2.1 b o e;have:=KR.o.inside;have:w1.drew.heap.size=w1.heap.size:=rfl;omega
   rw[Below.heap_setCell _ _ _ _ hne,Below.heap_setCell _ _ _ _ hne,Below.heap_setCell _ _ _ _ hne]
  ·refine(World.frozen?_of_block ?_).trans ((hx9.2.1 b o e).2 j);have hne:b≠w.heap.size+1:=by have:=hx9.2.1 b o e;have:=KR.o.inside;have:w1.drew.heap.size=w1.heap.size:=rfl;omega
   rw[Below.heap_setCell _ _ _ _ hne,Below.heap_setCell _ _ _ _ hne,Below.heap_setCell _ _ _ _ hne]
 have HB2:Hid (bz w (((w2.setCell ⟨w.heap.size+1,0,none⟩ (.int .i64 W)).setCell ⟨w.heap.size+1,1,none⟩ (.int .i64 H)).setCell ⟨w.heap.size+1,2,none⟩ (.slice A9 l.length Ry))):=
  cO (cO (cO (a0u.o.trans (aS.mono a0u.o.size)) (by omega)) (by omega)) (by omega)
 have HK:=Hd (((k3.set 0 (.int .i64 W)).set 1 (.int .i64 H)).set 2 (.slice A9 l.length Ry));clear hx9 aS k2 k3 x0 x1 x2 y0 y1 y2 z0 z1 z2 hlt2 c0 c1 c2 ci;generalize (((w2.setCell ⟨w.heap.size+1,0,none⟩ (.int .i64 W)).setCell ⟨w.heap.size+1,1,none⟩ (.int .i64 H)).setCell ⟨w.heap.size+1,2,none⟩ (.slice A9 l.length Ry))=w5 at*;go_wp2_with (fail);exact bG rfl rfl HK.o underlying47 rfl af ⟨A9,Ry,rfl,HX.o,HB2.o⟩
end
section
open Go.RowKit fH fV
def Dc(k W H:Int)(p:Nat)(iw ih:Int)(A:Option Addr)(n c:Nat):Value:=.agg (Vk k W H p iw ih A n c).toArray
theorem ZB(w:World)(k W H:Int)(p:Nat)(iw ih:Int)(A:Option Addr)(n c:Nat)(T:TypeId):ax (w.alloc (.cells (Vk k W H p iw ih A n c).toArray T)) w.heap.size (Vk k W H p iw ih A n c):=
 az w (Vk k W H p iw ih A n c) T
theorem ax.c7{w:World}{g:Nat}{a b c d e f h:Value}(hB:ax w g [a,b,c,d,e,f,h]):(w.cell? ⟨g,0,none⟩=some a∧w.cell? ⟨g,1,none⟩=some b∧w.cell? ⟨g,2,none⟩=some c∧w.cell? ⟨g,3,none⟩=some d∧w.cell? ⟨g,4,none⟩=some e∧w.cell? ⟨g,5,none⟩=some f∧w.cell? ⟨g,6,none⟩=some h) ∧
  (w.frozen? ⟨g,0,none⟩=false∧w.frozen? ⟨g,1,none⟩=false∧w.frozen? ⟨g,2,none⟩=false∧w.frozen? ⟨g,3,none⟩=false∧w.frozen? ⟨g,4,none⟩=false∧w.frozen? ⟨g,5,none⟩=false∧w.frozen? ⟨g,6,none⟩=false)∧g<w.heap.size:=
 ⟨⟨hB.cell 0,hB.cell 1,hB.cell 2,hB.cell 3,hB.cell 4,hB.cell 5,hB.cell 6⟩,⟨hB.free 0,hB.free 1,hB.free 2,hB.free 3,hB.free 4,hB.free 5,hB.free 6⟩,hB.inside⟩
def OO(b:Bool):Int:=if b=true then 0 else 10
theorem L6(b:Bool)(w:World):Calls prog 158 #[.bool b] w (aJ (.int .i64 (OO b)) w):=by
 cases b
 all_goals
  go_enter func158,ntmps158;go_wp2_with (fail);go_ret;exact⟨rfl,bR⟩
def sZ(W H:Int)(p:Nat):Bool:=decide (¬(W=0∧H=0∧p=0))
theorem I5(k W H:Int)(p:Nat)(iw ih:Int)(A:Option Addr)(n c:Nat)(w:World):Calls prog 159 #[Dc k W H p iw ih A n c] w (aJ (.bool (sZ W H p)) w):=by
 obtain⟨R,hR⟩:=aB (sZ W H p)
 rw[hR];have HR:=Hd hR;clear hR;unfold Dc;by_cases t1:W=0
 ·have q1:(W != 0)=false:=by simp;omega
  by_cases t2:H=0
  ·have q2:(H != 0)=false:=by simp;omega
   have HF:Hid (R=((p:Int) != 0)):=by
    show R=_;rw[←HR.o,Bool.eq_iff_iff];unfold sZ;simp[t1,t2]
    try omega
   generalize hq:((p:Int) != 0)=y at HF;obtain rfl:=HF.o;clear t1 t2 HR HF;go_enter func159,ntmps159;go_wp2_with (fail);go_ret;exact⟨rfl,bR.alloc nR _⟩
  ·have q2:(H != 0)=true:=by simp;omega
   obtain rfl:R=true:=by rw[←HR.o];exact decide_eq_true (fun h=>t2 h.2.1)
   clear t1 t2 HR;go_enter func159,ntmps159;go_wp2_with (fail);go_ret;exact⟨rfl,bR.alloc nR _⟩
 ·have q1:(W != 0)=true:=by simp;omega
  obtain rfl:R=true:=by rw[←HR.o];exact decide_eq_true (fun h=>t1 h.1)
  clear t1 HR;go_enter func159,ntmps159;go_wp2_with (fail);go_ret;exact⟨rfl,bR.alloc nR _⟩
def sW(iw ih:Int)(l:List Nat):Bool:=!TD iw ih l 0 0 []
theorem Fz(k W H:Int)(p:Nat)(iw ih:Int)(A:Option Addr)(l:List Nat)(c:Nat)(hn:l.length<=maxLen)(w:World)(hr:Row eW w A l):Calls prog 160 #[Dc k W H p iw ih A l.length c] w (aJ (.bool (sW iw ih l)) w):=by
 have HE:=Hd (fun w h1=>Ec iw ih A l c 0 0 none [] 0 w h1 (Row.none_ rfl) hn (by simp));have HR:=Hd hr;have HI:Hid (sW iw ih l=!TD iw ih l 0 0 []):=rfl;clear hr hn;generalize TD iw ih l 0 0 []=y at*;generalize sW iw ih l=R at*;unfold yl at HE;simp only[List.length_nil]at HE;unfold Dc;go_enter func160,ntmps160;go_wp2_with (fail);have HB:Hid (bz w (w.alloc (.cells (Vk k W H p iw ih A l.length c).toArray 49))):=bR.alloc nR _;refine(HE.o _ (HR.o.below HB.o)).mono ?_;rintro e w1 ⟨rfl,hb⟩
 have HB2:=Hd (HB.o.trans (hb.mono HB.o.size));clear hb HE HB;go_wp2_with (fail);go_ret;exact⟨aG HI.o.symm,HB2.o⟩
end
section
open Go.RowKit fH fV
def uP(k W H:Int)(p:Nat)(iw ih:Int)(l:List Nat):Int:=
 if k=0 then OO (!sZ W H p && !sW iw ih l) else if k=1 then (if dR W H=true then OO (rb p && !sW iw ih l) else 11) else if k=2 then OO (jE iw ih l && !sZ W H p) else 11
theorem bel2{w w1 w2:World}(h:bz w w1)(hb:bz w1 w2):bz w w2:=h.trans (hb.mono h.size)
theorem IL(k W H:Int)(p:Nat)(iw ih:Int)(A:Option Addr)(l:List Nat)(c:Nat)(hp:p<4294967296)(hl:∀z∈l,z<4294967296)(hn:l.length<=maxLen)(w:World)(hr:Row eW w A l) :
  Calls prog 150 #[Dc k W H p iw ih A l.length c] w (aJ (.int .i64 (uP k W H p iw ih l)) w):=by
 have HF:=Hd (fun w=>I5 k W H p iw ih A l.length c w);have HI:=Hd (fun w hr=>Fz k W H p iw ih A l c hn w hr);have HS:=Hd (fun w hr=>Qa iw ih A l c hl hn w hr);have HG:=Hd (fun w=>Oi p hp w);have HM:=Hd (fun b w=>L6 b w);have HC:Hid (uP k W H p iw ih l=if k=0 then OO (!sZ W H p && !sW iw ih l) else if k=1 then (if dR W H=true then OO (rb p && !sW iw ih l) else 11) else if k=2 then OO (jE iw ih l && !sZ W H p) else 11):=rfl;have kS:Hid (dR W H=decide (1<=W∧1<=H∧W<=4096∧H<=4096)):=rfl;have HR:=Hd hr;clear hp hl hn hr
 generalize uP k W H p iw ih l=R at*;generalize sZ W H p=bf at*;generalize sW iw ih l=bi at*;generalize jE iw ih l=bs at*;generalize rb p=br at*;unfold Dc yl at*;by_cases k0:k=0
 ·subst k0;have HC2:=Hd (HC.o.trans (if_pos rfl));clear HC kS HS HG;go_enter func150,ntmps150;go_wp2_with (fail);refine(HF.o _).mono ?_;rintro e w1 ⟨rfl,hb⟩;have HB:=Hd (Gj hb);have hK:Hid (ax w1 w.heap.size [.int .i64 0,.int .i64 W,.int .i64 H,.int .u32 (p:Nat),.int .i64 iw,.int .i64 ih,.slice A l.length c]):=(ZB w 0 W H p iw ih A l.length c _).below hb (by simp);clear hb HF;obtain⟨⟨c0,c1,c2,c3,c4,c5,c6⟩,-,ci⟩:=hK.o.c7;cases bf with
  |true=>
   go_wp2_with (fail);refine(HM.o false _).mono ?_;rintro e w2 ⟨rfl,hb⟩;have HB2:=Hd (bel2 HB.o hb);clear hb HM HI;go_wp2_with (fail);go_ret;exact⟨aA HC2.o.symm,HB2.o⟩
  |false=>
   go_wp2_with (fail);refine(HI.o _ (HR.o.below HB.o)).mono ?_;rintro e w2 ⟨rfl,hb⟩;have HB2:=Hd (bel2 HB.o hb);clear hb HI HB hK c0 c1 c2 c3 c4 c5 c6 ci;go_wp2_with (fail);refine(HM.o (!bi) _).mono ?_;rintro e w3 ⟨rfl,hb⟩;have HB3:=Hd (bel2 HB2.o hb);clear hb HM HB2;go_wp2_with (fail);go_ret;exact⟨aA HC2.o.symm,HB3.o⟩
 ·have q0:(k==0)=false:=by simp;omega
  replace HC:=Hd (HC.o.trans (if_neg k0))
  clear k0;by_cases k1:k=1
  ·subst k1;clear q0;have HC2:=Hd (HC.o.trans (if_pos rfl));clear HC HS;obtain⟨M,hmax,hM⟩:=mx2 W H;obtain⟨m,hmin,hm⟩:=mn2 W H;specialize hM 4096;specialize hm 1;by_cases t1:m<1
   ·have t:decide (m<1)=true:=by simpa using t1
    have nK:Hid (dR W H=false):=kS.o.trans (decide_eq_false (by omega));clear hM hm t1 kS;rw[nK.o]at HC2;clear nK;go_enter func150,ntmps150;go_wp2_with (fail);go_ret;exact⟨aA HC2.o.symm,bR.alloc nR _⟩
   ·have t:decide (m<1)=false:=by simpa using t1
    by_cases t2:4096<M
    ·have t3:decide (4096<M)=true:=by simpa using t2
     have nK:Hid (dR W H=false):=kS.o.trans (decide_eq_false (by omega));clear hM hm t1 t2 kS;rw[nK.o]at HC2;clear nK;go_enter func150,ntmps150;go_wp2_with (fail);go_ret;exact⟨aA HC2.o.symm,bR.alloc nR _⟩
    ·have t3:decide (4096<M)=false:=by simpa using t2
     have nK:Hid (dR W H=true):=kS.o.trans (decide_eq_true (by omega));clear hM hm t1 t2 kS;rw[nK.o]at HC2;clear nK;go_enter func150,ntmps150;go_wp2_with (fail);have hb0:bz w (w.alloc (.cells (Vk 1 W H p iw ih A l.length c).toArray 49)):=bR.alloc nR _;refine(HG.o _).mono ?_;rintro e w1 ⟨rfl,hd⟩;have HB:Hid (bz w w1):=hb0.trans (hd.below _);have hK:Hid (ax w1 w.heap.size (Vk 1 W H p iw ih A l.length c)):=hd.blk (ZB w 1 W H p iw ih A l.length c _);clear hd HG hb0 hmax hmin t t3
     obtain⟨⟨c0,c1,c2,c3,c4,c5,c6⟩,-,ci⟩:=hK.o.c7;cases br with
     |false=>
      go_wp2_with (fail);refine(HM.o false _).mono ?_;rintro e w2 ⟨rfl,hb⟩;have HB2:=Hd (bel2 HB.o hb);clear hb HM HI;go_wp2_with (fail);go_ret;exact⟨aA HC2.o.symm,HB2.o⟩
     |true=>
      go_wp2_with (fail);refine(HI.o _ (HR.o.below HB.o)).mono ?_;rintro e w2 ⟨rfl,hb⟩;have HB2:=Hd (bel2 HB.o hb);clear hb HI HB hK c0 c1 c2 c3 c4 c5 c6 ci;go_wp2_with (fail);refine(HM.o (!bi) _).mono ?_;rintro e w3 ⟨rfl,hb⟩;have HB3:=Hd (bel2 HB2.o hb);clear hb HM HB2;go_wp2_with (fail);go_ret;exact⟨aA HC2.o.symm,HB3.o⟩
  ·have q1:(k==1)=false:=by simp;omega
   replace HC:=Hd (HC.o.trans (if_neg k1))
   clear k1 kS HG;by_cases k2:k=2
   ·subst k2;clear q0 q1;have HC2:=Hd (HC.o.trans (if_pos rfl));clear HC;go_enter func150,ntmps150;go_wp2_with (fail);refine(HS.o _ (HR.o.alloc _)).mono ?_;rintro e w1 ⟨rfl,hb⟩;have HB:=Hd (Gj hb);have hK:Hid (ax w1 w.heap.size (Vk 2 W H p iw ih A l.length c)):=(ZB w 2 W H p iw ih A l.length c _).below hb (by simp);clear hb HS;obtain⟨⟨c0,c1,c2,c3,c4,c5,c6⟩,-,ci⟩:=hK.o.c7;cases bs with
    |false=>
     go_wp2_with (fail);refine(HM.o false _).mono ?_;rintro e w2 ⟨rfl,hb⟩;have HB2:=Hd (bel2 HB.o hb);clear hb HM HF;go_wp2_with (fail);go_ret;exact⟨aA HC2.o.symm,HB2.o⟩
    |true=>
     go_wp2_with (fail);refine(HF.o _).mono ?_;rintro e w2 ⟨rfl,hb⟩;have HB2:=Hd (bel2 HB.o hb);clear hb HF HB hK c0 c1 c2 c3 c4 c5 c6 ci;go_wp2_with (fail);refine(HM.o (!bf) _).mono ?_;rintro e w3 ⟨rfl,hb⟩;have HB3:=Hd (bel2 HB2.o hb);clear hb HM HB2;go_wp2_with (fail);go_ret;exact⟨aA HC2.o.symm,HB3.o⟩
   ·have q2:(k==2)=false:=by simp;omega
    replace HC:=Hd (HC.o.trans (if_neg k2))
    clear k2 HF HI HS HM HR;go_enter func150,ntmps150;go_wp2_with (fail);go_ret;exact⟨aA HC.o.symm,bR.alloc nR _⟩
end
section
open Go.RowKit fH fV
def pV(k W iw:Int):Int:=if k=1 then W else if k=2 then iw else 0
theorem size_any(k W H:Int)(p:Nat)(iw ih:Int)(A:Option Addr)(n c:Nat)(w:World):Calls prog 44 #[Dc k W H p iw ih A n c] w (aJ (.tuple #[.int .i64 (pV k W iw),.int .i64 (pV k H ih)]) w):=by
 have H1:Hid (pV k W iw=if k=1 then W else if k=2 then iw else 0):=rfl;have H2:Hid (pV k H ih=if k=1 then H else if k=2 then ih else 0):=rfl;generalize pV k W iw=X at*;generalize pV k H ih=Y at*;unfold Dc;by_cases k1:k=1
 ·subst k1;obtain rfl:=H1.o.trans (if_pos rfl);obtain rfl:=H2.o.trans (if_pos rfl);clear H1 H2;go_enter func44,ntmps44;go_wp2_with (fail)
  go_quiet (fail)
  go_wp2_with (fail);go_ret2;exact⟨rfl,(bR.alloc nR _).trans (dn.below ⟨_,rfl⟩ _)⟩
 ·have q1:(k==1)=false:=by simp;omega
  by_cases k2:k=2
  ·subst k2;clear q1;obtain rfl:=H1.o.trans ((if_neg k1).trans (if_pos rfl));obtain rfl:=H2.o.trans ((if_neg k1).trans (if_pos rfl));clear H1 H2 k1;go_enter func44,ntmps44;go_wp2_with (fail)
   go_quiet (fail)
   go_wp2_with (fail);go_ret2;exact⟨rfl,(bR.alloc nR _).trans (dn.below ⟨_,rfl⟩ _)⟩
  ·have q2:(k==2)=false:=by simp;omega
   obtain rfl:=H1.o.trans ((if_neg k1).trans (if_neg k2));obtain rfl:=H2.o.trans ((if_neg k1).trans (if_neg k2));clear H1 H2 k1 k2;go_enter func44,ntmps44;go_wp2_with (fail);go_ret2;exact⟨rfl,bR.alloc nR _⟩
def atB(X Y x y:Int):Bool:=(Bx.nrm ⟨0,0,X,Y⟩).has x y
theorem a1V(X Y x y:Int):atB X Y x y=inB X Y x y:=by
 unfold atB Bx.nrm inB;by_cases h:Bx.emp ⟨0,0,X,Y⟩=true
 ·rw[if_pos h];unfold Bx.emp at h;simp only[Bool.or_eq_true,decide_eq_true_eq]at h;unfold Bx.has Bx.o;rw[Bool.eq_iff_iff];simp only[Bool.and_eq_true,decide_eq_true_eq];omega
 ·rw[if_neg h]
def uQ(k W H:Int)(p:Nat)(iw ih:Int)(l:List Nat)(x y:Int):Nat:=if k=2 then yf iw ih l x y else if inB (pV k W iw) (pV k H ih) x y=true then p else 0
theorem Vx(k W H:Int)(p:Nat)(iw ih:Int)(A:Option Addr)(l:List Nat)(c:Nat)(x y:Int)(hk:k=2->iD iw ih l.length=true)(hn:l.length<=maxLen)(w:World)(hr:Row eW w A l) :
  Calls prog 34 #[Dc k W H p iw ih A l.length c,.int .i64 x,.int .i64 y] w (aJ (.int .u32 (uQ k W H p iw ih l x y:Nat)) w):=by
 have HR:=Hd hr;have HA:Hid (uQ k W H p iw ih l x y=if k=2 then yf iw ih l x y else if inB (pV k W iw) (pV k H ih) x y=true then p else 0):=rfl;generalize uQ k W H p iw ih l x y=R at*;by_cases k2:k=2
 ·have HT:=Hd (fun w hr=>a1U iw ih A l c x y (hk k2) hn w hr);subst k2;have HA2:=Hd (HA.o.trans (if_pos rfl));clear HA hk hr hn;unfold Dc;unfold yl at HT;generalize yf iw ih l x y=z at*;go_enter func34,ntmps34;go_wp2_with (fail);refine(HT.o _ (HR.o.alloc _)).mono ?_;rintro e w1 ⟨rfl,hb⟩;have HB:=Hd (Gj hb);clear hb HT;go_wp2_with (fail);go_ret;exact⟨aA (by rw[HA2.o]),HB.o⟩
 ·have q2:(k==2)=false:=by simp;omega
  have HS:=Hd (fun w=>size_any k W H p iw ih A l.length c w);have HA2:=Hd (HA.o.trans (if_neg k2));have HO:=Hd (fun w=>a0K ⟨0,0,pV k W iw,pV k H ih⟩ w);have HH:=Hd (fun w=>MM (Bx.nrm ⟨0,0,pV k W iw,pV k H ih⟩) x y w);have HE:Hid ((Bx.nrm ⟨0,0,pV k W iw,pV k H ih⟩).has x y=inB (pV k W iw) (pV k H ih) x y):=a1V _ _ _ _;clear HA hk hr hn k2;generalize inB (pV k W iw) (pV k H ih) x y=b at*;generalize Bx.nrm ⟨0,0,pV k W iw,pV k H ih⟩=r at*;generalize pV k W iw=X at*;generalize pV k H ih=Y at*;rw[HE.o]at HH;clear HE;obtain⟨r0,r1,r2,r3⟩:=r;unfold Dc at*
  unfold Bx.v at HO HH;simp only at HO HH;go_enter func34,ntmps34;go_wp2_with (fail);refine(HS.o _).mono ?_;rintro e w1 ⟨rfl,hb⟩;have HB:=Hd (Gj hb);have hK:Hid (ax w1 w.heap.size (Vk k W H p iw ih A l.length c)):=(ZB w k W H p iw ih A l.length c _).below hb (by simp);clear hb HS;go_wp2_with (fail);refine(HO.o _).mono ?_;rintro e w2 ⟨rfl,hb⟩;have HB2:=Hd (bel2 HB.o hb);have hK2:=Hd (hK.o.below' hb);clear hb HO HB hK;go_wp2_with (fail);refine(HH.o _).mono ?_;rintro e w3 ⟨rfl,hb⟩;have HB3:=Hd (bel2 HB2.o hb);have hK3:=Hd (hK2.o.below' hb);clear hb HH HB2 hK2
  obtain⟨⟨c0,c1,c2,c3,c4,c5,c6⟩,-,ci⟩:=hK3.o.c7;cases b with
  |true=>
   go_wp2_with (fail);go_ret;exact⟨aA (by rw[HA2.o];rfl),HB3.o⟩
  |false=>
   go_wp2_with (fail);go_ret;exact⟨aA (by rw[HA2.o];rfl),HB3.o⟩
theorem Me(W H:Int)(p:Nat)(w:World):Calls prog 20 #[.int .i64 W,.int .i64 H,.int .u32 (p:Nat)] w (aJ (Dc 1 W H p 0 0 none 0 0) w):=by
 go_enter func20,ntmps20;go_wp2_with (fail);exact bG rfl rfl (aQ _ _ (by simp) [.int .i64 1,.int .i64 W,.int .i64 H,.int .u32 (p:Nat),.int .i64 0,.int .i64 0,.slice none 0 0] _) underlying49 rfl af ⟨rfl,bR.alloc nR _⟩
end
section
open Go.RowKit fH fV
theorem a5t(x y z u:Int):∃M:Int,(∀(P:Program) (w:World) (ts:Array TypeId) (t:TypeId),(Builtin.max_ ts t (Vl x y z u).toArray).run P w=.ok (.int .i64 M) w)∧(∀a,M<=a↔x<=a∧y<=a∧z<=a∧u<=a):=by
 refine⟨if u > (if z > (if y > x then y else x) then z else (if y > x then y else x)) then u else (if z > (if y > x then y else x) then z else (if y > x then y else x)),fun P w ts t=>by simp[Builtin.max_,Builtin.max2],fun a=>?_⟩;split<;>split<;>split<;>omega
theorem a5s(x y z u:Int):∃M:Int,(∀(P:Program) (w:World) (ts:Array TypeId) (t:TypeId),(Builtin.min_ ts t (Vl x y z u).toArray).run P w=.ok (.int .i64 M) w)∧(∀a,a<=M↔a<=x∧a<=y∧a<=z∧a<=u):=by
 refine⟨if u<(if z<(if y<x then y else x) then z else (if y<x then y else x)) then u else (if z<(if y<x then y else x) then z else (if y<x then y else x)),fun P w ts t=>by simp[Builtin.min_,Builtin.min2],fun a=>?_⟩;split<;>split<;>split<;>omega
def ML(r:Bx):Bool:=decide ((-16384<=r.a∧-16384<=r.b∧-16384<=r.c∧-16384<=r.d)∧(r.a<=16384∧r.b<=16384∧r.c<=16384∧r.d<=16384))
theorem Rx(r:Bx)(w:World):Calls prog 149 #[r.v] w (aJ (.bool (ML r)) w):=by
 obtain⟨x0,y0,x1,y1⟩:=r;have HC:Hid (ML ⟨x0,y0,x1,y1⟩=decide ((-16384<=x0∧-16384<=y0∧-16384<=x1∧-16384<=y1)∧(x0<=16384∧y0<=16384∧x1<=16384∧y1<=16384))):=rfl;obtain⟨M,hmax,hM⟩:=a5t x0 y0 x1 y1;obtain⟨m,hmin,hm⟩:=a5s x0 y0 x1 y1;specialize hM 16384;specialize hm (-16384);generalize ML ⟨x0,y0,x1,y1⟩=R at*;unfold Bx.v;simp only;by_cases t1:-16384<=m
 ·have t:decide (-16384<=m)=true:=by simpa using t1
  have HS:Hid (R=decide (M<=16384)):=HC.o.trans (decide_eq_decide.2 ⟨fun h=>hM.2 h.2,fun h=>⟨hm.1 t1,hM.1 h⟩⟩);generalize hd:decide (M<=16384)=d at*;clear hM hm t1 HC;go_enter func149,ntmps149;go_wp2_with (fail);go_ret;exact⟨aG HS.o.symm,bR.alloc nR _⟩
 ·have t:decide (-16384<=m)=false:=by simpa using t1
  have HS:Hid (R=false):=HC.o.trans (decide_eq_false (fun h=>t1 (hm.2 h.1)));clear hM hm t1 HC;go_enter func149,ntmps149;go_wp2_with (fail);go_ret;exact⟨aG HS.o.symm,bR.alloc nR _⟩
def GR(m:Mp)(op:Int)(hi cl:Bool)(r:Bx)(k W H:Int)(p:Nat)(iw ih:Int)(A:Option Addr)(n c:Nat):Value:=
 .agg (Vc m.a m.b m.c m.d m.e m.f op hi cl r.a r.b r.c r.d k W H p iw ih A n c).toArray
theorem Qn(w:World):Calls prog 49 #[] w (aJ (GR Mp.one 255 false false Bx.o 0 0 0 0 0 0 none 0 0) w):=by
 have HO:=Hd (fun w=>a1h w);unfold GR;unfold Mp.v Mp.one Bx.o at*;simp only at*;go_enter func49,ntmps49;go_wp2_with (fail);refine(HO.o _).mono ?_;rintro e w1 ⟨rfl,hb⟩;have HB:=Hd (Gj hb);have hK:Hid (ax w1 w.heap.size Va):=(az w Va _).below hb (by simp);clear hb HO;have hlt:=hK.o.inside
 go_wp2_with (refine ay 109 _ _ rfl rfl rfl _ 0 rfl [.int .i64 65536,.int .i64 0,.int .i64 0,.int .i64 65536,.int .i64 0,.int .i64 0,.int .i64 255,.bool false,.bool false,.int .i64 0,.int .i64 0,.int .i64 0,.int .i64 0,.int .i64 0,.int .i64 0,.int .i64 0,.int .u32 0,.int .i64 0,.int .i64 0,.slice none 0 0] rfl _ hK.o [.int .i64 65536,.int .i64 0,.int .i64 0,.int .i64 65536,.int .i64 0,.int .i64 0,.int .i64 255,.bool false,.bool false,.int .i64 0,.int .i64 0,.int .i64 0,.int .i64 0,.int .i64 0,.int .i64 0,.int .i64 0,.int .u32 0,.int .i64 0,.int .i64 0,.slice none 0 0] rfl (by simp) af rfl ?_;intro w2 HW HK)
 exact bG rfl rfl HK.o underlying109 rfl af ⟨rfl,HW.o.below HB.o nR⟩
def Lp(m:Mp)(op:Int)(cl:Bool)(r:Bx)(lk:Int):Int:=if (m.right&&decide (0<=op∧op<=255))=true then (if cl=true then (if ML r=true then lk else 11) else (if r=Bx.o then lk else 10)) else 11
end
section
open Go.RowKit fH fV
theorem IC(m:Mp)(op:Int)(hi cl:Bool)(r:Bx)(k W H:Int)(p:Nat)(iw ih:Int)(A:Option Addr)(l:List Nat)(c:Nat)(hp:p<4294967296)(hl:∀z∈l,z<4294967296)(hn:l.length<=maxLen)(w:World)(hr:Row eW w A l) :
  Calls prog 135 #[GR m op hi cl r k W H p iw ih A l.length c] w (aJ (.int .i64 (Lp m op cl r (uP k W H p iw ih l))) w):=by
 have HM:=Hd (fun w=>uN m w);have Ko:=Hd (fun w=>Rx r w);have HL:=Hd (fun w hr=>IL k W H p iw ih A l c hp hl hn w hr);have hq:=fun w=>a1P r Bx.o w;have HC:Hid (Lp m op cl r (uP k W H p iw ih l)=if (m.right&&decide (0<=op∧op<=255))=true then (if cl=true then (if ML r=true then uP k W H p iw ih l else 11) else (if decide (r=Bx.o)=true then uP k W H p iw ih l else 10)) else 11):=by show _=_;unfold Lp;simp only[decide_eq_true_eq]
 have HR:=Hd hr;have hn3:l.length<=9223372036854775807:=by unfold maxLen at hn;omega
 clear hp hl hn hr;generalize Lp m op cl r (uP k W H p iw ih l)=R at*;generalize uP k W H p iw ih l=K at*;generalize ML r=z at*;generalize decide (r=Bx.o)=u at*;generalize m.right=y at*;unfold GR;unfold Bx.v Bx.o at hq;obtain⟨ma,mb,mc,md,me,mf⟩:=m;obtain⟨x0,y0,x1,y1⟩:=r;unfold Mp.v at HM;unfold Bx.v at Ko;unfold Dc at HL;simp only at HM Ko hq ⊢;have HB0:Hid (bz w (w.alloc (.cells (Vc ma mb mc md me mf op hi cl x0 y0 x1 y1 k W H p iw ih A l.length c).toArray 109))):=bR.alloc nR _
 have kE:Hid (ax (w.alloc (.cells (Vc ma mb mc md me mf op hi cl x0 y0 x1 y1 k W H p iw ih A l.length c).toArray 109)) w.heap.size (Vc ma mb mc md me mf op hi cl x0 y0 x1 y1 k W H p iw ih A l.length c)):=az w (Vc ma mb mc md me mf op hi cl x0 y0 x1 y1 k W H p iw ih A l.length c) _;go_enter func135,ntmps135
 go_wp2_with (first|(with_reducible refine gL ?_;first|(refine wt 39 0 rfl rfl rfl kE.o (Vh ma mb mc md me mf) rfl underlying39 rfl ?_)|(refine wt 75 9 rfl rfl rfl kE.o (Vl x0 y0 x1 y1) rfl underlying75 rfl ?_)|(refine wt 49 13 rfl rfl rfl kE.o (Vk k W H p iw ih A l.length c) rfl underlying49 rfl ?_)));refine(HM.o _).mono ?_;rintro e w1 ⟨rfl,hb⟩;have HB:=Hd (bel2 HB0.o hb);have HK:=Hd (kE.o.below' hb);clear hb HM HB0 kE;have c6:=HK.o.c 6 rfl;have c8:=HK.o.c 8 rfl;have hlt:=HK.o.inside;cases y with
 |false=>
  go_wp2_with (fail);go_ret;exact⟨aA HC.o.symm,HB.o⟩
 |true=>
  by_cases o1:op<0
  ·have t1:decide (op<0)=true:=by simpa using o1
   have HC2:Hid (R=11):=HC.o.trans (if_neg (by rw[decide_eq_false (by omega)];decide));clear o1 HC;go_wp2_with (fail);go_ret;exact⟨aA HC2.o.symm,HB.o⟩
  ·have t1:decide (op<0)=false:=by simpa using o1
   by_cases o2:255<op
   ·have t2:decide (255<op)=true:=by simpa using o2
    have HC2:Hid (R=11):=HC.o.trans (if_neg (by rw[decide_eq_false (by omega)];decide));clear o1 o2 HC;go_wp2_with (fail);go_ret;exact⟨aA HC2.o.symm,HB.o⟩
   ·have t2:decide (255<op)=false:=by simpa using o2
    have HC2:=Hd (HC.o.trans (if_pos (by rw[decide_eq_true (by omega)];rfl)));clear o1 o2 HC;cases cl with
    |true=>
     go_wp2_with (first|(with_reducible refine gL ?_;first|(refine wt 39 0 rfl rfl rfl HK.o (Vh ma mb mc md me mf) rfl underlying39 rfl ?_)|(refine wt 75 9 rfl rfl rfl HK.o (Vl x0 y0 x1 y1) rfl underlying75 rfl ?_)|(refine wt 49 13 rfl rfl rfl HK.o (Vk k W H p iw ih A l.length c) rfl underlying49 rfl ?_)));refine(Ko.o _).mono ?_;rintro e w2 ⟨rfl,hb⟩;have HB2:=Hd (bel2 HB.o hb);have bQ:=Hd (HK.o.below' hb);clear hb Ko HB HK c6 c8 hlt;have hlt:=bQ.o.inside;have c8:=bQ.o.c 8 rfl;cases z with
     |false=>
      go_wp2_with (fail);go_ret;exact⟨aA HC2.o.symm,HB2.o⟩
     |true=>
      go_wp2_with (first|(with_reducible refine gL ?_;first|(refine wt 39 0 rfl rfl rfl bQ.o (Vh ma mb mc md me mf) rfl underlying39 rfl ?_)|(refine wt 75 9 rfl rfl rfl bQ.o (Vl x0 y0 x1 y1) rfl underlying75 rfl ?_)|(refine wt 49 13 rfl rfl rfl bQ.o (Vk k W H p iw ih A l.length c) rfl underlying49 rfl ?_)));refine(HL.o _ (HR.o.below HB2.o)).mono ?_;rintro e w9 ⟨rfl,hb⟩;have tX:=Hd (bel2 HB2.o hb);clear hb HL;go_wp2_with (fail);go_ret;exact⟨aA HC2.o.symm,tX.o⟩
    |false=>
     clear Ko;cases u with
     |false=>
      go_wp2_with (first|(with_reducible refine gL ?_;first|(refine wt 39 0 rfl rfl rfl HK.o (Vh ma mb mc md me mf) rfl underlying39 rfl ?_)|(refine wt 75 9 rfl rfl rfl HK.o (Vl x0 y0 x1 y1) rfl underlying75 rfl ?_)|(refine wt 49 13 rfl rfl rfl HK.o (Vk k W H p iw ih A l.length c) rfl underlying49 rfl ?_)));go_ret;exact⟨aA HC2.o.symm,HB.o⟩
     |true=>
      go_wp2_with (first|(with_reducible refine gL ?_;first|(refine wt 39 0 rfl rfl rfl HK.o (Vh ma mb mc md me mf) rfl underlying39 rfl ?_)|(refine wt 75 9 rfl rfl rfl HK.o (Vl x0 y0 x1 y1) rfl underlying75 rfl ?_)|(refine wt 49 13 rfl rfl rfl HK.o (Vk k W H p iw ih A l.length c) rfl underlying49 rfl ?_)));refine(HL.o _ (HR.o.below HB.o)).mono ?_;rintro e w9 ⟨rfl,hb⟩;have tX:=Hd (bel2 HB.o hb);clear hb HL;go_wp2_with (fail);go_ret;exact⟨aA HC2.o.symm,tX.o⟩
end
section
open Go.RowKit fH fV
def GL(k W H:Int)(p:Nat)(iw ih:Int)(l:List Nat)(w:World)(e:Ending)(w':World):Prop:=∃A9 cap,e=.returned (Dc k W H p iw ih A9 l.length cap)∧Pxs w' w.heap.size A9 l cap∧bz w w'
theorem MK(k W H:Int)(p:Nat)(iw ih:Int)(A:Option Addr)(l:List Nat)(c:Nat)(w:World)(hr:Row eW w A l)(hn:l.length<=20000000):Calls prog 95 #[Dc k W H p iw ih A l.length c] w (GL k W H p iw ih l w):=by
 have HR:=Hd hr;have HC:=Hd (fun w hr=>WN iw ih A l c w hr hn);unfold Ye at HC;unfold GL;have hn3:l.length<=9223372036854775807:=by omega
 clear hr hn;unfold Dc at*;unfold yl at HC;have HB0:Hid (bz w ((w.alloc (.cells (Vk k W H p iw ih A l.length c).toArray 49)).alloc (.cells Vo.toArray 49))):=(bR.alloc nR _).alloc (by simp) _;have kE:Hid (ax ((w.alloc (.cells (Vk k W H p iw ih A l.length c).toArray 49)).alloc (.cells Vo.toArray 49)) w.heap.size (Vk k W H p iw ih A l.length c)):=(az w (Vk k W H p iw ih A l.length c) _).alloc _
 have J5:Hid (ax ((w.alloc (.cells (Vk k W H p iw ih A l.length c).toArray 49)).alloc (.cells Vo.toArray 49)) (w.heap.size+1) Vo):=aQ (w.alloc _) _ (by simp) Vo _;have iO:Hid (w.heap.size+2<=((w.alloc (.cells (Vk k W H p iw ih A l.length c).toArray 49)).alloc (.cells Vo.toArray 49)).heap.size):=by simp[Hid]
 go_enter func95,ntmps95;go_wp2_with (refine wt 47 4 rfl rfl rfl kE.o (Vn iw ih A l.length c) rfl underlying47 rfl ?_);refine(HC.o _ (HR.o.below HB0.o)).mono ?_;rintro e w1 ⟨A9,c9,rfl,hx,hb⟩;have HX:=Hd hx;have HB:=Hd (bel2 HB0.o hb);have HK:=Hd (kE.o.below' hb);have jg:=Hd (J5.o.below' hb);generalize ((w.alloc (.cells (Vk k W H p iw ih A l.length c).toArray 49)).alloc (.cells Vo.toArray 49))=wz at*;clear hb hx HC HB0 kE J5
 go_wp2_with (first|(refine ay 47 _ _ rfl rfl rfl _ 4 rfl (Vn iw ih A9 l.length c9) rfl _ HK.o (Vk k W H p iw ih A9 l.length c9) rfl (by simp) af rfl ?_;intro w2 HW2 bQ;have HR2:=Hd (HW2.o.blk (by omega) jg.o))|(refine wt 49 0 rfl rfl rfl bQ.o (Vk k W H p iw ih A9 l.length c9) rfl underlying49 rfl ?_)|(refine ay 49 _ _ rfl rfl rfl _ 0 rfl (Vk k W H p iw ih A9 l.length c9) rfl _ HR2.o (Vk k W H p iw ih A9 l.length c9) rfl (by simp) af rfl ?_;intro w3 HW3 dI))
 refine bG rfl rfl dI.o underlying49 rfl af ⟨A9,c9,rfl,⟨HX.o.1.BC fun b o e=>?_,fun b o e=>?_,HX.o.2.2⟩,HW3.o.below (HW2.o.below HB.o nR) (by omega)⟩
 ·have h1:b≠w.heap.size∧b≠w.heap.size+1:=by have:=HX.o.2.1 b o e;have:=iO.o;omega
  exact(HW3.o.far h1.2).trans (HW2.o.far h1.1)
 ·have h1:b≠w.heap.size∧b≠w.heap.size+1:=by have:=HX.o.2.1 b o e;have:=iO.o;omega
  exact⟨by have:=HX.o.2.1 b o e;have:=iO.o;omega,fun j=>(World.frozen?_of_block ((HW3.o.far h1.2).trans (HW2.o.far h1.1))).trans ((HX.o.2.1 b o e).2 j)⟩
def Py(m:Mp)(op:Int)(hi cl:Bool)(r:Bx)(k W H:Int)(p:Nat)(iw ih:Int)(l:List Nat)(w:World)(e:Ending)(w':World):Prop:=∃A9 cap,e=.returned (GR m op hi cl r k W H p iw ih A9 l.length cap)∧Pxs w' w.heap.size A9 l cap∧bz w w'
theorem Lm(m:Mp)(op:Int)(hi cl:Bool)(r:Bx)(k W H:Int)(p:Nat)(iw ih:Int)(A:Option Addr)(l:List Nat)(c:Nat)(w:World)(hr:Row eW w A l)(hn:l.length<=20000000):Calls prog 62 #[GR m op hi cl r k W H p iw ih A l.length c] w (Py m op hi cl r k W H p iw ih l w):=by
 have HR:=Hd hr;have HC:=Hd (fun w hr=>MK k W H p iw ih A l c w hr hn);unfold GL at HC;unfold Py;have hn3:l.length<=9223372036854775807:=by omega
 clear hr hn;unfold GR at*;unfold Dc at HC;obtain⟨ma,mb,mc,md,me,mf⟩:=m;obtain⟨x0,y0,x1,y1⟩:=r;simp only at HC ⊢;have HB0:Hid (bz w ((w.alloc (.cells (Vc ma mb mc md me mf op hi cl x0 y0 x1 y1 k W H p iw ih A l.length c).toArray 109)).alloc (.cells Va.toArray 109))):=(bR.alloc nR _).alloc (by simp) _
 have kE:Hid (ax ((w.alloc (.cells (Vc ma mb mc md me mf op hi cl x0 y0 x1 y1 k W H p iw ih A l.length c).toArray 109)).alloc (.cells Va.toArray 109)) w.heap.size (Vc ma mb mc md me mf op hi cl x0 y0 x1 y1 k W H p iw ih A l.length c)):=(az w (Vc ma mb mc md me mf op hi cl x0 y0 x1 y1 k W H p iw ih A l.length c) _).alloc _;have J5:Hid (ax ((w.alloc (.cells (Vc ma mb mc md me mf op hi cl x0 y0 x1 y1 k W H p iw ih A l.length c).toArray 109)).alloc (.cells Va.toArray 109)) (w.heap.size+1) Va):=aQ (w.alloc _) _ (by simp) Va _
 have iO:Hid (w.heap.size+2<=((w.alloc (.cells (Vc ma mb mc md me mf op hi cl x0 y0 x1 y1 k W H p iw ih A l.length c).toArray 109)).alloc (.cells Va.toArray 109)).heap.size):=by simp[Hid]
 go_enter func62,ntmps62;go_wp2_with (refine wt 49 13 rfl rfl rfl kE.o (Vk k W H p iw ih A l.length c) rfl underlying49 rfl ?_);refine(HC.o _ (HR.o.below HB0.o)).mono ?_;rintro e w1 ⟨A9,c9,rfl,hx,hb⟩;have HX:=Hd hx;have HB:=Hd (bel2 HB0.o hb);have HK:=Hd (kE.o.below' hb);have jg:=Hd (J5.o.below' hb);generalize ((w.alloc (.cells (Vc ma mb mc md me mf op hi cl x0 y0 x1 y1 k W H p iw ih A l.length c).toArray 109)).alloc (.cells Va.toArray 109))=wz at*;clear hb hx HC HB0 kE J5
 go_wp2_with (first|(refine ay 49 _ _ rfl rfl rfl _ 13 rfl (Vk k W H p iw ih A9 l.length c9) rfl _ HK.o (Vc ma mb mc md me mf op hi cl x0 y0 x1 y1 k W H p iw ih A9 l.length c9) rfl (by simp) af rfl ?_;intro w2 HW2 bQ;have HR2:=Hd (HW2.o.blk (by omega) jg.o))|(refine wt 109 0 rfl rfl rfl bQ.o (Vc ma mb mc md me mf op hi cl x0 y0 x1 y1 k W H p iw ih A9 l.length c9) rfl underlying109 rfl ?_)|(refine ay 109 _ _ rfl rfl rfl _ 0 rfl (Vc ma mb mc md me mf op hi cl x0 y0 x1 y1 k W H p iw ih A9 l.length c9) rfl _ HR2.o (Vc ma mb mc md me mf op hi cl x0 y0 x1 y1 k W H p iw ih A9 l.length c9) rfl (by simp) af rfl ?_;intro w3 HW3 dI))
 refine bG rfl rfl dI.o underlying109 rfl af ⟨A9,c9,rfl,⟨HX.o.1.BC fun b o e=>?_,fun b o e=>?_,HX.o.2.2⟩,HW3.o.below (HW2.o.below HB.o nR) (by omega)⟩
 ·have h1:b≠w.heap.size∧b≠w.heap.size+1:=by have:=HX.o.2.1 b o e;have:=iO.o;omega
  exact(HW3.o.far h1.2).trans (HW2.o.far h1.1)
 ·have h1:b≠w.heap.size∧b≠w.heap.size+1:=by have:=HX.o.2.1 b o e;have:=iO.o;omega
  exact⟨by have:=HX.o.2.1 b o e;have:=iO.o;omega,fun j=>(World.frozen?_of_block ((HW3.o.far h1.2).trans (HW2.o.far h1.1))).trans ((HX.o.2.1 b o e).2 j)⟩
end
section
open Go.RowKit fH fV
def V8(k1 W1 H1:Int)(p1:Nat)(VE ih1:Int)(l1:List Nat)(k2 W2 H2:Int)(p2:Nat)(VD ih2:Int)(l2:List Nat):Bool:=(k1==k2)&&((W1==W2)&&((H1==H2)&&(((p1:Int)==(p2:Int))&&TD VE ih1 l1 VD ih2 l2)))
theorem Jg(k1 W1 H1:Int)(p1:Nat)(VE ih1:Int)(A1:Option Addr)(l1:List Nat)(c1:Nat)(k2 W2 H2:Int)(p2:Nat)(VD ih2:Int)(A2:Option Addr)(l2:List Nat)(c2:Nat)(m1:l1.length<=maxLen)(m2:l2.length<=maxLen)(w:World)(h1:Row eW w A1 l1)(h2:Row eW w A2 l2) :
  Calls prog 117 #[Dc k1 W1 H1 p1 VE ih1 A1 l1.length c1,Dc k2 W2 H2 p2 VD ih2 A2 l2.length c2] w (aJ (.bool (V8 k1 W1 H1 p1 VE ih1 l1 k2 W2 H2 p2 VD ih2 l2)) w):=by
 have HR:=Hd (And.intro h1 h2);have HE:=Hd (fun w h1 h2=>Ec VE ih1 A1 l1 c1 VD ih2 A2 l2 c2 w h1 h2 m1 m2);have HQ:Hid (V8 k1 W1 H1 p1 VE ih1 l1 k2 W2 H2 p2 VD ih2 l2=((k1==k2)&&((W1==W2)&&((H1==H2)&&(((p1:Int)==(p2:Int))&&TD VE ih1 l1 VD ih2 l2))))):=rfl;clear h1 h2 m1 m2;generalize V8 k1 W1 H1 p1 VE ih1 l1 k2 W2 H2 p2 VD ih2 l2=R at*;generalize TD VE ih1 l1 VD ih2 l2=y at*;unfold yl at HE;unfold Dc;generalize hb1:(k1==k2)=b1 at*;generalize hb2:(W1==W2)=b2 at*;generalize hb3:(H1==H2)=b3 at*;generalize hb4:((p1:Int)==(p2:Int))=b4 at*
 have HB:Hid (bz w ((w.alloc (.cells (Vk k1 W1 H1 p1 VE ih1 A1 l1.length c1).toArray 49)).alloc (.cells (Vk k2 W2 H2 p2 VD ih2 A2 l2.length c2).toArray 49))):=(bR.alloc nR _).alloc (by simp) _;cases b1 with
 |false=>
  go_enter func117,ntmps117;go_wp2_with (fail);go_ret;exact⟨aG HQ.o.symm,HB.o⟩
 |true=>
  cases b2 with
  |false=>
   go_enter func117,ntmps117;go_wp2_with (fail);go_ret;exact⟨aG HQ.o.symm,HB.o⟩
  |true=>
   cases b3 with
   |false=>
    go_enter func117,ntmps117;go_wp2_with (fail);go_ret;exact⟨aG HQ.o.symm,HB.o⟩
   |true=>
    cases b4 with
    |false=>
     go_enter func117,ntmps117;go_wp2_with (fail);go_ret;exact⟨aG HQ.o.symm,HB.o⟩
    |true=>
     go_enter func117,ntmps117;go_wp2_with (fail);refine(HE.o _ (HR.o.1.below HB.o) (HR.o.2.below HB.o)).mono ?_;rintro e w2 ⟨rfl,hb⟩;have HB2:=Hd (bel2 HB.o hb);clear hb HE;go_wp2_with (fail);go_ret;exact⟨aG HQ.o.symm,HB2.o⟩
def a1A(m1:Mp)(op1:Int)(hi1 cl1:Bool)(r1:Bx)(m2:Mp)(op2:Int)(hi2 cl2:Bool)(r2:Bx)(lk:Bool):Bool:=decide (m1=m2)&&(decide (r1=r2)&&((op1==op2)&&((hi1==hi2)&&((cl1==cl2)&&lk))))
end
end Go.Proofs.YtekdoeilpheklaaGreat
