import Derived.Test.YthmegninhpihkaaGreatVScA
import Derived.Deep.QuietTactic
import Derived.BigQuiet
import Derived.Laws.BitsAllLaws
import Derived.Shelf.Abstract
import Derived.Laws.Cover1
import Derived.Laws.Small
set_option maxHeartbeats 16000000
set_option maxRecDepth 100000
open Go.Proofs.Tryz
namespace Go.Proofs.YthmegninhpihkaaGreat
open Go.RowKit fG
theorem mO{P:Program}{f:FuncId}{args:Array Value}{v:Value}{w:World}(h:Calls P f args w fun e w'=>e=.returned v∧dP w w'):Calls P f args w fun e w'=>e=.returned v∧bz w w':=
 h.mono fun _ _ ⟨he,hd⟩=>⟨he,hd.below _⟩
theorem tH(p:P4)(hp:p.Bytes)(k:Nat)(hk:k<4)(w:World) :
  Calls prog 162 #[.int .u32 (p.num:Nat),.int .i64 (k:Nat)] w fun e w'=>e=.returned (.int .i64 (p.at_ k:Nat))∧dP w w':=by
 obtain⟨h1,h2,h3,h4⟩:=hp;obtain rfl|rfl|rfl|rfl:k=0∨k=1∨k=2∨k=3:=by omega
 all_goals
  go_enter func162,ntmps162;go_wp2_with (fail);go_ret;refine⟨aB ?_,dP.refl _⟩;simp only[P4.at_,P4.num];omega
theorem a0y(x q:Nat)(hx:x<256)(hq:q<256)(w:World) :
  Calls prog 108 #[.int .i64 (x:Nat),.int .i64 (q:Nat)] w fun e w'=>e=.returned (.int .i64 (sG x q:Nat))∧dP w w':=by
 have hm:=mul_lt hx hq
 obtain⟨P,hP⟩:∃P:Nat,x*q=P:=⟨_,rfl⟩
 have e:(x:Int)*(q:Int)=(P:Nat):=by rw[←hP];simp
 have HB:Hid (sG x q=(P+127) / 255):=by rw[←hP];rfl
 rw[hP]at hm;clear hP;go_enter func108,ntmps108;go_wp2_with (fail)
 all_goals
  go_ret;exact⟨aB (by rw[HB.o];simp),dP.refl _⟩
end Go.Proofs.YthmegninhpihkaaGreat
namespace Go.Proofs.YthmegninhpihkaaGreat
open Go.RowKit fG
theorem YK{f g:Nat->Nat}(h:∀k,k<4->f k=g k):MB f 4=MB g 4:=by
 simp only[MB];rw[h 0 (by omega),h 1 (by omega),h 2 (by omega),h 3 (by omega)]
theorem dP.blk{w w':World}{g:Nat}{cs:List Value}(h:dP w w')(hb:az w g cs):az w' g cs:=hb.below' (h.below _)
theorem DT{fn:Func}{t u v x:Tmp}(h:fn.results=#[.tmp t,.tmp u,.tmp v,.tmp x])(tmps:Array Value)(P:Program)(w:World) :
  (results fn tmps).run P w=.ok (.tuple #[tmps.getD t undef,tmps.getD u undef,tmps.getD v undef,tmps.getD x undef]) w:=by
 simp[results,h]
theorem OD(p:P4)(hp:p.Bytes)(w:World) :
  Calls prog 158 #[.int .u32 (p.num:Nat)] w fun e w'=>e=.returned (.tuple (Vl (p.r:Nat) (p.g:Nat) (p.b:Nat) (p.a:Nat)).toArray)∧dP w w':=by
 have H3:=Hd (fun w=>tH p hp 3 (by omega) w);have H2:=Hd (fun w=>tH p hp 2 (by omega) w);have H1:=Hd (fun w=>tH p hp 1 (by omega) w);have H0:=Hd (fun w=>tH p hp 0 (by omega) w);have hn:=hp.lt;clear hp;go_enter func158,ntmps158;go_wp2_with (fail);refine(H3.o _).mono ?_;rintro e w1 ⟨rfl,hd1⟩;have D1:=Hd hd1;clear hd1;go_wp2_with (fail);refine(H2.o _).mono ?_;rintro e w2 ⟨rfl,hd2⟩;have D2:=Hd (D1.o.trans hd2);clear hd2 D1;go_wp2_with (fail);refine(H1.o _).mono ?_;rintro e w3 ⟨rfl,hd3⟩;have D3:=Hd (D2.o.trans hd3);clear hd3 D2;go_wp2_with (fail)
 refine(H0.o _).mono ?_;rintro e w4 ⟨rfl,hd4⟩;have D4:=Hd (D3.o.trans hd4);clear hd4 D3;go_wp2_with (fail);exact bodyPost_ret (DT rfl _ _ _) rfl ⟨rfl,D4.o⟩
theorem a3L(x y z:Int):∃M:Int,(∀(P:Program) (w:World) (ts:Array TypeId) (t:TypeId),(Builtin.max_ ts t (Vq x y z).toArray).run P w=.ok (.int .i64 M) w)∧(∀a,M<=a↔x<=a∧y<=a∧z<=a):=by
 refine⟨_,fun P w ts t=>run_max_int3 w ts t _ _ _ x y z,fun a=>?_⟩;split<;>split<;>omega
theorem Jp(p:P4)(hp:p.Bytes)(w:World) :
  Calls prog 151 #[.int .u32 (p.num:Nat)] w fun e w'=>e=.returned (.bool p.bY)∧dP w w':=by
 have H:=Hd (fun w=>OD p hp w);have HR2:Hid (p.bY=(decide (p.r<=p.a)&&(decide (p.g<=p.a)&&(decide (p.b<=p.a)&&decide (p.a<=255))))):=rfl;generalize p.bY=R at*;obtain⟨h1,h2,h3,h4⟩:=hp;generalize p.num=n at*;obtain⟨r,g,b,a⟩:=p;simp only at H HR2 h1 h2 h3 h4;obtain⟨M,hrun,hM⟩:=a3L r g b
 have HM:Hid (decide (M<=(a:Int))=R):=by
  rw[HR2.o];have:=hM a;have h5:a<=255:=by omega
  show _=_;rw[decide_eq_true h5,Bool.and_true,←Bool.decide_and,←Bool.decide_and,decide_eq_decide];omega
 clear hM HR2;go_enter func151,ntmps151;go_wp2_with (fail);refine(H.o _).mono ?_;rintro e w1 ⟨rfl,hd1⟩;have D1:=Hd hd1;clear hd1;go_wp2_with (fail);go_ret;exact⟨aI HM.o,D1.o⟩
end Go.Proofs.YthmegninhpihkaaGreat
namespace Go.Proofs.YthmegninhpihkaaGreat
open Go.RowKit fG
end Go.Proofs.YthmegninhpihkaaGreat
namespace Go.Proofs.YthmegninhpihkaaGreat
open Go.RowKit fG
def fG.P4.cs(p:P4):List Value:=(Vl (p.r:Nat) (p.g:Nat) (p.b:Nat) (p.a:Nat))
theorem PO(n:Nat)(hn:n<4294967296)(w:World) :
  Calls prog 129 #[.int .u32 (n:Nat)] w (aZ (.agg (Vl ((BF n).r:Nat) ((BF n).g:Nat) ((BF n).b:Nat) ((BF n).a:Nat)).toArray) w):=by
 have e1:(n:Int) / 16777216=((n / 16777216:Nat):Int):=by simp
 have e2:(n:Int) / 65536 % 256=((n / 65536 % 256:Nat):Int):=by simp
 have e3:(n:Int) / 256 % 256=((n / 256 % 256:Nat):Int):=by simp
 have e4:(n:Int) % 256=((n % 256:Nat):Int):=by simp
 have hr:n / 16777216<256:=by omega
 have hg:n / 65536 % 256<256:=by omega
 have hb:n / 256 % 256<256:=by omega
 have ha:n % 256<256:=by omega
 unfold BF;simp only;generalize n / 16777216=r at*;generalize n / 65536 % 256=g at*;generalize n / 256 % 256=b at*;generalize n % 256=a at*;go_enter func129,ntmps129;go_wp2_with (fail);exact bJ rfl rfl (aA w (Vl (r:Nat) (g:Nat) (b:Nat) (a:Nat)) _) underlying255 rfl ag ⟨rfl,bR.alloc nR _⟩
theorem Qi{α:Type}{p:α->Bool}{l:List α}{k:Nat}(h:(l.take k).all p=true)(hk:k<l.length)(hp:p l[k]=true):(l.take (k+1)).all p=true:=by
 rw[List.take_succ_eq_append_getElem hk,List.all_append,h];simp[hp]
theorem Ut{α:Type}{p:α->Bool}{l:List α}{k:Nat}(hk:k<l.length)(hp:p l[k]=false):l.all p=false:=by
 rw[List.all_eq_false];exact⟨_,List.getElem_mem hk,by rw[hp];simp⟩
def OH(a x:Int):Bool:=decide (0<=x)&&(decide (x<=255)&&decide (x<=a))
def drB(x0 x1 x2 x3:Int):Bool:=[x0,x1,x2,x3].all (OH x3)
theorem PI(p:P4)(hp:p.Bytes):drB (p.r:Nat) (p.g:Nat) (p.b:Nat) (p.a:Nat)=p.bY:=by
 obtain⟨h1,h2,h3,h4⟩:=hp;rw[Bool.eq_iff_iff,P4.Jk];unfold drB OH P4.Right;simp only[List.all_cons,List.all_nil,Bool.and_eq_true,Bool.and_true,decide_eq_true_eq];omega
theorem WL{a x:Int}(h:x<0):OH a x=false:=by unfold OH;simp;omega
theorem WJ{a x:Int}(h:255<x):OH a x=false:=by unfold OH;simp;omega
theorem WI{a x:Int}(h:a<x):OH a x=false:=by unfold OH;simp;omega
theorem WH{a x:Int}(h:¬x<0)(h2:¬255<x)(h3:¬a<x):OH a x=true:=by unfold OH;simp;omega
theorem Gi(x0 x1 x2 x3:Int)(w:World) :
  Calls prog 128 #[.agg (Vl x0 x1 x2 x3).toArray] w (aZ (.bool (drB x0 x1 x2 x3)) w):=by
 obtain⟨l,hl⟩:∃l,l=[x0,x1,x2,x3]:=⟨_,rfl⟩
 have HR:Hid (drB x0 x1 x2 x3=l.all (OH x3)):=by rw[hl];rfl
 have HE:Hid ((Vl x0 x1 x2 x3)=l.map eI):=by rw[hl];rfl
 have H3:Hid ((l.map eI)[3]?=some (.int .i64 x3)):=by rw[hl];rfl
 have HL:Hid (l.length=4):=by rw[hl];rfl
 clear hl;generalize drB x0 x1 x2 x3=R at*;go_enter func128,ntmps128;go_wp2_with (fail)
 go_loopw [3] (fun i wr=>∃k:Nat,k<=4∧i=.int .i64 k∧Hid ((l.take k).all (OH x3)=true)∧Hid (bz w wr)∧Hid (az wr w.heap.size (l.map eI))) (fun i _=>4 - (intOf i).toNat)
 case atStart=>exact⟨0,Nat.zero_le _,rfl,rfl,bR.alloc nR _,by rw[←HE.o];exact aA w (Vl x0 x1 x2 x3) _⟩
 case round=>
  obtain⟨k,hk,rfl,HK,HB,HM⟩:=hrel;by_cases hlt:k<4
  ·have hkl:k<l.length:=by rw[HL.o];exact hlt
   have c3:wr.cell? ⟨w.heap.size,3,none⟩=some (.int .i64 x3):=(HM.o.cell 3).trans H3.o;have ck:wr.cell? ⟨w.heap.size,k,none⟩=some (.int .i64 l[k]):=by rw[HM.o.cell k,List.getElem?_map,List.getElem?_eq_getElem hkl];rfl
   have hin:=HM.o.inside;have H1:=Hd (Qi HK.o hkl);have H0:=Hd (Ut (p:=OH x3) hkl);clear HK HE H3;generalize l[k]=x at*;clear hkl;by_cases t1:x<0
   ·have t:decide (x<0)=true:=by simpa using t1
    have HF:=Hd (HR.o.trans (H0.o (WL t1)));clear t1 H1 H0 HR;go_wp2_with (fail)
    go_quiet (fail)
    go_wp2_with (fail);go_ret;exact⟨aI HF.o.symm,Below.drewN' HB.o _⟩
   ·have t:decide (x<0)=false:=by simpa using t1
    by_cases t2:255<x
    ·have t3:decide (255<x)=true:=by simpa using t2
     have HF:=Hd (HR.o.trans (H0.o (WJ t2)));clear t1 t2 H1 H0 HR;go_wp2_with (fail)
     go_quiet (fail)
     go_wp2_with (fail);go_ret;exact⟨aI HF.o.symm,Below.drewN' HB.o _⟩
    ·have t3:decide (255<x)=false:=by simpa using t2
     by_cases t4:x3<x
     ·have t5:decide (x3<x)=true:=by simpa using t4
      have HF:=Hd (HR.o.trans (H0.o (WI t4)));clear t1 t2 t4 H1 H0 HR;go_wp2_with (fail)
      go_quiet (fail)
      go_wp2_with (fail);go_ret;exact⟨aI HF.o.symm,Below.drewN' HB.o _⟩
     ·have t5:decide (x3<x)=false:=by simpa using t4
      have HF:=Hd (H1.o (WH t1 t2 t4));clear t1 t2 t4 H1 H0 HR;go_wp2_with (fail)
      go_quiet (fail)
      go_wp2_with (fail)
      go_roundw
      case rel=>exact⟨k+1,by omega,by go_num,HF,Below.drewN' HB.o _,HM.o.drewN _⟩
      case measure=>simp[intOf];omega
  ·obtain rfl:k=4:=by omega
   have HA:=HK.o;rw[List.take_of_length_le (Nat.le_of_eq HL.o)]at HA;have HF:Hid (R=true):=HR.o.trans HA;clear HA;clear HR HK HE H3;go_wp2_with (fail);go_ret;exact⟨aI HF.o.symm,HB.o⟩
theorem bZ(p:P4):p.cs.length=4:=rfl
end Go.Proofs.YthmegninhpihkaaGreat
namespace Go.Proofs.YthmegninhpihkaaGreat
open Go.RowKit
structure Bx where
 a:Int
 b:Int
 c:Int
 d:Int
deriving DecidableEq
def Bx.v(r:Bx):Value:=.agg (Vl r.a r.b r.c r.d).toArray
def Bx.cs(r:Bx):List Value:=(Vl r.a r.b r.c r.d)
def Bx.o:Bx:=⟨0,0,0,0⟩
def Bx.emp(r:Bx):Bool:=decide (r.c<=r.a)||decide (r.d<=r.b)
def Bx.nrm(r:Bx):Bx:=if r.emp=true then Bx.o else r
def Bx.has(r:Bx)(x y:Int):Bool:=decide (r.a<=x)&&(decide (x<r.c)&&(decide (r.b<=y)&&decide (y<r.d)))
theorem Ui(r:Bx)(w:World):Calls prog 131 #[r.v] w (aZ (.bool r.emp) w):=by
 obtain⟨a,b,c,d⟩:=r;unfold Bx.v Bx.emp;simp only;by_cases h:c<=a
 ·have t:decide (c<=a)=true:=by simpa using h
  rw[t];go_enter func131,ntmps131;go_wp2_with (fail);go_ret;exact⟨rfl,bR.alloc nR _⟩
 ·have t:decide (c<=a)=false:=by simpa using h
  rw[t];clear h;by_cases h:d<=b
  ·have t2:decide (d<=b)=true:=by simpa using h
   rw[t2];go_enter func131,ntmps131;go_wp2_with (fail);go_ret;exact⟨rfl,bR.alloc nR _⟩
  ·have t2:decide (d<=b)=false:=by simpa using h
   rw[t2];clear h;go_enter func131,ntmps131;go_wp2_with (fail);go_ret;exact⟨rfl,bR.alloc nR _⟩
theorem PX(r:Bx)(w:World):Calls prog 110 #[r.v] w fun e w'=>e=.returned r.nrm.v∧bz w w':=by
 have HE:=Hd (fun w=>Ui r w);have HN:Hid (r.nrm=if r.emp=true then Bx.o else r):=rfl;generalize r.emp=y at*
 obtain⟨⟨na,nb,nc,nd⟩,hn⟩:∃n,r.nrm=n:=⟨_,rfl⟩
 rw[hn]at HN;rw[hn];clear hn;obtain⟨a,b,c,d⟩:=r;unfold Bx.v at*;simp only at HE ⊢;go_enter func110,ntmps110;go_wp2_with (fail);refine(HE.o _).mono ?_;rintro e w' ⟨rfl,hb⟩;have hB:Hid (bz w w'):=((bR.alloc nR _).alloc (by simp) _).trans (hb.mono (by simp;try omega));have hR:Hid (az w' (w.heap.size+1) Vr):=(aY (w.alloc _) _ (by simp) Vr _).below hb (by simp);have hA:Hid (az w' w.heap.size (Vl a b c d)):=((aA w (Vl a b c d) _).alloc _).below hb (by simp;omega);clear hb;obtain⟨⟨c0,c1,c2,c3⟩,⟨f0,f1,f2,f3⟩,-⟩:=hR.o.c4
 obtain⟨⟨d0,d1,d2,d3⟩,-,-⟩:=hA.o.c4;cases y with
 |true=>
  rw[if_pos rfl]at HN;go_wp2_with (fail);exact bJ rfl rfl (hR.o.ZL _ _ _ _) underlying69 rfl ag ⟨by injection HN.o with h0 h1 h2 h3;rw[h0,h1,h2,h3],Kt hB.o (by omega) _ _ _ _⟩
 |false=>
  rw[if_neg (by decide)]at HN;go_wp2_with (fail);exact bJ rfl rfl (hR.o.ZL _ _ _ _) underlying69 rfl ag ⟨by injection HN.o with h0 h1 h2 h3;rw[h0,h1,h2,h3],Kt hB.o (by omega) _ _ _ _⟩
theorem a2m(r:Bx)(w:World):Calls prog 89 (Vl r.a r.b r.c r.d).toArray w fun e w'=>e=.returned r.nrm.v∧bz w w':=by
 have HE:=Hd (fun w=>PX r w);generalize r.nrm=n at*;obtain⟨na,nb,nc,nd⟩:=n;obtain⟨a,b,c,d⟩:=r;unfold Bx.v at*;simp only at HE ⊢;go_enter func89,ntmps89;go_wp2_with (fail);refine(HE.o _).mono ?_;rintro e w' ⟨rfl,hb⟩;have hB:Hid (bz w w'):=(bR.alloc nR _).trans (hb.mono (by simp;try omega));have hR:Hid (az w' w.heap.size Vr):=(aY w _ rfl Vr _).below hb (by simp);clear hb;obtain⟨⟨c0,c1,c2,c3⟩,⟨f0,f1,f2,f3⟩,-⟩:=hR.o.c4;go_wp2_with (fail)
 exact bJ rfl rfl (hR.o.ZL _ _ _ _) underlying69 rfl ag ⟨rfl,Kt hB.o (by omega) _ _ _ _⟩
theorem a0B(r:Bx)(x y:Int)(w:World):Calls prog 111 #[r.v,.int .i64 x,.int .i64 y] w (aZ (.bool (r.has x y)) w):=by
 obtain⟨a,b,c,d⟩:=r;unfold Bx.v Bx.has;simp only;generalize h1:decide (a<=x)=t1;generalize h2:decide (x<c)=t2;generalize h3:decide (b<=y)=t3;generalize h4:decide (y<d)=t4;cases t1<;>cases t2<;>cases t3<;>cases t4
 all_goals
  go_enter func111,ntmps111;go_wp2_with (fail);go_ret;exact⟨rfl,bR.alloc nR _⟩
theorem a0A(r s:Bx)(w:World):(binOp .neq 69 r.v s.v).run prog w=.ok (.bool (!decide (r=s))) w:=by
 obtain⟨a,b,c,d⟩:=r;obtain⟨a2,b2,c2,d2⟩:=s;unfold Bx.v;simp only;by_cases h0:a=a2
 ·by_cases h1:b=b2
  ·by_cases h2:c=c2
   ·by_cases h3:d=d2
    ·subst h0;subst h1;subst h2;subst h3;simp only[decide_true];go_simp
    ·rw[decide_eq_false (by simp[h3])];subst h0;subst h1;subst h2;have t:(d==d2)=false:=by simpa using h3
     go_simp
   ·rw[decide_eq_false (by simp[h2])];subst h0;subst h1;have t:(c==c2)=false:=by simpa using h2
    go_simp
  ·rw[decide_eq_false (by simp[h1])];subst h0;have t:(b==b2)=false:=by simpa using h1
   go_simp
 ·rw[decide_eq_false (by simp[h0])];have t:(a==a2)=false:=by simpa using h0
  go_simp
end Go.Proofs.YthmegninhpihkaaGreat
namespace Go.Proofs.YthmegninhpihkaaGreat
open Go.RowKit
def mn(x y:Int):Int:=if y<x then y else x
def VR(w:World)(A:Option Addr)(l:List Bx):Prop:=aV 4 Bx.cs w A l
theorem VR.below{w w':World}{A:Option Addr}{l:List Bx}(h:VR w A l)(hb:bz w w'):VR w' A l:=aV.below h hb
theorem VR.at_{w:World}{A:Option Addr}{l:List Bx}(h:VR w A l){j:Nat}(hj:j<l.length):∃b off,A=some ⟨b,off,none⟩∧w.cell? ⟨b,off+j*4,none⟩=some (.int .i64 l[j].a)∧w.cell? ⟨b,off+j*4+1,none⟩=some (.int .i64 l[j].b)∧w.cell? ⟨b,off+j*4+2,none⟩=some (.int .i64 l[j].c)∧w.cell? ⟨b,off+j*4+3,none⟩=some (.int .i64 l[j].d):=by
 obtain⟨b,off,e,hc⟩:=h (by omega);exact⟨b,off,e,hc j hj 0 _ rfl,hc j hj 1 _ rfl,hc j hj 2 _ rfl,hc j hj 3 _ rfl⟩
def JJ(g0 g1 z:Nat)(qs ss us os:List Value)(L:Nat->Bool)(wx:World):Prop:=(L 0=false∨L 4=false->az wx g0 qs)∧(L 4=true->az wx g0 us)∧az wx g1 ss∧az wx z os
theorem JJ.below{g0 g1 z:Nat}{qs ss us os:List Value}{L:Nat->Bool}{w w':World}(h:JJ g0 g1 z qs ss us os L w)(hb:bz w w'):JJ g0 g1 z qs ss us os L w':=
 ⟨fun e=>(h.1 e).below' hb,fun e=>(h.2.1 e).below' hb,h.2.2.1.below' hb,h.2.2.2.below' hb⟩
end Go.Proofs.YthmegninhpihkaaGreat
namespace Go.Proofs.YthmegninhpihkaaGreat
open Go.RowKit
def J2I(g0 g1:Nat)(p q:List Value)(w:World):Prop:=az w g0 p∧az w g1 q
theorem J2I.below{g0 g1:Nat}{p q:List Value}{w w':World}(h:J2I g0 g1 p q w)(hb:bz w w'):J2I g0 g1 p q w':=⟨h.1.below' hb,h.2.below' hb⟩
def Bx.rt(r:Bx):Bool:=decide ((-1073741824<=r.a∧r.a<=1073741824)∧(-1073741824<=r.b∧r.b<=1073741824)∧(-1073741824<=r.c∧r.c<=1073741824)∧(-1073741824<=r.d∧r.d<=1073741824))
def Bx.grow(r:Bx)(n:Int):Bx:=if r.emp=true then Bx.o else Bx.nrm ⟨r.a - n,r.b - n,r.c+n,r.d+n⟩
def Bx.wide(r:Bx):Bool:=decide ((-1099511627776<=r.a∧r.a<=1099511627776)∧(-1099511627776<=r.b∧r.b<=1099511627776)∧(-1099511627776<=r.c∧r.c<=1099511627776)∧(-1099511627776<=r.d∧r.d<=1099511627776))
end Go.Proofs.YthmegninhpihkaaGreat
namespace Go.Proofs.YthmegninhpihkaaGreat
namespace gm
structure Eg where
 y:Int
 x0:Int
 x1:Int
 m:Int
instance:Inhabited Eg:=⟨⟨0,0,0,0⟩⟩
def ind(p:Bool):Int:=if p=true then 1 else 0
def Eg.st(e:Eg)(x:Int):Int:=e.m*(ind (decide (e.x0=x)) - ind (decide (e.x1=x)))
def tot(f:Eg->Int):List Eg->Int
 |[]=>0
 |e::l=>f e+tot f l
def cnt(F:Nat->Bool):Nat->Nat
 |0=>0
 |n+1=>cnt F n+if F n=true then 1 else 0
end gm
end Go.Proofs.YthmegninhpihkaaGreat
namespace Go.Proofs.YthmegninhpihkaaGreat
open Go.RowKit fG gm
def EU(W H:Int)(A:Option Addr)(n c:Nat):Value:=.agg (Vn W H A n c).toArray
def eW(n:Nat):Value:=.int .u32 (n:Nat)
theorem az.c3{w:World}{g:Nat}{p q r:Value}(h:az w g [p,q,r]):(w.cell? ⟨g,0,none⟩=some p∧w.cell? ⟨g,1,none⟩=some q∧w.cell? ⟨g,2,none⟩=some r) ∧
  (w.frozen? ⟨g,0,none⟩=false∧w.frozen? ⟨g,1,none⟩=false∧w.frozen? ⟨g,2,none⟩=false)∧g<w.heap.size:=
 ⟨⟨h.cell 0,h.cell 1,h.cell 2⟩,⟨h.free 0,h.free 1,h.free 2⟩,h.inside⟩
theorem mx2(x y:Int):∃M:Int,(∀(P:Program) (w:World) (ts:Array TypeId) (t:TypeId),(Builtin.max_ ts t #[.int .i64 x,.int .i64 y]).run P w=.ok (.int .i64 M) w)∧(∀a,M<=a↔x<=a∧y<=a):=by
 refine⟨_,fun P w ts t=>run_max_int2 w ts t _ _ x y,fun a=>?_⟩;split<;>omega
theorem mn2(x y:Int):∃M:Int,(∀(P:Program) (w:World) (ts:Array TypeId) (t:TypeId),(Builtin.min_ ts t #[.int .i64 x,.int .i64 y]).run P w=.ok (.int .i64 M) w)∧(∀a,a<=M↔a<=x∧a<=y):=by
 refine⟨_,fun P w ts t=>run_min_int2 w ts t _ _ x y,fun a=>?_⟩;split<;>omega
def eF(W H:Int):Bool:=decide (1<=W∧1<=H∧W<=4096∧H<=4096)
theorem Cm(W H:Int)(w:World):Calls prog 163 #[.int .i64 W,.int .i64 H] w (aZ (.bool (eF W H)) w):=by
 obtain⟨M,hmax,hM⟩:=mx2 W H;obtain⟨m,hmin,hm⟩:=mn2 W H;specialize hM 4096;specialize hm 1;by_cases t1:1<=m
 ·have t:decide (1<=m)=true:=by simpa using t1
  have HS:Hid (eF W H=decide (M<=4096)):=decide_eq_decide.2 (by omega);generalize eF W H=S at*;generalize hd:decide (M<=4096)=d at*;clear hM hm t1;go_enter func163,ntmps163;go_wp2_with (fail);go_ret;exact⟨aI HS.o.symm,bR⟩
 ·have t:decide (1<=m)=false:=by simpa using t1
  have HS:Hid (eF W H=false):=decide_eq_false (by omega);generalize eF W H=S at*;clear hM hm t1;go_enter func163,ntmps163;go_wp2_with (fail);go_ret;exact⟨aI HS.o.symm,bR⟩
def pq(W H:Int)(n:Nat):Bool:=eF W H&&decide ((n:Int)=W*H)
theorem jS{W H:Int}:eF W H=true↔1<=W∧1<=H∧W<=4096∧H<=4096:=by unfold eF;exact decide_eq_true_iff
theorem CP{W H:Int}(h:eF W H=true):1<=W*H∧W*H<=16777216:=by
 obtain⟨h1,h2,h3,h4⟩:=jS.1 h;have e1:0<=(W - 1)*H:=Int.mul_nonneg (by omega) (by omega);have e2:0<=(4096 - W)*H:=Int.mul_nonneg (by omega) (by omega);rw[Int.sub_mul]at e1 e2;omega
theorem Qd{w w1:World}{o:Obj}(hb:Below (w.alloc o).heap.size (w.alloc o) w1):bz w w1:=(bR.alloc nR _).trans (hb.mono (by simp))
theorem N7(W H:Int)(A:Option Addr)(n c:Nat)(hn:n<=maxLen)(w:World):Calls prog 164 #[EU W H A n c] w (aZ (.bool (pq W H n)) w):=by
 have HS:=Hd (fun w=>Cm W H w);have HW:Hid (pq W H n=(eF W H&&decide ((n:Int)=W*H))):=rfl;have HM:=Hd (fun h=>CP (W:=W) (H:=H) h)
 replace hn:n<=9223372036854775807:=by unfold maxLen at hn;omega
 generalize pq W H n=R at*;generalize eF W H=S at*;unfold EU;go_enter func164,ntmps164;go_wp2_with (fail);refine(HS.o _).mono ?_;rintro e w1 ⟨rfl,hb⟩;have hB:=Hd (Qd hb);have hR:Hid (az w1 w.heap.size (Vn W H A n c)):=(aY w _ rfl (Vn W H A n c) _).below hb (by simp);clear hb HS;obtain⟨⟨c0,c1,c2⟩,-,ci⟩:=hR.o.c3;cases S with
 |false=>
  go_wp2_with (fail);go_ret;exact⟨aI HW.o.symm,hB.o⟩
 |true=>
  obtain⟨m1,m2⟩:=HM.o rfl;have q:wrap64 (W*H)=W*H:=IntWalk.wrap64_in _ (by omega);have HW2:=HW.o;rw[Bool.true_and]at HW2;clear HW HM m1 m2;by_cases t1:(n:Int)=W*H
  ·have t:decide ((n:Int)=W*H)=true:=by simpa using t1
   rw[t]at HW2;subst HW2;have q1:((n:Int)==W*H)=true:=by rw[t1];simp
   clear t1;go_wp2_with (fail);go_ret;exact⟨rfl,hB.o⟩
  ·have t:decide ((n:Int)=W*H)=false:=by simpa using t1
   rw[t]at HW2;subst HW2;have q1:((n:Int)==W*H)=false:=by simpa using t1
   clear t1;go_wp2_with (fail);go_ret;exact⟨rfl,hB.o⟩
def rb(z:Nat):Bool:=(BF z).bY
theorem L8(z:Nat)(hz:z<4294967296)(w:World):Calls prog 151 #[.int .u32 (z:Nat)] w fun e w'=>e=.returned (.bool (rb z))∧dP w w':=by
 have:=Jp (BF z) (Dc hz) w;rw[WR]at this;exact this
def chk(W H:Int)(l:List Nat):Int:=if eF W H=true then (if pq W H l.length=true then (if l.all rb=true then 0 else 10) else 10) else 11
theorem vZ{α:Type}{p:α->Bool}{l:List α}{k:Nat}(h:(l.take k).all p=true)(hk:k<l.length)(hp:p l[k]=true):(l.take (k+1)).all p=true:=by
 rw[List.take_succ_eq_append_getElem hk,List.all_append,h];simp[hp]
theorem KI{α:Type}{p:α->Bool}{l:List α}{k:Nat}(hk:k<l.length)(hp:p l[k]=false):l.all p=false:=by
 rw[List.all_eq_false];exact⟨_,List.getElem_mem hk,by rw[hp];simp⟩
theorem check_any(W H:Int)(A:Option Addr)(l:List Nat)(c:Nat)(hl:∀z∈l,z<4294967296)(hn:l.length<=maxLen)(w:World)(hr:Row eW w A l) :
  Calls prog 159 #[EU W H A l.length c] w (aZ (.int .i64 (chk W H l)) w):=by
 have HS:=Hd (fun w=>Cm W H w);have HW:=Hd (fun w=>N7 W H A l.length c hn w);have HC:Hid (chk W H l=if eF W H=true then (if pq W H l.length=true then (if l.all rb=true then 0 else 10) else 10) else 11):=rfl
 replace hn:l.length<=9223372036854775807:=by unfold maxLen at hn;omega
 generalize chk W H l=R at*;generalize pq W H l.length=T at*;generalize eF W H=S at*;unfold EU at*;go_enter func159,ntmps159;go_wp2_with (fail);refine(HS.o _).mono ?_;rintro e w1 ⟨rfl,hb⟩;have hB:=Hd (Qd hb);have hR:Hid (az w1 w.heap.size (Vn W H A l.length c)):=(aY w _ rfl (Vn W H A l.length c) _).below hb (by simp);clear hb HS;obtain⟨⟨c0,c1,c2⟩,-,ci⟩:=hR.o.c3;cases S with
 |false=>
  go_wp2_with (fail);go_ret;exact⟨aB HC.o.symm,hB.o⟩
 |true=>
  go_wp2_with (fail);refine(HW.o _).mono ?_;rintro e w2 ⟨rfl,hb⟩;have hB2:Hid (bz w w2):=hB.o.trans (hb.mono hB.o.size);have hR2:Hid (az w2 w.heap.size (Vn W H A l.length c)):=hR.o.below' hb;clear hb HW hB hR c0 c1 c2 ci;obtain⟨⟨c0,c1,c2⟩,-,ci⟩:=hR2.o.c3;cases T with
  |false=>
   go_wp2_with (fail);go_ret;exact⟨aB HC.o.symm,hB2.o⟩
  |true=>
   have HC2:Hid (R=if l.all rb=true then 0 else 10):=HC.o;have HR:=Hd (hr.below hB2.o);have HL:=Hd hl;clear hr HC hl;go_wp2_with (fail);clear c0 c1 c2 ci
   go_loopw [17] (fun i wr=>∃k:Nat,k<=l.length∧i=.int .i64 k∧Hid ((l.take k).all rb=true)∧Hid (dP w2 wr)) (fun i _=>l.length - (intOf i).toNat)
   case atStart=>exact⟨0,Nat.zero_le _,rfl,rfl,dP.refl _⟩
   case round=>
    obtain⟨k,hk,rfl,HK,HD⟩:=hrel;by_cases hlt:k<l.length
    ·obtain⟨b,off,eA,hc⟩:=(HR.o.below (HD.o.below _)).at_ hlt;have hA:=Hd eA;subst eA;have hz:l[k]<4294967296:=HL.o _ (List.getElem_mem hlt);have HP:=Hd (fun w=>L8 l[k] hz w);have H1:=Hd (vZ HK.o hlt);have H0:=Hd (KI (p:=rb) hlt);clear hA;generalize l[k]=z at*;unfold eW at hc;go_wp2_with (fail);refine(HP.o _).mono ?_;rintro e w3 ⟨rfl,hd⟩;have HD3:=Hd (HD.o.trans hd);clear hd HP hc;generalize rb z=y at*;cases y with
     |false=>
      have HF:=Hd (HC2.o.trans (if_neg (by rw[H0.o rfl];decide)));go_wp2_with (fail);go_ret;exact⟨aB HF.o.symm,hB2.o.trans (HD3.o.below _)⟩
     |true=>
      go_wp2_with (fail)
      go_roundw
      case rel=>exact⟨k+1,by omega,by go_num,H1.o (by trivial),HD3⟩
      case measure=>simp[intOf];omega
    ·obtain rfl:k=l.length:=by omega
     have HF:=Hd (HC2.o.trans (if_pos (by have:=HK.o;rwa [List.take_length]at this)));have t:decide (l.length<l.length)=false:=by simp
     go_wp2_with (fail);go_ret;exact⟨aB HF.o.symm,hB2.o.trans (HD.o.below _)⟩
def oC(W H:Int)(l:List Nat):Bool:=decide (W<=256∧H<=256)&&decide (chk W H l=0)
theorem Ol(W H:Int)(A:Option Addr)(l:List Nat)(c:Nat)(hl:∀z∈l,z<4294967296)(hn:l.length<=maxLen)(w:World)(hr:Row eW w A l) :
  Calls prog 152 #[EU W H A l.length c] w (aZ (.bool (oC W H l)) w):=by
 have HC:=Hd (fun w hr=>check_any W H A l c hl hn w hr);have HB:Hid (oC W H l=(decide (W<=256∧H<=256)&&decide (chk W H l=0))):=rfl;obtain⟨M,hmax,hM⟩:=mx2 W H;specialize hM 256
 replace hn:l.length<=9223372036854775807:=by unfold maxLen at hn;omega
 generalize oC W H l=R at*;generalize chk W H l=K at*;have HR:=Hd hr;unfold EU at*;by_cases t1:M<=256
 ·have t:decide (M<=256)=true:=by simpa using t1
  have HB2:Hid (R=decide (K=0)):=by rw[HB.o,decide_eq_true (hM.1 t1),Bool.true_and];exact rfl
  clear hM HB t1 hr;go_enter func152,ntmps152;go_wp2_with (fail);refine(HC.o _ (HR.o.alloc _)).mono ?_;rintro e w1 ⟨rfl,hb⟩;have hB:=Hd (Qd hb);clear hb HC;by_cases k0:K=0
  ·have q:(K==0)=true:=by simpa using k0
   have HB3:=Hd (HB2.o.trans (decide_eq_true k0));clear k0;go_wp2_with (fail);go_ret;exact⟨aI HB3.o.symm,hB.o⟩
  ·have q:(K==0)=false:=by simpa using k0
   have HB3:=Hd (HB2.o.trans (decide_eq_false k0));clear k0;go_wp2_with (fail);go_ret;exact⟨aI HB3.o.symm,hB.o⟩
 ·have t:decide (M<=256)=false:=by simpa using t1
  have HB2:Hid (R=false):=by rw[HB.o,decide_eq_false (fun h=>t1 (hM.2 h)),Bool.false_and];exact rfl
  clear hM HB t1 hr HC;go_enter func152,ntmps152;go_wp2_with (fail);go_ret;exact⟨aI HB2.o.symm,bR.alloc nR _⟩
end Go.Proofs.YthmegninhpihkaaGreat
namespace Go.Proofs.YthmegninhpihkaaGreat
open Go.RowKit fG gm
def inB(W H x y:Int):Bool:=Bx.has ⟨0,0,W,H⟩ x y
theorem BR{W H:Int}{n:Nat}:pq W H n=true↔eF W H=true∧(n:Int)=W*H:=by
 unfold pq;rw[Bool.and_eq_true,decide_eq_true_eq]
structure Off(S:List Nat)(w w':World):Prop where
 os:w'.os=w.os
 tape:w'.tape=w.tape
 output:w'.output=w.output
 size:w.heap.size<=w'.heap.size
 far:∀k,k<w.heap.size->k∉S->w'.heap[k]?=w.heap[k]?
theorem Off.refl(S:List Nat)(w:World):Off S w w:=⟨rfl,rfl,rfl,nR,fun _ _ _=>rfl⟩
theorem Off.trans{S:List Nat}{a b c:World}(h:Off S a b)(k:Off S b c):Off S a c:=
 ⟨k.os.trans h.os,k.tape.trans h.tape,k.output.trans h.output,Nat.le_trans h.size k.size,fun j hj hn=>(k.far j (Nat.lt_of_lt_of_le hj h.size) hn).trans (h.far j hj hn)⟩
theorem Off.of_below{S:List Nat}{w w':World}(hb:bz w w'):Off S w w':=⟨hb.os,hb.tape,hb.output,hb.size,fun k hk _=>hb.block k hk⟩
theorem Off.set{S:List Nat}{w:World}{g:Nat}(hg:g∈S)(i:Nat)(v:Value):Off S w (w.setCell ⟨g,i,none⟩ v):=
 ⟨rfl,rfl,rfl,by simp[World.setCell],fun k _ hn=>Below.heap_setCell _ _ _ _ (fun e=>hn (by rw[e];exact hg))⟩
theorem Off.aQ{S:List Nat}{w w':World}{B:Nat}(h:Off S w w')(hB:B<=w.heap.size)(hS:∀g∈S,B<=g):Below B w w':=
 ⟨h.os,h.tape,h.output,h.size,fun k hk=>h.far k (by omega) (fun hm=>by have:=hS k hm;omega)⟩
theorem Off.mono{S S':List Nat}{w w':World}(h:Off S w w')(hS:∀g∈S,g∈S'):Off S' w w':=⟨h.os,h.tape,h.output,h.size,fun k hk hn=>h.far k hk fun hm=>hn (hS k hm)⟩
theorem Off.blk{S:List Nat}{w w':World}{g:Nat}{cs:List Value}(h:Off S w w')(hb:az w g cs)(hg:g∉S):az w' g cs:=hb.stays (h.far g hb.inside hg)
def Px(w:World)(g:Nat)(l:List Nat):Prop:=∃tail,az w g (l.map eW++tail)
section
variable {w w':World}{g:Nat}{l:List Nat}
theorem Px.inside(h:Px w g l):g<w.heap.size:=by obtain⟨_,h⟩:=h;exact h.inside
theorem Px.cell(h:Px w g l){j:Nat}(hj:j<l.length):w.cell? ⟨g,j,none⟩=some (eW l[j]):=by
 obtain⟨t,h⟩:=h;rw[h.cell j,List.getElem?_append_left (by simpa using hj),List.getElem?_map,List.getElem?_eq_getElem hj];rfl
theorem Px.free(h:Px w g l)(j:Nat):w.frozen? ⟨g,j,none⟩=false:=by obtain⟨_,h⟩:=h;exact h.free j
theorem Px.stays(h:Px w g l)(hb:w'.heap[g]?=w.heap[g]?):Px w' g l:=by obtain⟨t,h⟩:=h;exact⟨t,h.stays hb⟩
theorem Px.below(h:Px w g l)(hb:bz w w'):Px w' g l:=h.stays (hb.block g h.inside)
theorem Px.off{S:List Nat}(h:Px w g l)(ho:Off S w w')(hg:g∉S):Px w' g l:=h.stays (ho.far g h.inside hg)
theorem Px.set(h:Px w g l){j:Nat}(hj:j<l.length)(v:Nat):Px (w.setCell ⟨g,j,none⟩ (eW v)) g (l.set j v):=by
 obtain⟨t,h⟩:=h;refine⟨t,?_⟩;have:=h.set j (eW v);rw[List.set_append,if_pos (by simpa using hj)]at this;rw[List.map_set];exact this
theorem Px.row(h:Px w g l):Row eW w (some ⟨g,0,none⟩) l:=fun _=>⟨g,0,rfl,fun j hj=>by rw[Nat.zero_add];exact h.cell hj⟩
end
def a1D(W H:Int)(l:List Nat)(x y:Int):Nat:=if inB W H x y=true then l.getD (y*W+x).toNat 0 else 0
end Go.Proofs.YthmegninhpihkaaGreat
