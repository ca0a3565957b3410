import Derived.Test.YtekdoeilpheklaaGreatWScA
import Derived.Deep.QuietTactic
import Derived.BigQuiet
import Derived.Laws.BitsAllLaws
import Derived.Shelf.Abstract
import Derived.Laws.Cover1
import Derived.Laws.Small
set_option maxHeartbeats 16000000
set_option maxRecDepth 100000
open Go.Proofs.Tryz
namespace Go.Proofs.YtekdoeilpheklaaGreat
open Go.RowKit fH
theorem qB{P:Program}{f:FuncId}{args:Array Value}{v:Value}{w:World}(h:Calls P f args w fun e w'=>e=.returned v∧dn w w'):Calls P f args w fun e w'=>e=.returned v∧bz w w':=
 h.mono fun _ _ ⟨he,hd⟩=>⟨he,hd.below _⟩
theorem ql(p:P4)(hp:p.Bytes)(k:Nat)(hk:k<4)(w:World) :
  Calls prog 107 #[.int .u32 (p.num:Nat),.int .i64 (k:Nat)] w fun e w'=>e=.returned (.int .i64 (p.at_ k:Nat))∧dn w w':=by
 obtain⟨h1,h2,h3,h4⟩:=hp;obtain rfl|rfl|rfl|rfl:k=0∨k=1∨k=2∨k=3:=by omega
 all_goals
  go_enter func107,ntmps107;go_wp2_with (fail);go_ret;refine⟨aA ?_,dn.refl _⟩;simp only[P4.at_,P4.num];omega
theorem WS(x q:Nat)(hx:x<256)(hq:q<256)(w:World) :
  Calls prog 64 #[.int .i64 (x:Nat),.int .i64 (q:Nat)] w fun e w'=>e=.returned (.int .i64 (jv x q:Nat))∧dn w w':=by
 have hm:=mul_lt hx hq
 obtain⟨P,hP⟩:∃P:Nat,x*q=P:=⟨_,rfl⟩
 have e:(x:Int)*(q:Int)=(P:Nat):=by rw[←hP];simp
 have HB:Hid (jv x q=(P+127) / 255):=by rw[←hP];rfl
 rw[hP]at hm;clear hP;go_enter func64,ntmps64;go_wp2_with (fail)
 all_goals
  go_ret;exact⟨aA (by rw[HB.o];simp),dn.refl _⟩
theorem Gh(x q:Nat)(hx:x<256)(hq:q<256)(w:World) :
  Calls prog 69 #[.int .i64 (x:Nat),.int .i64 (q:Nat)] w fun e w'=>e=.returned (.int .i64 (jv x q:Nat))∧dn w w':=by
 have hm:=mul_lt hx hq
 obtain⟨P,hP⟩:∃P:Nat,x*q=P:=⟨_,rfl⟩
 have e:(x:Int)*(q:Int)=(P:Nat):=by rw[←hP];simp
 have HB:Hid (jv x q=if 255<2*(P - 255*(P / 255)) then P / 255+1 else P / 255):=by rw[←hP];exact a1N _
 rw[hP]at hm;have hq1:P / 255<=255:=by omega
 have hq2:255*(P / 255)<=P:=by omega
 have e2:(P:Int) / 255=((P / 255:Nat):Int):=by simp
 generalize P / 255=D at*;clear hP;by_cases t:255<2*(P - 255*D)
 ·rw[if_pos t]at HB;have t1:decide ((255:Int)<2*((P:Int) - 255*(D:Int)))=true:=by simp;omega
  clear t;go_enter func69,ntmps69;go_wp2_with (fail);go_ret;exact⟨aA (by rw[HB.o];simp),dn.refl _⟩
 ·rw[if_neg t]at HB;have t1:decide ((255:Int)<2*((P:Int) - 255*(D:Int)))=false:=by simp;omega
  clear t;go_enter func69,ntmps69;go_wp2_with (fail);go_ret;exact⟨aA (by rw[HB.o]),dn.refl _⟩
theorem MB:Enters prog 106:=enters_of func106 af rfl
theorem Zy(p:P4)(hp:p.Bytes)(q:Nat)(hq:q<256)(bp bq:Nat)(k:Nat)(hk:k<4)(w:World)(h1:ax w bp [.int .u32 (p.num:Nat)])(h2:ax w bq [.int .i64 (q:Nat)]) :
  Calls prog 106 #[.int .i64 (k:Nat),.pointer (some ⟨bp,0,none⟩),.pointer (some ⟨bq,0,none⟩)] w fun e w'=>e=.returned (.int .i64 (jv (p.at_ k) q:Nat))∧dn w w':=by
 have c1:=h1.c 0 rfl;have c2:=h2.c 0 rfl;have i1:=h1.inside;have i2:=h2.inside;have HP:=Hd (fun w=>ql p hp k hk w);have HB:=Hd (fun w=>WS (p.at_ k) q (hp.at_ k) hq w);clear h1 h2 hp hk hq;generalize p.at_ k=x at*;go_enter func106,ntmps106;go_wp2_with (fail)
 go_quiet ((first|(go_at_call 107;exact Calls.quiet_of (HP.o _))|(go_at_call 64;exact Calls.quiet_of (HB.o _))))
 go_wp2_with (fail);go_ret;exact⟨rfl,(dn.refl _).more _⟩
end Go.Proofs.YtekdoeilpheklaaGreat
namespace Go.Proofs.YtekdoeilpheklaaGreat
open Go.RowKit fH
theorem YJ(f:Nat->Nat)(hf:∀k,k<4->f k<256)(k:Nat)(hk:k<4):bits .or .u32 (jJ f k:Nat) ((f k:Int)*(256 ^ k:Nat))=(jJ f (k+1):Nat):=by
 have h1:=uI hf k (by omega);have h2:=uI hf (k+1) (by omega);have e:(f k:Int)*(256 ^ k:Nat)=((f k*256 ^ k:Nat):Int):=by rw[Int.natCast_mul]
 have h3:256 ^ (k+1)<=256 ^ 4:=Nat.pow_le_pow_right (by omega) (by omega);have h4:(256:Nat) ^ 4=4294967296:=by decide
 have h5:jJ f (k+1)=jJ f k+f k*256 ^ k:=rfl;rw[e,u32_or_nat _ _ (by omega) (by omega),a09 h1];rfl
theorem V9(f:Nat->Nat)(hf:∀k,k<4->f k<256)(gl:Nat)(cl:Array Value)(he:Enters prog gl)(w:World)
  (hcall:∀k,k<4->∀w1,dn w w1->Calls prog gl (#[.int .i64 (k:Nat)]++cl) w1 fun e w2=>e=.returned (.int .i64 (f k:Nat))∧dn w1 w2) :
  Calls prog 105 #[.func (.func gl) #[] cl] w fun e w'=>e=.returned (.int .u32 (jJ f 4:Nat))∧dn w w':=by
 have he':∀(args:Array Value) (w:World),(callFunc gl args).run prog w=.ok (.enter gl args) w:=he;have HC:=Hd hcall;have HO:=Hd (YJ f hf);have HF:=Hd hf;have HL:=Hd (fun k hk=>uI hf k hk);clear hcall hf he;go_enter func105,ntmps105;go_wp2_with (fail)
 go_loopw [3,5] (fun x i wr=>∃k:Nat,k<=4∧i=.int .i64 k∧x=.int .u32 (jJ f k:Nat)∧Hid (dn w wr)) (fun _ i _=>4 - (intOf i).toNat)
 case atStart=>exact⟨0,by omega,rfl,rfl,dn.refl _⟩
 case round=>
  obtain⟨k,hk,rfl,rfl,HD⟩:=hrel;by_cases hlt:k<4
  ·have o:=Hd (HO.o k hlt);have hz:=HF.o k hlt;have C:=Hd (HC.o k hlt);clear HO HF HC HL
   have o2:∃y2,Hid (jJ f (k+1)=y2)∧Hid (bits .or .u32 (jJ f k:Nat) ((f k:Int)*(256 ^ k:Nat))=(y2:Nat)):=⟨_,rfl,o⟩
   clear o;obtain⟨y2,o1,o2⟩:=o2;generalize jJ f k=y1 at*;generalize f k=z at*;go_wp2_with (fail);refine(C.o _ HD.o).mono ?_;rintro e w2 ⟨rfl,hd⟩;have HD2:=Hd (HD.o.trans hd);clear C HD hd;obtain rfl|rfl|rfl|rfl:k=0∨k=1∨k=2∨k=3:=by omega
   all_goals
    go_wp2_with (fail)
    go_roundw
    case rel=>exact⟨_,by decide,rfl,by rw[o1.o,←o2.o];simp,HD2⟩
    case measure=>simp[intOf]
  ·obtain rfl:k=4:=by omega
   clear HO HC HF HL;go_wp2_with (fail);go_ret;exact⟨rfl,HD.o⟩
theorem Iu{f g:Nat->Nat}(h:∀k,k<4->f k=g k):jJ f 4=jJ g 4:=by
 simp only[jJ];rw[h 0 (by omega),h 1 (by omega),h 2 (by omega),h 3 (by omega)]
theorem Ir(p:P4)(q:Nat):jJ (fun k=>jv (p.at_ k) q) 4=(p.times q).num:=by
 rw[←Qq]
 exact Iu fun k hk=>by
  obtain rfl|rfl|rfl|rfl:k=0∨k=1∨k=2∨k=3:=by omega
  all_goals rfl
theorem dn.blk{w w':World}{g:Nat}{cs:List Value}(h:dn w w')(hb:ax w g cs):ax w' g cs:=hb.below' (h.below _)
theorem Y0(p:P4)(hp:p.Bytes)(q:Nat)(hq:q<256)(w:World) :
  Calls prog 76 #[.int .u32 (p.num:Nat),.int .i64 (q:Nat)] w (aJ (.int .u32 ((p.times q).num:Nat)) w):=by
 have HC:=Hd (fun w1 (h1:ax w1 w.heap.size [.int .u32 (p.num:Nat)]) (h2:ax w1 (w.heap.size+1) [.int .i64 (q:Nat)])=>
  V9 (fun k=>jv (p.at_ k) q) (fun k _=>BB (hp.at_ k) hq) 106 #[.pointer (some ⟨w.heap.size,0,none⟩),.pointer (some ⟨w.heap.size+1,0,none⟩)] MB w1
   (fun k hk w2 hd=>Zy p hp q hq w.heap.size (w.heap.size+1) k hk w2 (hd.blk h1) (hd.blk h2)))
 have HT:=Hd (Ir p q);have hn:=hp.lt;go_enter func76,ntmps76;go_wp2_with (fail);refine(HC.o _ ((az w [.int .u32 (p.num:Nat)] _).alloc _) (aQ (w.alloc _) _ (by simp) [.int .i64 (q:Nat)] _)).mono ?_;rintro e w2 ⟨rfl,hd⟩;have HB:Hid (bz w w2):=((bR.alloc nR _).alloc (by simp) _).trans (hd.below _);clear hd;go_wp2_with (fail);go_ret;exact⟨aA (by rw[HT.o]),HB.o⟩
theorem EN{fn:Func}{t u v x:Tmp}(h:fn.results=#[.tmp t,.tmp u,.tmp v,.tmp x])(tmps:Array Value)(P:Program)(w:World) :
  (results fn tmps).run P w=.ok (.tuple #[tmps.getD t undef,tmps.getD u undef,tmps.getD v undef,tmps.getD x undef]) w:=by
 simp[results,h]
theorem Qp(p:P4)(hp:p.Bytes)(w:World) :
  Calls prog 167 #[.int .u32 (p.num:Nat)] w fun e w'=>e=.returned (.tuple (Vl (p.r:Nat) (p.g:Nat) (p.b:Nat) (p.a:Nat)).toArray)∧dn w w':=by
 have H3:=Hd (fun w=>ql p hp 3 (by omega) w);have H2:=Hd (fun w=>ql p hp 2 (by omega) w);have H1:=Hd (fun w=>ql p hp 1 (by omega) w);have H0:=Hd (fun w=>ql p hp 0 (by omega) w);have hn:=hp.lt;clear hp;go_enter func167,ntmps167;go_wp2_with (fail);refine(H3.o _).mono ?_;rintro e w1 ⟨rfl,hd1⟩;have D1:=Hd hd1;clear hd1;go_wp2_with (fail);refine(H2.o _).mono ?_;rintro e w2 ⟨rfl,hd2⟩;have D2:=Hd (D1.o.trans hd2);clear hd2 D1;go_wp2_with (fail);refine(H1.o _).mono ?_;rintro e w3 ⟨rfl,hd3⟩;have D3:=Hd (D2.o.trans hd3);clear hd3 D2;go_wp2_with (fail)
 refine(H0.o _).mono ?_;rintro e w4 ⟨rfl,hd4⟩;have D4:=Hd (D3.o.trans hd4);clear hd4 D3;go_wp2_with (fail);exact bodyPost_ret (EN rfl _ _ _) rfl ⟨rfl,D4.o⟩
theorem a5u(x y z:Int):∃M:Int,(∀(P:Program) (w:World) (ts:Array TypeId) (t:TypeId),(Builtin.max_ ts t (Vs x y z).toArray).run P w=.ok (.int .i64 M) w)∧(∀a,M<=a↔x<=a∧y<=a∧z<=a):=by
 refine⟨_,fun P w ts t=>run_max_int3 w ts t _ _ _ x y z,fun a=>?_⟩;split<;>split<;>omega
theorem Ld(p:P4)(hp:p.Bytes)(w:World) :
  Calls prog 161 #[.int .u32 (p.num:Nat)] w fun e w'=>e=.returned (.bool p.bW)∧dn w w':=by
 have H:=Hd (fun w=>Qp p hp w);have HR2:Hid (p.bW=(decide (p.r<=p.a)&&(decide (p.g<=p.a)&&(decide (p.b<=p.a)&&decide (p.a<=255))))):=rfl;generalize p.bW=R at*;obtain⟨h1,h2,h3,h4⟩:=hp;generalize p.num=n at*;obtain⟨r,g,b,a⟩:=p;simp only at H HR2 h1 h2 h3 h4;obtain⟨M,hrun,hM⟩:=a5u r g b
 have HM:Hid (decide (M<=(a:Int))=R):=by
  rw[HR2.o];have:=hM a;have h5:a<=255:=by omega
  show _=_;rw[decide_eq_true h5,Bool.and_true,←Bool.decide_and,←Bool.decide_and,decide_eq_decide];omega
 clear hM HR2;go_enter func161,ntmps161;go_wp2_with (fail);refine(H.o _).mono ?_;rintro e w1 ⟨rfl,hd1⟩;have D1:=Hd hd1;clear hd1;go_wp2_with (fail);go_ret;exact⟨aG HM.o,D1.o⟩
end Go.Proofs.YtekdoeilpheklaaGreat
namespace Go.Proofs.YtekdoeilpheklaaGreat
open Go.RowKit fH
def eN(q:Nat):Value:=.int .i64 (q:Nat)
theorem L8{α β:Type}(f:β->α->β)(b:β){l:List α}{k:Nat}(hk:k<l.length):(l.take (k+1)).foldl f b=f ((l.take k).foldl f b) l[k]:=by
 rw[List.take_succ_eq_append_getElem hk,List.foldl_append];rfl
theorem CV{p:P4}{l:List Nat}{k:Nat}(hk:k<l.length):lN p (l.take (k+1))=(lN p (l.take k)).times l[k]:=L8 _ _ hk
theorem Zw(p:P4)(hp:p.Right)(A:Option Addr)(l:List Nat)(c:Nat)(w:World)(hl:∀q∈l,q<256)(hrow:Row eN w A l)(hn:l.length<=maxLen) :
  Calls prog 37 #[.int .u32 (p.num:Nat),.slice A l.length c] w (aJ (.int .u32 ((lN p l).num:Nat)) w):=by
 unfold maxLen at hn;have Dp:=Hd hrow;have HL:=Hd hl;have HP:=Hd hp;clear hrow hl hp;go_enter func37,ntmps37;go_wp2_with (fail)
 go_loopw [0,9] (fun x i wr=>∃k:Nat,k<=l.length∧i=.int .i64 k∧x=.int .u32 ((lN p (l.take k)).num:Nat)∧Hid (bz w wr)) (fun _ i _=>l.length - (intOf i).toNat)
 case atStart=>exact⟨0,Nat.zero_le _,rfl,rfl,bR⟩
 case round=>
  obtain⟨k,hk,rfl,rfl,HB⟩:=hrel;by_cases hlt:k<l.length
  ·obtain⟨b,off,rfl,hc⟩:=Row.at_ (Dp.o.below HB.o) hlt;unfold eN at hc;have HS:=Hd (CV (p:=p) hlt);have HC:=Hd (Y0 (lN p (l.take k)) (zL HP.o (fun q hq=>HL.o q (List.mem_of_mem_take hq))).bytes l[k] (HL.o _ (List.getElem_mem hlt)) wr);generalize lN p (l.take k)=q at*;generalize l[k]=d at*;go_wp2_with (fail);refine HC.o.mono ?_;rintro e w2 ⟨rfl,hb⟩;have HB2:=Hd (Jy HB.o nR hb);clear hb HB hc HC;go_wp2_with (fail)
   go_roundw
   case rel=>exact⟨k+1,by omega,by go_num,by rw[HS.o],HB2⟩
   case measure=>simp[intOf];omega
  ·obtain rfl:k=l.length:=by omega
   go_wp2_with (fail);go_ret;exact⟨aA (by rw[List.take_length]),HB.o⟩
end Go.Proofs.YtekdoeilpheklaaGreat
namespace Go.Proofs.YtekdoeilpheklaaGreat
open Go.RowKit fH
def fH.P4.cs(p:P4):List Value:=(Vl (p.r:Nat) (p.g:Nat) (p.b:Nat) (p.a:Nat))
def mix(A B:List Value)(k:Nat):List Value:=A.take k++B.drop k
theorem a3i(A B:List Value):mix A B 0=B:=by simp[mix]
theorem YY{A B:List Value}{k:Nat}(h:A.length=k)(h2:B.length=k):mix A B k=A:=by
 unfold mix;rw[List.take_of_length_le (by omega),List.drop_of_length_le (by omega),List.append_nil]
theorem a1j{A B:List Value}{k j:Nat}(h:A.length=B.length)(hk:k<A.length)(hj:k<=j):(mix A B k)[j]?=B[j]?:=by
 unfold mix;have hl:(A.take k).length=k:=by rw[List.length_take];omega
 rw[List.getElem?_append_right (by omega),List.getElem?_drop,hl]
 congr 1
 omega
theorem U3{A B:List Value}{k:Nat}{v:Value}(h:A.length=B.length)(hv:A[k]?=some v):(mix A B k).set k v=mix A B (k+1):=by
 obtain⟨hk,rfl⟩:=List.getElem?_eq_some_iff.1 hv;unfold mix;have hl:(A.take k).length=k:=by rw[List.length_take];omega
 rw[List.set_append,if_neg (by omega),hl,Nat.sub_self,List.drop_eq_getElem_cons (show k<B.length by omega),List.set_cons_zero,List.take_succ_eq_append_getElem hk,List.append_assoc];rfl
theorem Zk(p:P4)(hp:p.Bytes)(w:World) :
  Calls prog 40 #[.agg (Vl (p.r:Nat) (p.g:Nat) (p.b:Nat) (p.a:Nat)).toArray] w (aJ (.int .u32 (p.num:Nat)) w):=by
 have HN:Hid (p.num=p.a+256*p.b+65536*p.g+16777216*p.r):=rfl;obtain⟨h1,h2,h3,h4⟩:=hp;generalize p.num=n at*;obtain⟨r,g,b,a⟩:=p;simp only at h1 h2 h3 h4 HN ⊢;go_enter func40,ntmps40;go_wp2_with (fail);go_ret;exact⟨aA (by rw[HN.o];omega),bR.alloc nR _⟩
theorem Ef(n:Nat)(hn:n<4294967296)(w:World) :
  Calls prog 42 #[.int .u32 (n:Nat)] w (aJ (.agg (Vl ((oC n).r:Nat) ((oC n).g:Nat) ((oC n).b:Nat) ((oC n).a:Nat)).toArray) w):=by
 have e1:(n:Int) / 16777216=((n / 16777216:Nat):Int):=by simp
 have e2:(n:Int) / 65536 % 256=((n / 65536 % 256:Nat):Int):=by simp
 have e3:(n:Int) / 256 % 256=((n / 256 % 256:Nat):Int):=by simp
 have e4:(n:Int) % 256=((n % 256:Nat):Int):=by simp
 have hr:n / 16777216<256:=by omega
 have hg:n / 65536 % 256<256:=by omega
 have hb:n / 256 % 256<256:=by omega
 have ha:n % 256<256:=by omega
 unfold oC;simp only;generalize n / 16777216=r at*;generalize n / 65536 % 256=g at*;generalize n / 256 % 256=b at*;generalize n % 256=a at*;go_enter func42,ntmps42;go_wp2_with (fail);exact bG rfl rfl (az w (Vl (r:Nat) (g:Nat) (b:Nat) (a:Nat)) _) underlying133 rfl af ⟨rfl,bR.alloc nR _⟩
theorem Sl{α:Type}{p:α->Bool}{l:List α}{k:Nat}(h:(l.take k).all p=true)(hk:k<l.length)(hp:p l[k]=true):(l.take (k+1)).all p=true:=by
 rw[List.take_succ_eq_append_getElem hk,List.all_append,h];simp[hp]
theorem Xf{α:Type}{p:α->Bool}{l:List α}{k:Nat}(hk:k<l.length)(hp:p l[k]=false):l.all p=false:=by
 rw[List.all_eq_false];exact⟨_,List.getElem_mem hk,by rw[hp];simp⟩
def Qw(a x:Int):Bool:=decide (0<=x)&&(decide (x<=255)&&decide (x<=a))
def drB(x0 x1 x2 x3:Int):Bool:=[x0,x1,x2,x3].all (Qw x3)
theorem Ri(p:P4)(hp:p.Bytes):drB (p.r:Nat) (p.g:Nat) (p.b:Nat) (p.a:Nat)=p.bW:=by
 obtain⟨h1,h2,h3,h4⟩:=hp;rw[Bool.eq_iff_iff,P4.sK];unfold drB Qw P4.Right;simp only[List.all_cons,List.all_nil,Bool.and_eq_true,Bool.and_true,decide_eq_true_eq];omega
theorem YN{a x:Int}(h:x<0):Qw a x=false:=by unfold Qw;simp;omega
theorem YM{a x:Int}(h:255<x):Qw a x=false:=by unfold Qw;simp;omega
theorem YL{a x:Int}(h:a<x):Qw a x=false:=by unfold Qw;simp;omega
theorem YK{a x:Int}(h:¬x<0)(h2:¬255<x)(h3:¬a<x):Qw a x=true:=by unfold Qw;simp;omega
theorem Iq(x0 x1 x2 x3:Int)(w:World) :
  Calls prog 139 #[.agg (Vl x0 x1 x2 x3).toArray] w (aJ (.bool (drB x0 x1 x2 x3)) w):=by
 obtain⟨l,hl⟩:∃l,l=[x0,x1,x2,x3]:=⟨_,rfl⟩
 have HR:Hid (drB x0 x1 x2 x3=l.all (Qw x3)):=by rw[hl];rfl
 have HE:Hid ((Vl x0 x1 x2 x3)=l.map eI):=by rw[hl];rfl
 have H3:Hid ((l.map eI)[3]?=some (.int .i64 x3)):=by rw[hl];rfl
 have HL:Hid (l.length=4):=by rw[hl];rfl
 clear hl;generalize drB x0 x1 x2 x3=R at*;go_enter func139,ntmps139;go_wp2_with (fail)
 go_loopw [3] (fun i wr=>∃k:Nat,k<=4∧i=.int .i64 k∧Hid ((l.take k).all (Qw x3)=true)∧Hid (bz w wr)∧Hid (ax wr w.heap.size (l.map eI))) (fun i _=>4 - (intOf i).toNat)
 case atStart=>exact⟨0,Nat.zero_le _,rfl,rfl,bR.alloc nR _,by rw[←HE.o];exact az w (Vl x0 x1 x2 x3) _⟩
 case round=>
  obtain⟨k,hk,rfl,HK,HB,HM⟩:=hrel;by_cases hlt:k<4
  ·have hkl:k<l.length:=by rw[HL.o];exact hlt
   have c3:wr.cell? ⟨w.heap.size,3,none⟩=some (.int .i64 x3):=(HM.o.cell 3).trans H3.o;have ck:wr.cell? ⟨w.heap.size,k,none⟩=some (.int .i64 l[k]):=by rw[HM.o.cell k,List.getElem?_map,List.getElem?_eq_getElem hkl];rfl
   have hin:=HM.o.inside;have H1:=Hd (Sl HK.o hkl);have H0:=Hd (Xf (p:=Qw x3) hkl);clear HK HE H3;generalize l[k]=x at*;clear hkl;by_cases t1:x<0
   ·have t:decide (x<0)=true:=by simpa using t1
    have HF:=Hd (HR.o.trans (H0.o (YN t1)));clear t1 H1 H0 HR;go_wp2_with (fail)
    go_quiet (fail)
    go_wp2_with (fail);go_ret;exact⟨aG HF.o.symm,Below.drewN' HB.o _⟩
   ·have t:decide (x<0)=false:=by simpa using t1
    by_cases t2:255<x
    ·have t3:decide (255<x)=true:=by simpa using t2
     have HF:=Hd (HR.o.trans (H0.o (YM t2)));clear t1 t2 H1 H0 HR;go_wp2_with (fail)
     go_quiet (fail)
     go_wp2_with (fail);go_ret;exact⟨aG HF.o.symm,Below.drewN' HB.o _⟩
    ·have t3:decide (255<x)=false:=by simpa using t2
     by_cases t4:x3<x
     ·have t5:decide (x3<x)=true:=by simpa using t4
      have HF:=Hd (HR.o.trans (H0.o (YL t4)));clear t1 t2 t4 H1 H0 HR;go_wp2_with (fail)
      go_quiet (fail)
      go_wp2_with (fail);go_ret;exact⟨aG HF.o.symm,Below.drewN' HB.o _⟩
     ·have t5:decide (x3<x)=false:=by simpa using t4
      have HF:=Hd (H1.o (YK t1 t2 t4));clear t1 t2 t4 H1 H0 HR;go_wp2_with (fail)
      go_quiet (fail)
      go_wp2_with (fail)
      go_roundw
      case rel=>exact⟨k+1,by omega,by go_num,HF,Below.drewN' HB.o _,HM.o.drewN _⟩
      case measure=>simp[intOf];omega
  ·obtain rfl:k=4:=by omega
   have HA:=HK.o;rw[List.take_of_length_le (Nat.le_of_eq HL.o)]at HA;have HF:Hid (R=true):=HR.o.trans HA;clear HA;clear HR HK HE H3;go_wp2_with (fail);go_ret;exact⟨aG HF.o.symm,HB.o⟩
theorem aZ(p:P4):p.cs.length=4:=rfl
theorem KJ(p:P4)(hp:p.Bytes)(q:Nat){k:Nat}(hk:k<4):∃x,x<256∧p.cs[k]?=some (.int .i64 (x:Nat))∧(p.times q).cs[k]?=some (.int .i64 (jv x q:Nat)):=by
 obtain⟨h1,h2,h3,h4⟩:=hp;obtain rfl|rfl|rfl|rfl:k=0∨k=1∨k=2∨k=3:=by omega
 ·exact⟨_,h1,rfl,rfl⟩
 ·exact⟨_,h2,rfl,rfl⟩
 ·exact⟨_,h3,rfl,rfl⟩
 ·exact⟨_,h4,rfl,rfl⟩
theorem MC(p:P4)(hp:p.Bytes)(q:Nat)(hq:q<256)(w:World) :
  Calls prog 41 #[.agg (Vl (p.r:Nat) (p.g:Nat) (p.b:Nat) (p.a:Nat)).toArray,.int .i64 (q:Nat)] w
   (aJ (.agg (Vl ((p.times q).r:Nat) ((p.times q).g:Nat) ((p.times q).b:Nat) ((p.times q).a:Nat)).toArray) w):=by
 have HE:Hid (p.cs=(Vl (p.r:Nat) (p.g:Nat) (p.b:Nat) (p.a:Nat))):=rfl;have HA:Hid ((p.times q).cs=(Vl ((p.times q).r:Nat) ((p.times q).g:Nat) ((p.times q).b:Nat) ((p.times q).a:Nat))):=rfl;have HL:=Hd (And.intro (aZ (p.times q)) (aZ p));have HT:=Hd (fun k (hk:k<4)=>KJ p hp q hk);clear hp;generalize p.times q=t at*;generalize t.cs=A at*;generalize p.cs=B at*;obtain⟨tr,tg,tb,ta⟩:=t;obtain⟨r,g,b,a⟩:=p;simp only at HA HE ⊢;go_enter func41,ntmps41;go_wp2_with (fail)
 go_loopw [5] (fun i wr=>∃k:Nat,k<=4∧i=.int .i64 k∧Hid (bz w wr)∧Hid (ax wr w.heap.size (mix A B k))∧Hid (ax wr (w.heap.size+1) Vq)) (fun i _=>4 - (intOf i).toNat)
 case atStart=>
  refine⟨0,Nat.zero_le _,rfl,(bR.alloc nR _).alloc (by simp) _,?_,aQ (w.alloc _) _ (by simp) Vq _⟩;rw[a3i,HE.o];exact(az w (Vl (r:Nat) (g:Nat) (b:Nat) (a:Nat)) _).alloc _
 case round=>
  obtain⟨k,hk,rfl,HB,HM,HR⟩:=hrel;by_cases hlt:k<4
  ·obtain⟨x,hx,e1,e2⟩:=HT.o k hlt;have ck:=(HM.o.cell k).trans ((a1j (HL.o.1.trans HL.o.2.symm) (by rw[HL.o.1];exact hlt) (Nat.le_refl k)).trans e1);have HS:=Hd (U3 (HL.o.1.trans HL.o.2.symm) e2);have HC:=Hd (fun w=>Gh x q hx hq w);have hin:=HM.o.inside;clear e1 e2 hx HE HA HT;generalize jv x q=z at*;go_wp2_with (fail);refine(HC.o _).mono ?_;rintro e w2 ⟨rfl,hd⟩;have HB2:=Hd (Jy HB.o nR (hd.below _));have ED:=Hd (hd.blk HM.o);have HR2:=Hd (hd.blk HR.o);clear hd ck hin HB HM HR HC;have hin:=ED.o.inside;have hfr:=ED.o.free k
   obtain⟨vk,ck⟩:∃vk,w2.cell? ⟨w.heap.size,k,none⟩=some vk:=by
    rw[ED.o.cell k];exact⟨_,List.getElem?_eq_getElem (by unfold mix;rw[List.length_append,List.length_take,List.length_drop,HL.o.1,HL.o.2];omega)⟩
   go_wp2_with (fail)
   go_roundw
   case rel=>exact⟨k+1,by omega,by go_num,cO HB2.o nR,by show ax _ _ _;rw[←HS.o];exact ED.o.set k _,HR2.o.other (by omega) k _⟩
   case measure=>simp[intOf];omega
  ·obtain rfl:k=4:=by omega
   have hM:=HM.o;rw[YY HL.o.1 HL.o.2,HA.o]at hM;obtain⟨⟨c0,c1,c2,c3⟩,-,ci⟩:=ax.c4 hM;obtain⟨⟨d0,d1,d2,d3⟩,⟨f0,f1,f2,f3⟩,di⟩:=ax.c4 HR.o;have hR:=Hd (ax.YE HR.o (.int .i64 (tr:Nat)) (.int .i64 (tg:Nat)) (.int .i64 (tb:Nat)) (.int .i64 (ta:Nat)));have HB2:=Hd (Gi HB.o (show w.heap.size<=w.heap.size+1 by omega) (.int .i64 (tr:Nat)) (.int .i64 (tg:Nat)) (.int .i64 (tb:Nat)) (.int .i64 (ta:Nat)));clear hM HM HR HB HT HE HA;go_wp2_with (fail);exact bG rfl rfl hR.o underlying133 rfl af ⟨rfl,HB2.o⟩
end Go.Proofs.YtekdoeilpheklaaGreat
namespace Go.Proofs.YtekdoeilpheklaaGreat
open Go.RowKit
structure Bx where
 a:Int
 b:Int
 c:Int
 d:Int
deriving DecidableEq
def Bx.v(r:Bx):Value:=.agg (Vl r.a r.b r.c r.d).toArray
def Bx.cs(r:Bx):List Value:=(Vl r.a r.b r.c r.d)
def Bx.o:Bx:=⟨0,0,0,0⟩
def Bx.emp(r:Bx):Bool:=decide (r.c<=r.a)||decide (r.d<=r.b)
def Bx.nrm(r:Bx):Bx:=if r.emp=true then Bx.o else r
def Bx.has(r:Bx)(x y:Int):Bool:=decide (r.a<=x)&&(decide (x<r.c)&&(decide (r.b<=y)&&decide (y<r.d)))
theorem WT(r:Bx)(w:World):Calls prog 108 #[r.v] w (aJ (.bool r.emp) w):=by
 obtain⟨a,b,c,d⟩:=r;unfold Bx.v Bx.emp;simp only;by_cases h:c<=a
 ·have t:decide (c<=a)=true:=by simpa using h
  rw[t];go_enter func108,ntmps108;go_wp2_with (fail);go_ret;exact⟨rfl,bR.alloc nR _⟩
 ·have t:decide (c<=a)=false:=by simpa using h
  rw[t];clear h;by_cases h:d<=b
  ·have t2:decide (d<=b)=true:=by simpa using h
   rw[t2];go_enter func108,ntmps108;go_wp2_with (fail);go_ret;exact⟨rfl,bR.alloc nR _⟩
  ·have t2:decide (d<=b)=false:=by simpa using h
   rw[t2];clear h;go_enter func108,ntmps108;go_wp2_with (fail);go_ret;exact⟨rfl,bR.alloc nR _⟩
theorem RD(r:Bx)(w:World):Calls prog 79 #[r.v] w fun e w'=>e=.returned r.nrm.v∧bz w w':=by
 have HE:=Hd (fun w=>WT r w);have HN:Hid (r.nrm=if r.emp=true then Bx.o else r):=rfl;generalize r.emp=y at*
 obtain⟨⟨na,nb,nc,nd⟩,hn⟩:∃n,r.nrm=n:=⟨_,rfl⟩
 rw[hn]at HN;rw[hn];clear hn;obtain⟨a,b,c,d⟩:=r;unfold Bx.v at*;simp only at HE ⊢;go_enter func79,ntmps79;go_wp2_with (fail);refine(HE.o _).mono ?_;rintro e w' ⟨rfl,hb⟩;have hB:Hid (bz w w'):=((bR.alloc nR _).alloc (by simp) _).trans (hb.mono (by simp;try omega));have hR:Hid (ax w' (w.heap.size+1) Vq):=(aQ (w.alloc _) _ (by simp) Vq _).below hb (by simp);have hA:Hid (ax w' w.heap.size (Vl a b c d)):=((az w (Vl a b c d) _).alloc _).below hb (by simp;omega);clear hb;obtain⟨⟨c0,c1,c2,c3⟩,⟨f0,f1,f2,f3⟩,-⟩:=hR.o.c4
 obtain⟨⟨d0,d1,d2,d3⟩,-,-⟩:=hA.o.c4;cases y with
 |true=>
  rw[if_pos rfl]at HN;go_wp2_with (fail);exact bG rfl rfl (hR.o.YE _ _ _ _) underlying75 rfl af ⟨by injection HN.o with h0 h1 h2 h3;rw[h0,h1,h2,h3],Gi hB.o (by omega) _ _ _ _⟩
 |false=>
  rw[if_neg (by decide)]at HN;go_wp2_with (fail);exact bG rfl rfl (hR.o.YE _ _ _ _) underlying75 rfl af ⟨by injection HN.o with h0 h1 h2 h3;rw[h0,h1,h2,h3],Gi hB.o (by omega) _ _ _ _⟩
theorem a0K(r:Bx)(w:World):Calls prog 45 (Vl r.a r.b r.c r.d).toArray w fun e w'=>e=.returned r.nrm.v∧bz w w':=by
 have HE:=Hd (fun w=>RD r w);generalize r.nrm=n at*;obtain⟨na,nb,nc,nd⟩:=n;obtain⟨a,b,c,d⟩:=r;unfold Bx.v at*;simp only at HE ⊢;go_enter func45,ntmps45;go_wp2_with (fail);refine(HE.o _).mono ?_;rintro e w' ⟨rfl,hb⟩;have hB:Hid (bz w w'):=(bR.alloc nR _).trans (hb.mono (by simp;try omega));have hR:Hid (ax w' w.heap.size Vq):=(aQ w _ rfl Vq _).below hb (by simp);clear hb;obtain⟨⟨c0,c1,c2,c3⟩,⟨f0,f1,f2,f3⟩,-⟩:=hR.o.c4;go_wp2_with (fail)
 exact bG rfl rfl (hR.o.YE _ _ _ _) underlying75 rfl af ⟨rfl,Gi hB.o (by omega) _ _ _ _⟩
theorem MM(r:Bx)(x y:Int)(w:World):Calls prog 73 #[r.v,.int .i64 x,.int .i64 y] w (aJ (.bool (r.has x y)) w):=by
 obtain⟨a,b,c,d⟩:=r;unfold Bx.v Bx.has;simp only;generalize h1:decide (a<=x)=t1;generalize h2:decide (x<c)=t2;generalize h3:decide (b<=y)=t3;generalize h4:decide (y<d)=t4;cases t1<;>cases t2<;>cases t3<;>cases t4
 all_goals
  go_enter func73,ntmps73;go_wp2_with (fail);go_ret;exact⟨rfl,bR.alloc nR _⟩
theorem a1P(r s:Bx)(w:World):(binOp .neq 75 r.v s.v).run prog w=.ok (.bool (!decide (r=s))) w:=by
 obtain⟨a,b,c,d⟩:=r;obtain⟨a2,b2,c2,d2⟩:=s;unfold Bx.v;simp only;by_cases h0:a=a2
 ·by_cases h1:b=b2
  ·by_cases h2:c=c2
   ·by_cases h3:d=d2
    ·subst h0;subst h1;subst h2;subst h3;simp only[decide_true];go_simp
    ·rw[decide_eq_false (by simp[h3])];subst h0;subst h1;subst h2;have t:(d==d2)=false:=by simpa using h3
     go_simp
   ·rw[decide_eq_false (by simp[h2])];subst h0;subst h1;have t:(c==c2)=false:=by simpa using h2
    go_simp
  ·rw[decide_eq_false (by simp[h1])];subst h0;have t:(b==b2)=false:=by simpa using h1
   go_simp
 ·rw[decide_eq_false (by simp[h0])];have t:(a==a2)=false:=by simpa using h0
  go_simp
end Go.Proofs.YtekdoeilpheklaaGreat
namespace Go.Proofs.YtekdoeilpheklaaGreat
open Go.RowKit
def mn(x y:Int):Int:=if y<x then y else x
def Yg(w:World)(A:Option Addr)(l:List Bx):Prop:=aT 4 Bx.cs w A l
theorem Yg.below{w w':World}{A:Option Addr}{l:List Bx}(h:Yg w A l)(hb:bz w w'):Yg w' A l:=aT.below h hb
theorem Yg.at_{w:World}{A:Option Addr}{l:List Bx}(h:Yg w A l){j:Nat}(hj:j<l.length):∃b off,A=some ⟨b,off,none⟩∧w.cell? ⟨b,off+j*4,none⟩=some (.int .i64 l[j].a)∧w.cell? ⟨b,off+j*4+1,none⟩=some (.int .i64 l[j].b)∧w.cell? ⟨b,off+j*4+2,none⟩=some (.int .i64 l[j].c)∧w.cell? ⟨b,off+j*4+3,none⟩=some (.int .i64 l[j].d):=by
 obtain⟨b,off,e,hc⟩:=h (by omega);exact⟨b,off,e,hc j hj 0 _ rfl,hc j hj 1 _ rfl,hc j hj 2 _ rfl,hc j hj 3 _ rfl⟩
def JJ(g0 g1 z:Nat)(qs ss us os:List Value)(L:Nat->Bool)(wx:World):Prop:=(L 0=false∨L 4=false->ax wx g0 qs)∧(L 4=true->ax wx g0 us)∧ax wx g1 ss∧ax wx z os
theorem JJ.below{g0 g1 z:Nat}{qs ss us os:List Value}{L:Nat->Bool}{w w':World}(h:JJ g0 g1 z qs ss us os L w)(hb:bz w w'):JJ g0 g1 z qs ss us os L w':=
 ⟨fun e=>(h.1 e).below' hb,fun e=>(h.2.1 e).below' hb,h.2.2.1.below' hb,h.2.2.2.below' hb⟩
end Go.Proofs.YtekdoeilpheklaaGreat
namespace Go.Proofs.YtekdoeilpheklaaGreat
open Go.RowKit
def J2I(g0 g1:Nat)(p q:List Value)(w:World):Prop:=ax w g0 p∧ax w g1 q
theorem J2I.below{g0 g1:Nat}{p q:List Value}{w w':World}(h:J2I g0 g1 p q w)(hb:bz w w'):J2I g0 g1 p q w':=⟨h.1.below' hb,h.2.below' hb⟩
def Bx.rt(r:Bx):Bool:=decide ((-1073741824<=r.a∧r.a<=1073741824)∧(-1073741824<=r.b∧r.b<=1073741824)∧(-1073741824<=r.c∧r.c<=1073741824)∧(-1073741824<=r.d∧r.d<=1073741824))
def Bx.grow(r:Bx)(n:Int):Bx:=if r.emp=true then Bx.o else Bx.nrm ⟨r.a - n,r.b - n,r.c+n,r.d+n⟩
def Bx.wide(r:Bx):Bool:=decide ((-1099511627776<=r.a∧r.a<=1099511627776)∧(-1099511627776<=r.b∧r.b<=1099511627776)∧(-1099511627776<=r.c∧r.c<=1099511627776)∧(-1099511627776<=r.d∧r.d<=1099511627776))
end Go.Proofs.YtekdoeilpheklaaGreat
namespace Go.Proofs.YtekdoeilpheklaaGreat
namespace fV
structure Eg where
 y:Int
 x0:Int
 x1:Int
 m:Int
instance:Inhabited Eg:=⟨⟨0,0,0,0⟩⟩
def ind(p:Bool):Int:=if p=true then 1 else 0
def Eg.st(e:Eg)(x:Int):Int:=e.m*(ind (decide (e.x0=x)) - ind (decide (e.x1=x)))
def tot(f:Eg->Int):List Eg->Int
 |[]=>0
 |e::l=>f e+tot f l
def cnt(F:Nat->Bool):Nat->Nat
 |0=>0
 |n+1=>cnt F n+if F n=true then 1 else 0
end fV
end Go.Proofs.YtekdoeilpheklaaGreat
namespace Go.Proofs.YtekdoeilpheklaaGreat
open Go.RowKit fH fV
def yl(W H:Int)(A:Option Addr)(n c:Nat):Value:=.agg (Vn W H A n c).toArray
def eW(n:Nat):Value:=.int .u32 (n:Nat)
theorem ax.c3{w:World}{g:Nat}{p q r:Value}(h:ax w g [p,q,r]):(w.cell? ⟨g,0,none⟩=some p∧w.cell? ⟨g,1,none⟩=some q∧w.cell? ⟨g,2,none⟩=some r) ∧
  (w.frozen? ⟨g,0,none⟩=false∧w.frozen? ⟨g,1,none⟩=false∧w.frozen? ⟨g,2,none⟩=false)∧g<w.heap.size:=
 ⟨⟨h.cell 0,h.cell 1,h.cell 2⟩,⟨h.free 0,h.free 1,h.free 2⟩,h.inside⟩
theorem mx2(x y:Int):∃M:Int,(∀(P:Program) (w:World) (ts:Array TypeId) (t:TypeId),(Builtin.max_ ts t #[.int .i64 x,.int .i64 y]).run P w=.ok (.int .i64 M) w)∧(∀a,M<=a↔x<=a∧y<=a):=by
 refine⟨_,fun P w ts t=>run_max_int2 w ts t _ _ x y,fun a=>?_⟩;split<;>omega
theorem mn2(x y:Int):∃M:Int,(∀(P:Program) (w:World) (ts:Array TypeId) (t:TypeId),(Builtin.min_ ts t #[.int .i64 x,.int .i64 y]).run P w=.ok (.int .i64 M) w)∧(∀a,a<=M↔a<=x∧a<=y):=by
 refine⟨_,fun P w ts t=>run_min_int2 w ts t _ _ x y,fun a=>?_⟩;split<;>omega
def dR(W H:Int):Bool:=decide (1<=W∧1<=H∧W<=4096∧H<=4096)
theorem DV(W H:Int)(w:World):Calls prog 170 #[.int .i64 W,.int .i64 H] w (aJ (.bool (dR W H)) w):=by
 obtain⟨M,hmax,hM⟩:=mx2 W H;obtain⟨m,hmin,hm⟩:=mn2 W H;specialize hM 4096;specialize hm 1;by_cases t1:1<=m
 ·have t:decide (1<=m)=true:=by simpa using t1
  have HS:Hid (dR W H=decide (M<=4096)):=decide_eq_decide.2 (by omega);generalize dR W H=S at*;generalize hd:decide (M<=4096)=d at*;clear hM hm t1;go_enter func170,ntmps170;go_wp2_with (fail);go_ret;exact⟨aG HS.o.symm,bR⟩
 ·have t:decide (1<=m)=false:=by simpa using t1
  have HS:Hid (dR W H=false):=decide_eq_false (by omega);generalize dR W H=S at*;clear hM hm t1;go_enter func170,ntmps170;go_wp2_with (fail);go_ret;exact⟨aG HS.o.symm,bR⟩
def iD(W H:Int)(n:Nat):Bool:=dR W H&&decide ((n:Int)=W*H)
theorem iU{W H:Int}:dR W H=true↔1<=W∧1<=H∧W<=4096∧H<=4096:=by unfold dR;exact decide_eq_true_iff
theorem xh{W H:Int}(h:dR W H=true):1<=W*H∧W*H<=16777216:=by
 obtain⟨h1,h2,h3,h4⟩:=iU.1 h;have e1:0<=(W - 1)*H:=Int.mul_nonneg (by omega) (by omega);have e2:0<=(4096 - W)*H:=Int.mul_nonneg (by omega) (by omega);rw[Int.sub_mul]at e1 e2;omega
theorem Gj{w w1:World}{o:Obj}(hb:Below (w.alloc o).heap.size (w.alloc o) w1):bz w w1:=(bR.alloc nR _).trans (hb.mono (by simp))
theorem PV(W H:Int)(A:Option Addr)(n c:Nat)(hn:n<=maxLen)(w:World):Calls prog 171 #[yl W H A n c] w (aJ (.bool (iD W H n)) w):=by
 have HS:=Hd (fun w=>DV W H w);have HW:Hid (iD W H n=(dR W H&&decide ((n:Int)=W*H))):=rfl;have HM:=Hd (fun h=>xh (W:=W) (H:=H) h)
 replace hn:n<=9223372036854775807:=by unfold maxLen at hn;omega
 generalize iD W H n=R at*;generalize dR W H=S at*;unfold yl;go_enter func171,ntmps171;go_wp2_with (fail);refine(HS.o _).mono ?_;rintro e w1 ⟨rfl,hb⟩;have hB:=Hd (Gj hb);have hR:Hid (ax w1 w.heap.size (Vn W H A n c)):=(aQ w _ rfl (Vn W H A n c) _).below hb (by simp);clear hb HS;obtain⟨⟨c0,c1,c2⟩,-,ci⟩:=hR.o.c3;cases S with
 |false=>
  go_wp2_with (fail);go_ret;exact⟨aG HW.o.symm,hB.o⟩
 |true=>
  obtain⟨m1,m2⟩:=HM.o rfl;have q:wrap64 (W*H)=W*H:=IntWalk.wrap64_in _ (by omega);have HW2:=HW.o;rw[Bool.true_and]at HW2;clear HW HM m1 m2;by_cases t1:(n:Int)=W*H
  ·have t:decide ((n:Int)=W*H)=true:=by simpa using t1
   rw[t]at HW2;subst HW2;have q1:((n:Int)==W*H)=true:=by rw[t1];simp
   clear t1;go_wp2_with (fail);go_ret;exact⟨rfl,hB.o⟩
  ·have t:decide ((n:Int)=W*H)=false:=by simpa using t1
   rw[t]at HW2;subst HW2;have q1:((n:Int)==W*H)=false:=by simpa using t1
   clear t1;go_wp2_with (fail);go_ret;exact⟨rfl,hB.o⟩
theorem QY(W H:Int)(A:Option Addr)(n c:Nat)(w:World):Calls prog 125 #[yl W H A n c] w (aJ (Bx.v ⟨0,0,W,H⟩) w):=by
 unfold yl Bx.v;simp only;go_enter func125,ntmps125;go_wp2_with (fail);exact bG rfl rfl (aQ (w.alloc _) _ (by simp) (Vr W H) _) underlying75 rfl af ⟨rfl,(bR.alloc nR _).alloc (by simp) _⟩
def rb(z:Nat):Bool:=(oC z).bW
theorem Oi(z:Nat)(hz:z<4294967296)(w:World):Calls prog 161 #[.int .u32 (z:Nat)] w fun e w'=>e=.returned (.bool (rb z))∧dn w w':=by
 have:=Ld (oC z) (qX hz) w;rw[Oo]at this;exact this
def chk(W H:Int)(l:List Nat):Int:=if dR W H=true then (if iD W H l.length=true then (if l.all rb=true then 0 else 10) else 10) else 11
theorem xC{α:Type}{p:α->Bool}{l:List α}{k:Nat}(h:(l.take k).all p=true)(hk:k<l.length)(hp:p l[k]=true):(l.take (k+1)).all p=true:=by
 rw[List.take_succ_eq_append_getElem hk,List.all_append,h];simp[hp]
theorem Nh{α:Type}{p:α->Bool}{l:List α}{k:Nat}(hk:k<l.length)(hp:p l[k]=false):l.all p=false:=by
 rw[List.all_eq_false];exact⟨_,List.getElem_mem hk,by rw[hp];simp⟩
theorem check_any(W H:Int)(A:Option Addr)(l:List Nat)(c:Nat)(hl:∀z∈l,z<4294967296)(hn:l.length<=maxLen)(w:World)(hr:Row eW w A l) :
  Calls prog 168 #[yl W H A l.length c] w (aJ (.int .i64 (chk W H l)) w):=by
 have HS:=Hd (fun w=>DV W H w);have HW:=Hd (fun w=>PV W H A l.length c hn w);have HC:Hid (chk W H l=if dR W H=true then (if iD W H l.length=true then (if l.all rb=true then 0 else 10) else 10) else 11):=rfl
 replace hn:l.length<=9223372036854775807:=by unfold maxLen at hn;omega
 generalize chk W H l=R at*;generalize iD W H l.length=T at*;generalize dR W H=S at*;unfold yl at*;go_enter func168,ntmps168;go_wp2_with (fail);refine(HS.o _).mono ?_;rintro e w1 ⟨rfl,hb⟩;have hB:=Hd (Gj hb);have hR:Hid (ax w1 w.heap.size (Vn W H A l.length c)):=(aQ w _ rfl (Vn W H A l.length c) _).below hb (by simp);clear hb HS;obtain⟨⟨c0,c1,c2⟩,-,ci⟩:=hR.o.c3;cases S with
 |false=>
  go_wp2_with (fail);go_ret;exact⟨aA HC.o.symm,hB.o⟩
 |true=>
  go_wp2_with (fail);refine(HW.o _).mono ?_;rintro e w2 ⟨rfl,hb⟩;have hB2:Hid (bz w w2):=hB.o.trans (hb.mono hB.o.size);have hR2:Hid (ax w2 w.heap.size (Vn W H A l.length c)):=hR.o.below' hb;clear hb HW hB hR c0 c1 c2 ci;obtain⟨⟨c0,c1,c2⟩,-,ci⟩:=hR2.o.c3;cases T with
  |false=>
   go_wp2_with (fail);go_ret;exact⟨aA HC.o.symm,hB2.o⟩
  |true=>
   have HC2:Hid (R=if l.all rb=true then 0 else 10):=HC.o;have HR:=Hd (hr.below hB2.o);have HL:=Hd hl;clear hr HC hl;go_wp2_with (fail);clear c0 c1 c2 ci
   go_loopw [17] (fun i wr=>∃k:Nat,k<=l.length∧i=.int .i64 k∧Hid ((l.take k).all rb=true)∧Hid (dn w2 wr)) (fun i _=>l.length - (intOf i).toNat)
   case atStart=>exact⟨0,Nat.zero_le _,rfl,rfl,dn.refl _⟩
   case round=>
    obtain⟨k,hk,rfl,HK,HD⟩:=hrel;by_cases hlt:k<l.length
    ·obtain⟨b,off,eA,hc⟩:=(HR.o.below (HD.o.below _)).at_ hlt;have hA:=Hd eA;subst eA;have hz:l[k]<4294967296:=HL.o _ (List.getElem_mem hlt);have HP:=Hd (fun w=>Oi l[k] hz w);have H1:=Hd (xC HK.o hlt);have H0:=Hd (Nh (p:=rb) hlt);clear hA;generalize l[k]=z at*;unfold eW at hc;go_wp2_with (fail);refine(HP.o _).mono ?_;rintro e w3 ⟨rfl,hd⟩;have HD3:=Hd (HD.o.trans hd);clear hd HP hc;generalize rb z=y at*;cases y with
     |false=>
      have HF:=Hd (HC2.o.trans (if_neg (by rw[H0.o rfl];decide)));go_wp2_with (fail);go_ret;exact⟨aA HF.o.symm,hB2.o.trans (HD3.o.below _)⟩
     |true=>
      go_wp2_with (fail)
      go_roundw
      case rel=>exact⟨k+1,by omega,by go_num,H1.o (by trivial),HD3⟩
      case measure=>simp[intOf];omega
    ·obtain rfl:k=l.length:=by omega
     have HF:=Hd (HC2.o.trans (if_pos (by have:=HK.o;rwa [List.take_length]at this)));have t:decide (l.length<l.length)=false:=by simp
     go_wp2_with (fail);go_ret;exact⟨aA HF.o.symm,hB2.o.trans (HD.o.below _)⟩
def jE(W H:Int)(l:List Nat):Bool:=decide (W<=256∧H<=256)&&decide (chk W H l=0)
theorem Qa(W H:Int)(A:Option Addr)(l:List Nat)(c:Nat)(hl:∀z∈l,z<4294967296)(hn:l.length<=maxLen)(w:World)(hr:Row eW w A l) :
  Calls prog 162 #[yl W H A l.length c] w (aJ (.bool (jE W H l)) w):=by
 have HC:=Hd (fun w hr=>check_any W H A l c hl hn w hr);have HB:Hid (jE W H l=(decide (W<=256∧H<=256)&&decide (chk W H l=0))):=rfl;obtain⟨M,hmax,hM⟩:=mx2 W H;specialize hM 256
 replace hn:l.length<=9223372036854775807:=by unfold maxLen at hn;omega
 generalize jE W H l=R at*;generalize chk W H l=K at*;have HR:=Hd hr;unfold yl at*;by_cases t1:M<=256
 ·have t:decide (M<=256)=true:=by simpa using t1
  have HB2:Hid (R=decide (K=0)):=by rw[HB.o,decide_eq_true (hM.1 t1),Bool.true_and];exact rfl
  clear hM HB t1 hr;go_enter func162,ntmps162;go_wp2_with (fail);refine(HC.o _ (HR.o.alloc _)).mono ?_;rintro e w1 ⟨rfl,hb⟩;have hB:=Hd (Gj hb);clear hb HC;by_cases k0:K=0
  ·have q:(K==0)=true:=by simpa using k0
   have HB3:=Hd (HB2.o.trans (decide_eq_true k0));clear k0;go_wp2_with (fail);go_ret;exact⟨aG HB3.o.symm,hB.o⟩
  ·have q:(K==0)=false:=by simpa using k0
   have HB3:=Hd (HB2.o.trans (decide_eq_false k0));clear k0;go_wp2_with (fail);go_ret;exact⟨aG HB3.o.symm,hB.o⟩
 ·have t:decide (M<=256)=false:=by simpa using t1
  have HB2:Hid (R=false):=by rw[HB.o,decide_eq_false (fun h=>t1 (hM.2 h)),Bool.false_and];exact rfl
  clear hM HB t1 hr HC;go_enter func162,ntmps162;go_wp2_with (fail);go_ret;exact⟨aG HB2.o.symm,bR.alloc nR _⟩
end Go.Proofs.YtekdoeilpheklaaGreat
namespace Go.Proofs.YtekdoeilpheklaaGreat
open Go.RowKit fH fV
def inB(W H x y:Int):Bool:=Bx.has ⟨0,0,W,H⟩ x y
theorem Fh{W H x y:Int}:inB W H x y=true↔0<=x∧x<W∧0<=y∧y<H:=by
 unfold inB Bx.has;simp only[Bool.and_eq_true,decide_eq_true_eq]
theorem wJ{W H:Int}{n:Nat}:iD W H n=true↔dR W H=true∧(n:Int)=W*H:=by
 unfold iD;rw[Bool.and_eq_true,decide_eq_true_eq]
theorem Aa{W H x y:Int}{n:Nat}(h:iD W H n=true)(hi:inB W H x y=true):0<=y*W+x∧y*W+x<n∧0<=y*W∧y*W<=16777216:=by
 obtain⟨h1,h2⟩:=wJ.1 h;obtain⟨s1,s2,s3,s4⟩:=iU.1 h1;obtain⟨x1,x2,y1,y2⟩:=Fh.1 hi;have e1:0<=y*W:=Int.mul_nonneg y1 (by omega);have e2:0<=(H - 1 - y)*W:=Int.mul_nonneg (by omega) (by omega);have e3:(H - 1 - y)*W=W*H - W - y*W:=by rw[Int.sub_mul,Int.sub_mul,Int.mul_comm H W];omega
 have:=(xh h1).2;omega
def Nr(W H x y:Int)(w:World)(e:Ending)(w':World):Prop:=∃k:Int,e=.returned (.tuple #[.int .i64 k,.bool (inB W H x y)])∧(inB W H x y=true->k=y*W+x)∧bz w w'
theorem Qo(W H:Int)(A:Option Addr)(n c:Nat)(x y:Int)(hw:iD W H n=true)(hn:n<=maxLen)(w:World) :
  Calls prog 102 #[yl W H A n c,.int .i64 x,.int .i64 y] w (Nr W H x y w):=by
 have HF:=Hd (fun w=>QY W H A n c w);have HH:=Hd (fun w=>MM ⟨0,0,W,H⟩ x y w);have HI:Hid (Bx.has ⟨0,0,W,H⟩ x y=inB W H x y):=rfl;have HP:=Hd (fun h=>Aa (x:=x) (y:=y) hw h);have hn:n<=9223372036854775807:=by unfold maxLen at hn;omega
 clear hw;unfold Nr;generalize inB W H x y=y1 at*;unfold yl Bx.v at*;simp only at HH HF;go_enter func102,ntmps102;go_wp2_with (fail);have HB:Hid (bz w (w.alloc (.cells (Vn W H A n c).toArray 47))):=bR.alloc nR _
 have CP:Hid (lu [(w.heap.size,(Vn W H A n c))] (w.alloc (.cells (Vn W H A n c).toArray 47))):=⟨aQ w _ rfl (Vn W H A n c) _,trivial⟩
 generalize w.alloc (.cells (Vn W H A n c).toArray 47)=wz at*;cases y1 with
 |true=>
  obtain⟨p1,p2,p3,p4⟩:=HP.o rfl;have e:wrap64 (wrap64 (y*W)+x)=y*W+x:=by rw[IntWalk.wrap64_in (y*W) (by omega)];exact IntWalk.wrap64_in _ (by omega)
  rw[e];have HQ:=Hd (And.intro p1 p2);clear e p1 p2 p3 p4 HP
  obtain⟨k,hk⟩:=aB (y*W+x)
  rw[hk]at HQ ⊢;have HK:=Hd hk;clear hk;have t1:decide (0<=k)=true:=decide_eq_true HQ.o.1;have t2:decide (k<(n:Int))=true:=decide_eq_true HQ.o.2
  refine wR (regs.bl) (fun _ wx=>lu [(w.heap.size,(Vn W H A n c))] wx) [15,16,17,18,19,20,21,22,23,24,25,26,27,28,29,30,31,6,7] (fun _=>regs.vJ _) (regs.vI) (fun i=>match i with
   |0|7|11|17=>rV (.int .i64 k)
   |1=>rV (.agg (Vn W H A n c).toArray)
   |2=>rV (.agg (Vr W H).toArray)
   |3=>rV (.int .i64 x)
   |4=>rV (.int .i64 y)
   |5|6|8|9|10|15|16|18=>rT
   |12=>rp w.heap.size 2
   |13=>rV (.slice A n c)
   |14=>rV (.int .i64 n)
   |_=>ra) (bR.drew) (CP.o) ⟨?_,?_,?_,?_,?_,?_,?_,?_,?_,?_,?_,?_,?_,?_,?_,?_,?_,?_,?_,trivial⟩ ?_
  any_goals (first|refine zp fun L a w1 hh=>?_|fail)
  any_goals (first|refine sy rfl rfl fun L a w1 hh=>?_|fail)
  have h8:=hh.o 8 (v:=.int .i64 k) rfl;rotate_left
  ·have h3:=hh.p 3 w.heap.size 0;obtain⟨⟨c0,c1,c2⟩,-,ci⟩:=(hh.st.1).c3;have hJ:=hh.j;clear hh;go_simp;exact⟨_,rfl,rB,rfl,hJ.o⟩
  ·have h16:=rq (hh.d 1 16);have:=True.intro;have hJ:=hh.j;clear hh;go_simp;refine(HF.o w1).mono ?_;rintro e w9 ⟨rfl,aS⟩;exact⟨_,rfl,aS,rfl,lu.below hJ.o aS⟩
  have h1:=hh.o 1 (v:=.int .i64 x) rfl;rotate_left;have h2:=hh.o 2 (v:=.int .i64 y) rfl;rotate_left
  ·have h17:=rq (hh.d 2 17);have h18:=rq (hh.d 3 18);have h19:=rq (hh.d 4 19);have:=True.intro;have hJ:=hh.j;clear hh;go_simp;refine(HH.o w1).mono ?_;rintro e w9 ⟨rfl,aS⟩;exact⟨_,rfl,aS,congrArg Value.bool HI.o,lu.below hJ.o aS⟩
  have h20:=rq (hh.d 5 20);rotate_left;have h8:=hh.o 8 (v:=.int .i64 k) rfl;rotate_left;have h22:=rq (hh.d 7 22);rotate_left;have h21:=rq (hh.d 6 21);have h23:=rq (hh.d 8 23);rotate_left;have tq:=rq (hh.d 9 24);rotate_left;have h8:=hh.o 8 (v:=.int .i64 k) rfl;rotate_left;have h3:=hh.p 3 w.heap.size 0;rotate_left
  ·have h27:=rq (hh.d 12 27);obtain⟨⟨c0,c1,c2⟩,-,ci⟩:=(hh.st.1).c3;have hJ:=hh.j;clear hh;go_simp;exact⟨_,rfl,rB,rfl,hJ.o⟩
  have h28:=rq (hh.d 13 28);rotate_left;have CJ:=rq (hh.d 11 26);have yw:=rq (hh.d 14 29);rotate_left;have xq:=rq (hh.d 10 25);have h30:=rq (hh.d 15 30);rotate_left;have h15:=rq (hh.d 0 15);rotate_left;have h31:=rq (hh.d 16 31);rotate_left
  any_goals (have hJ:=hh.j;clear hh;go_simp;exact⟨_,rfl,rB,rfl,hJ.o⟩)
  intro L w5 val hL hJ hR hv;have h6:val 6=.int .i64 k:=hv 17 6 af;have h7:val 7=.bool true:=hv 18 7 af;have uk:=Hd hJ;have jQ:=Hd hR;clear hv hL hJ hR;simp only[regs.aC,List.map_cons,List.map_nil];rw[h6,h7];generalize val 15=v15;generalize val 16=v16;generalize val 17=v17;generalize val 18=v18;generalize val 19=v19;generalize val 20=v20;generalize val 21=v21;generalize val 22=v22;generalize val 23=v23;generalize val 24=v24;generalize val 25=v25;generalize val 26=v26;generalize val 27=v27;generalize val 28=v28;generalize val 29=v29;generalize val 30=v30
  generalize val 31=v31;simp only[Act.put,List.setIfInBounds_toArray,List.set_cons_zero,List.set_cons_succ];clear h6 h7;go_wp2_with (fail);go_ret2;exact⟨k,rfl,HK.o.symm,HB.o.trans (jQ.o.mono HB.o.size)⟩
 |false=>
  clear HP;generalize wrap64 (wrap64 (y*W)+x)=k
  refine wR (regs.bl) (fun _ wx=>lu [(w.heap.size,(Vn W H A n c))] wx) [15,16,17,18,19,20,21,22,23,24,25,26,27,28,29,30,31,6,7] (fun _=>regs.vJ _) (regs.vI) (fun i=>match i with
   |0|17=>rV (.int .i64 k)
   |1=>rV (.agg (Vn W H A n c).toArray)
   |2=>rV (.agg (Vr W H).toArray)
   |3=>rV (.int .i64 x)
   |4=>rV (.int .i64 y)
   |5|6|9|10|16|18=>rV (.bool false)
   |7|8|11|12|13|14|15=>rV (undef)
   |_=>ra) (bR.drew) (CP.o) ⟨?_,?_,?_,?_,?_,?_,?_,?_,?_,?_,?_,?_,?_,?_,?_,?_,?_,?_,?_,trivial⟩ ?_
  any_goals (first|refine zp fun L a w1 hh=>?_|fail)
  have h8:=hh.o 8 (v:=.int .i64 k) rfl;rotate_left
  ·have h3:=hh.p 3 w.heap.size 0;obtain⟨⟨c0,c1,c2⟩,-,ci⟩:=(hh.st.1).c3;have hJ:=hh.j;clear hh;go_simp;exact⟨_,rfl,rB,rfl,hJ.o⟩
  ·have h16:=rq (hh.d 1 16);have:=True.intro;have hJ:=hh.j;clear hh;go_simp;refine(HF.o w1).mono ?_;rintro e w9 ⟨rfl,aS⟩;exact⟨_,rfl,aS,rfl,lu.below hJ.o aS⟩
  have h1:=hh.o 1 (v:=.int .i64 x) rfl;rotate_left;have h2:=hh.o 2 (v:=.int .i64 y) rfl;rotate_left
  ·have h17:=rq (hh.d 2 17);have h18:=rq (hh.d 3 18);have h19:=rq (hh.d 4 19);have:=True.intro;have hJ:=hh.j;clear hh;go_simp;refine(HH.o w1).mono ?_;rintro e w9 ⟨rfl,aS⟩;exact⟨_,rfl,aS,congrArg Value.bool HI.o,lu.below hJ.o aS⟩
  have h20:=rq (hh.d 5 20);rotate_left
  ·refine sz rfl rfl
  ·refine sz rfl rfl
  have h21:=rq (hh.d 6 21);rotate_left;have tq:=rq (hh.d 9 24);rotate_left
  ·refine sz rfl rfl
  ·refine sz rfl rfl
  ·refine sz rfl rfl
  ·refine sz rfl rfl
  ·refine sz rfl rfl
  have xq:=rq (hh.d 10 25);rotate_left;have h15:=rq (hh.d 0 15);rotate_left;have h31:=rq (hh.d 16 31);rotate_left
  any_goals (have hJ:=hh.j;clear hh;go_simp;exact⟨_,rfl,rB,rfl,hJ.o⟩)
  intro L w5 val hL hJ hR hv;have h6:val 6=.int .i64 k:=hv 17 6 af;have h7:val 7=.bool false:=hv 18 7 af;have uk:=Hd hJ;have jQ:=Hd hR;clear hv hL hJ hR;simp only[regs.aC,List.map_cons,List.map_nil];rw[h6,h7];generalize val 15=v15;generalize val 16=v16;generalize val 17=v17;generalize val 18=v18;generalize val 19=v19;generalize val 20=v20;generalize val 21=v21;generalize val 22=v22;generalize val 23=v23;generalize val 24=v24;generalize val 25=v25;generalize val 26=v26;generalize val 27=v27;generalize val 28=v28;generalize val 29=v29;generalize val 30=v30
  generalize val 31=v31;simp only[Act.put,List.setIfInBounds_toArray,List.set_cons_zero,List.set_cons_succ];clear h6 h7;go_wp2_with (fail);go_ret2;exact⟨k,rfl,(fun h=>nomatch h),HB.o.trans (jQ.o.mono HB.o.size)⟩
structure Off(S:List Nat)(w w':World):Prop where
 os:w'.os=w.os
 tape:w'.tape=w.tape
 output:w'.output=w.output
 size:w.heap.size<=w'.heap.size
 far:∀k,k<w.heap.size->k∉S->w'.heap[k]?=w.heap[k]?
theorem Off.refl(S:List Nat)(w:World):Off S w w:=⟨rfl,rfl,rfl,nR,fun _ _ _=>rfl⟩
theorem Off.trans{S:List Nat}{a b c:World}(h:Off S a b)(k:Off S b c):Off S a c:=
 ⟨k.os.trans h.os,k.tape.trans h.tape,k.output.trans h.output,Nat.le_trans h.size k.size,fun j hj hn=>(k.far j (Nat.lt_of_lt_of_le hj h.size) hn).trans (h.far j hj hn)⟩
theorem Off.of_below{S:List Nat}{w w':World}(hb:bz w w'):Off S w w':=⟨hb.os,hb.tape,hb.output,hb.size,fun k hk _=>hb.block k hk⟩
theorem Off.set{S:List Nat}{w:World}{g:Nat}(hg:g∈S)(i:Nat)(v:Value):Off S w (w.setCell ⟨g,i,none⟩ v):=
 ⟨rfl,rfl,rfl,by simp[World.setCell],fun k _ hn=>Below.heap_setCell _ _ _ _ (fun e=>hn (by rw[e];exact hg))⟩
theorem Off.aV{S:List Nat}{w w':World}{B:Nat}(h:Off S w w')(hB:B<=w.heap.size)(hS:∀g∈S,B<=g):Below B w w':=
 ⟨h.os,h.tape,h.output,h.size,fun k hk=>h.far k (by omega) (fun hm=>by have:=hS k hm;omega)⟩
theorem Off.mono{S S':List Nat}{w w':World}(h:Off S w w')(hS:∀g∈S,g∈S'):Off S' w w':=⟨h.os,h.tape,h.output,h.size,fun k hk hn=>h.far k hk fun hm=>hn (hS k hm)⟩
theorem Off.blk{S:List Nat}{w w':World}{g:Nat}{cs:List Value}(h:Off S w w')(hb:ax w g cs)(hg:g∉S):ax w' g cs:=hb.stays (h.far g hb.inside hg)
def Px(w:World)(g:Nat)(l:List Nat):Prop:=∃tail,ax w g (l.map eW++tail)
section
variable {w w':World}{g:Nat}{l:List Nat}
theorem Px.inside(h:Px w g l):g<w.heap.size:=by obtain⟨_,h⟩:=h;exact h.inside
theorem Px.cell(h:Px w g l){j:Nat}(hj:j<l.length):w.cell? ⟨g,j,none⟩=some (eW l[j]):=by
 obtain⟨t,h⟩:=h;rw[h.cell j,List.getElem?_append_left (by simpa using hj),List.getElem?_map,List.getElem?_eq_getElem hj];rfl
theorem Px.free(h:Px w g l)(j:Nat):w.frozen? ⟨g,j,none⟩=false:=by obtain⟨_,h⟩:=h;exact h.free j
theorem Px.stays(h:Px w g l)(hb:w'.heap[g]?=w.heap[g]?):Px w' g l:=by obtain⟨t,h⟩:=h;exact⟨t,h.stays hb⟩
theorem Px.below(h:Px w g l)(hb:bz w w'):Px w' g l:=h.stays (hb.block g h.inside)
theorem Px.off{S:List Nat}(h:Px w g l)(ho:Off S w w')(hg:g∉S):Px w' g l:=h.stays (ho.far g h.inside hg)
theorem Px.set(h:Px w g l){j:Nat}(hj:j<l.length)(v:Nat):Px (w.setCell ⟨g,j,none⟩ (eW v)) g (l.set j v):=by
 obtain⟨t,h⟩:=h;refine⟨t,?_⟩;have:=h.set j (eW v);rw[List.set_append,if_pos (by simpa using hj)]at this;rw[List.map_set];exact this
theorem Px.row(h:Px w g l):Row eW w (some ⟨g,0,none⟩) l:=fun _=>⟨g,0,rfl,fun j hj=>by rw[Nat.zero_add];exact h.cell hj⟩
end
def yf(W H:Int)(l:List Nat)(x y:Int):Nat:=if inB W H x y=true then l.getD (y*W+x).toNat 0 else 0
theorem a1U(W H:Int)(A:Option Addr)(l:List Nat)(c:Nat)(x y:Int)(hw:iD W H l.length=true)(hn:l.length<=maxLen)(w:World)(hr:Row eW w A l) :
  Calls prog 72 #[yl W H A l.length c,.int .i64 x,.int .i64 y] w (aJ (.int .u32 (yf W H l x y:Nat)) w):=by
 have HP:=Hd (fun w=>Qo W H A l.length c x y hw hn w);have HI:=Hd (fun h=>Aa (x:=x) (y:=y) hw h);have HA:Hid (yf W H l x y=if inB W H x y=true then l.getD (y*W+x).toNat 0 else 0):=rfl;have HR:=Hd hr;have hn:l.length<=9223372036854775807:=by unfold maxLen at hn;omega
 clear hr hw;generalize yf W H l x y=R at*;unfold Nr at HP;generalize inB W H x y=b1 at*;unfold yl at*;go_enter func72,ntmps72;go_wp2_with (fail);refine(HP.o _).mono ?_;rintro e w1 ⟨k,rfl,hk,hb⟩;have HB:=Hd (Gj hb);have hR:Hid (ax w1 w.heap.size (Vn W H A l.length c)):=(aQ w _ rfl (Vn W H A l.length c) _).below hb (by simp);have HK:=Hd hk;clear hb hk HP;obtain⟨⟨c0,c1,c2⟩,-,ci⟩:=hR.o.c3;cases b1 with
 |true=>
  obtain⟨p1,p2,-,-⟩:=HI.o rfl
  obtain⟨j,hj⟩:∃j:Nat,y*W+x=(j:Nat):=⟨(y*W+x).toNat,by omega⟩
  have hjl:j<l.length:=by rw[hj]at p2;omega
  have HA2:Hid (R=l[j]):=by
   have h2:=HA.o;rw[if_pos rfl,hj,Int.toNat_natCast]at h2;exact h2.trans (by simp[hjl])
  have hkj:k=(j:Nat):=(HK.o rfl).trans hj;subst hkj;obtain⟨b,off,eA,hc⟩:=(HR.o.below HB.o).at_ hjl;subst eA;have t:decide (j<l.length)=true:=by simpa using hjl
  clear HK HI HA hj p1 p2 HR;generalize l[j]=z at*;unfold eW at hc;go_wp2_with (fail);go_ret;exact⟨aA (by rw[HA2.o]),HB.o⟩
 |false=>
  clear HK HI HR;go_wp2_with (fail);go_ret;exact⟨aA (by rw[HA.o];rfl),HB.o⟩
end Go.Proofs.YtekdoeilpheklaaGreat
