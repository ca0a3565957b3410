import Derived.Test.YthmegninhpihkaaGreatVScA
import Derived.Deep.QuietTactic
import Derived.BigQuiet
import Derived.Laws.BitsLemmas
set_option maxHeartbeats 16000000
set_option maxRecDepth 100000
open Go.Proofs.Tryz
namespace Go.Proofs.YthmegninhpihkaaGreat
section
open Go.RowKit
def lG(n d:Int):Int:=if d - n % d<=n % d then n / d+1 else n / d
theorem oz(n d:Int)(h1:-4611686018427387904<=n)(h2:n<=4611686018427387904)(h3:1<=d)(h4:d<=4611686018427387904) :
  (-4611686018427387904<=n.tdiv d∧n.tdiv d<=4611686018427387904)∧(-d<n.tmod d∧n.tmod d<d) ∧
  (n.tmod d<0->n / d=n.tdiv d - 1∧n % d=n.tmod d+d∧-4611686018427387904<=n.tdiv d - 1)∧(0<=n.tmod d->n / d=n.tdiv d∧n % d=n.tmod d):=by
 have g1:=Int.emod_nonneg n (show d≠0 by omega);have g2:=Int.emod_lt_of_pos n (show 0<d by omega);have g3:=Int.tdiv_eq_ediv (a:=n) (b:=d);have g4:=Int.tmod_eq_emod (a:=n) (b:=d);have hs:d.sign=1:=Int.sign_eq_one_of_pos (by omega);have hn:(d.natAbs:Int)=d:=by omega
 have b1:-4611686018427387904<=n / d∧n / d<=4611686018427387904:=by
  constructor
  ·rcases(by omega:0<=n∨n<0) with h|h
   ·have:=Int.ediv_nonneg h (show 0<=d by omega);omega
   ·have hm:n*d<=n*1:=Int.mul_le_mul_of_nonpos_left (by omega) h3;have:=Int.le_ediv_of_mul_le (show 0<d by omega) (show n*d<=n by omega);omega
  ·rcases(by omega:0<=n∨n<0) with h|h
   ·have:=Int.ediv_le_self d h;omega
   ·have:=Int.ediv_neg_of_neg_of_pos h (show 0<d by omega);omega
 rcases(by omega:0<=n∨n<0) with h|h
 ·simp only[h,true_or,if_true]at g3 g4;omega
 ·have hng:¬0<=n:=by omega
  by_cases h0:d ∣ n
  ·simp only[h0,or_true,if_true]at g3 g4;have:=Int.emod_eq_zero_of_dvd h0;omega
  ·simp only[h0,hng,or_self,if_false,hs,hn]at g3 g4
   have:0<n % d:=by
    rcases(by omega:n % d=0∨0<n % d) with h5|h5
    ·exact absurd (Int.dvd_of_emod_eq_zero h5) h0
    ·exact h5
   have b2:n / d<0:=Int.ediv_neg_of_neg_of_pos h (show 0<d by omega);omega
theorem Hm(n d:Int)(w:World)(h1:-4611686018427387904<=n)(h2:n<=4611686018427387904)(h3:1<=d)(h4:d<=4611686018427387904) :
  Calls prog 93 #[.int .i64 n,.int .i64 d] w fun e w'=>e=.returned (.tuple #[.int .i64 (n / d),.int .i64 (n % d)])∧dP w w':=by
 obtain⟨⟨a1,a2⟩,⟨a3,a4⟩,a5,a6⟩:=oz n d h1 h2 h3 h4;have hd0:(d==0)=false:=by simp;omega
 have H5:=Hd a5;have H6:=Hd a6;clear a5 a6
 obtain⟨Q,hQ⟩:=aC (n.tdiv d)
 obtain⟨R,hR⟩:=aC (n.tmod d)
 rw[hQ,hR]at H5 H6;rw[hQ]at a1 a2;rw[hR]at a3 a4;have q3:wrap64 Q=Q:=IntWalk.wrap64_in _ (by omega);by_cases hn:R<0
 ·have t:decide (R<0)=true:=by simpa using hn
  have q4:wrap64 (Q - 1)=Q - 1:=IntWalk.wrap64_in _ (by omega);have q5:wrap64 (R+d)=R+d:=IntWalk.wrap64_in _ (by omega);have q6:IntKind.i64.wrap (Q - 1)=Q - 1:=IntWalk.i64_in _ (by omega);have q7:IntKind.i64.wrap (R+d)=R+d:=IntWalk.i64_in _ (by omega);go_enter func93,ntmps93;go_wp2_with (fail)
  go_quiet (fail)
  go_wp2_with (fail);go_ret2;exact⟨L9 (H5.o hn).1.symm (H5.o hn).2.1.symm,(dP.refl _).more _⟩
 ·have t:decide (R<0)=false:=by simpa using hn
  go_enter func93,ntmps93;go_wp2_with (fail)
  go_quiet (fail)
  go_wp2_with (fail);go_ret2;exact⟨L9 (H6.o (by omega)).1.symm (H6.o (by omega)).2.symm,(dP.refl _).more _⟩
theorem nC(n d:Int)(w:World)(h1:-4611686018427387904<=n)(h2:n<=4611686018427387904)(h3:1<=d)(h4:d<=4611686018427387904) :
  Calls prog 92 #[.int .i64 n,.int .i64 d] w fun e w'=>e=.returned (.int .i64 (lG n d))∧dP w w':=by
 obtain⟨⟨a1,a2⟩,⟨a3,a4⟩,a5,a6⟩:=oz n d h1 h2 h3 h4;have HR:Hid (lG n d=if d - n % d<=n % d then n / d+1 else n / d):=rfl;have HD:=Hd (Hm n d w h1 h2 h3 h4);have t0:decide (d<1)=false:=by simp;omega
 have g1:=Int.emod_nonneg n (show d≠0 by omega);have g2:=Int.emod_lt_of_pos n (show 0<d by omega);have g3:-4611686018427387904<=n / d∧n / d<=4611686018427387904:=by omega
 obtain⟨g3,g5⟩:=g3;clear a1 a2 a3 a4 a5 a6;generalize n / d=Q at*;generalize n % d=R at*;go_enter func92,ntmps92;go_wp2_with (fail);refine HD.o.mono ?_;rintro e w' ⟨rfl,m,rfl⟩;by_cases t:d - R<=R
 ·have t1:decide (d - R<=R)=true:=by simpa using t
  rw[if_pos t]at HR;clear t;go_wp2_with (fail);go_ret;exact⟨aB HR.o.symm,(dP.refl _).more _⟩
 ·have t1:decide (d - R<=R)=false:=by simpa using t
  rw[if_neg t]at HR;clear t;go_wp2_with (fail);go_ret;exact⟨aB HR.o.symm,(dP.refl _).more _⟩
theorem vT(n:Int)(w:World)(h1:-4611686018427387904<=n)(h2:n<=4611686018427387904) :
  Calls prog 71 #[.int .i64 n] w fun e w'=>e=.returned (.int .i64 (n / 65536))∧dP w w':=by
 have HD:=Hd (Hm n 65536 w h1 h2 (by omega) (by omega));go_enter func71,ntmps71;go_wp2_with (fail);refine HD.o.mono ?_;rintro e w' ⟨rfl,m,rfl⟩;go_wp2_with (fail);go_ret;exact⟨rfl,(dP.refl _).more _⟩
end
section
open Go.RowKit
def bY(a:Int):Bool:=decide (-1073741824<=a∧a<=1073741824)
def dO(l:List Int):Bool:=l.all bY
theorem rF{a:Int}(h:-1073741824<=a)(h':a<=1073741824):bY a=true:=decide_eq_true ⟨h,h'⟩
theorem vw{a:Int}(h:a < -1073741824∨1073741824<a):bY a=false:=decide_eq_false (by omega)
theorem iZ{a:Int}(h:bY a=true):-1073741824<=a∧a<=1073741824:=of_decide_eq_true h
theorem NH{l:List Int}(h:dO l=true){k:Nat}(hk:k<l.length):-1073741824<=l[k]∧l[k]<=1073741824:=iZ (List.all_eq_true.1 h _ (List.getElem_mem hk))
theorem wF{l:List Int}{k:Nat}(h:dO (l.take k)=true)(hk:k<l.length)(hx:bY l[k]=true):dO (l.take (k+1))=true:=by
 rw[List.take_succ_eq_append_getElem hk];unfold dO at*;rw[List.all_append,h];simp only[List.all_cons,List.all_nil,hx,Bool.and_true]
theorem Ap{l:List Int}{k:Nat}(hk:k<l.length)(hx:bY l[k]=false):dO l=false:=by
 unfold dO;rw[List.all_eq_false];exact⟨_,List.getElem_mem hk,by simp[hx]⟩
theorem wu{l:List Int}{k:Nat}(h:dO (l.take k)=true)(hk:l.length<=k):dO l=true:=by rwa [List.take_of_length_le hk]at h
theorem nD(A:Option Addr)(l:List Int)(c:Nat)(w:World)(hr:Row eI w A l)(h1:l.length<=c)(h2:c<=9223372036854775807) :
  Calls prog 68 #[.slice A l.length c] w fun e w'=>e=.returned (.bool (dO l))∧w=w':=by
 have Lc:=Hd hr;clear hr;go_enter func68,ntmps68;go_wp2_with (fail)
 go_loop [7] (fun i=>∃k:Nat,k<=l.length∧i=.int .i64 k∧Hid (dO (l.take k)=true)) (fun i=>l.length - (intOf i).toNat)
 case atStart=>exact⟨0,Nat.zero_le _,rfl,by simp[Hid,dO]⟩
 case round=>
  obtain⟨k,hk,rfl,HK⟩:=hrel;by_cases hlt:k<l.length
  ·obtain⟨b,off,rfl,hc⟩:=Lc.o.at_ hlt;unfold eI at hc;have HL:=Hd (wF HK.o hlt);have HN:=Hd (Ap (l:=l) hlt);have HY:=Hd (fun h h'=>HL.o (rF h h'));have HZ:=Hd (fun h=>HN.o (vw h));clear HL HN;generalize l[k]=x at*;by_cases hx:x < -1073741824
   ·have t1:decide (x < -1073741824)=true:=by simpa using hx
    have HB:=Hd (HZ.o (.inl hx));clear HY HZ hx;go_wp2_with (fail);go_ret;exact⟨aI HB.o.symm,rfl⟩
   ·have t1:decide (x < -1073741824)=false:=by simpa using hx
    by_cases hx2:1073741824<x
    ·have t2:decide (1073741824<x)=true:=by simpa using hx2
     have HB:=Hd (HZ.o (.inr hx2));clear HY HZ hx hx2;go_wp2_with (fail);go_ret;exact⟨aI HB.o.symm,rfl⟩
    ·have t2:decide (1073741824<x)=false:=by simpa using hx2
     have HB:=Hd (HY.o (by omega) (by omega));clear HY HZ hx hx2;go_wp2_with (fail)
     go_round
     case rel=>exact⟨k+1,by omega,by go_num,HB⟩
     case measure=>simp[intOf];omega
  ·have HB:=Hd (wu HK.o (by omega));go_wp2_with (fail);go_ret;exact⟨aI HB.o.symm,rfl⟩
theorem oJ(a:Int)(w:World):Calls prog 43 #[.int .i64 a] w fun e w'=>e=.returned (.bool (bY a))∧w=w':=by
 by_cases h:-1073741824<=a
 ·have t1:decide (-1073741824<=a)=true:=by simpa using h
  by_cases h2:a<=1073741824
  ·have t2:decide (a<=1073741824)=true:=by simpa using h2
   have HB:=Hd (rF h h2);clear h h2;go_enter func43,ntmps43;go_wp2_with (fail);go_ret;exact⟨aI HB.o.symm,rfl⟩
  ·have t2:decide (a<=1073741824)=false:=by simpa using h2
   have HB:=Hd (vw (a:=a) (by omega));clear h h2;go_enter func43,ntmps43;go_wp2_with (fail);go_ret;exact⟨aI HB.o.symm,rfl⟩
 ·have t1:decide (-1073741824<=a)=false:=by simpa using h
  have HB:=Hd (vw (a:=a) (by omega));clear h;go_enter func43,ntmps43;go_wp2_with (fail);go_ret;exact⟨aI HB.o.symm,rfl⟩
theorem J4(n d:Int)(w:World)(h1:-4611686018427387904<=n)(h2:n<=4611686018427387904)(h3:1<=d)(h4:d<=4611686018427387904) :
  Calls prog 45 #[.int .i64 n,.int .i64 d] w fun e w'=>e=.returned (.int .i64 (n / d))∧w=w':=by
 obtain⟨⟨a1,a2⟩,⟨a3,a4⟩,a5,a6⟩:=oz n d h1 h2 h3 h4;have hd0:(d==0)=false:=by simp;omega
 have hmul:n.tdiv d*d+n.tmod d=n:=by rw[Int.mul_comm];exact Int.mul_tdiv_add_tmod n d
 have Tn:(n.tdiv d - 1)*d=n.tdiv d*d - d:=by rw[Int.sub_mul];omega
 by_cases hn:n.tmod d<0
 ·have HF:=Hd (a5 hn).1;have e1:(n.tdiv d*d<=9223372036854775807)∧(-9223372036854775808<=n.tdiv d*d)∧n<n.tdiv d*d:=by omega
  have e2:n.tdiv d*d - d<=n∧(-9223372036854775808<=n.tdiv d*d - d):=by omega
  have hlo:=(a5 hn).2.2
  obtain⟨Q,hQ⟩:=aC (n.tdiv d)
  rw[hQ]at HF e1 e2 a1 a2 Tn hlo
  obtain⟨M,hM⟩:=aC (Q*d)
  rw[hM]at e1 e2 Tn;have q3:wrap64 Q=Q:=IntWalk.wrap64_in _ (by omega);have q4:wrap64 M=M:=IntWalk.wrap64_in _ (by omega);have q5:wrap64 (Q - 1)=Q - 1:=IntWalk.wrap64_in _ (by omega);have q6:wrap64 (M - d)=M - d:=IntWalk.wrap64_in _ (by omega);have t1:decide (n<M)=true:=by simp;omega
  have t2:decide (n<M - d)=false:=by simp;omega
  clear a3 a4 a5 a6 hmul e1 e2 hn;go_enter func45,ntmps45;go_wp2_with (fail)
  go_loop [5] (fun q=>q=.int .i64 Q∨q=.int .i64 (Q - 1)) (fun q=>(intOf q - (Q - 1)).toNat)
  case atStart=>exact .inl rfl
  case round=>
   rcases hrel with rfl|rfl
   ·go_wp2_with (fail)
    go_round
    case rel=>exact .inr rfl
    case measure=>simp[intOf];omega
   ·go_wp2_with (fail);go_ret;exact⟨aB HF.o.symm,rfl⟩
 ·have HF:=Hd (a6 (by omega)).1;have e1:(n.tdiv d*d<=9223372036854775807)∧(-9223372036854775808<=n.tdiv d*d)∧n.tdiv d*d<=n:=by omega
  obtain⟨Q,hQ⟩:=aC (n.tdiv d)
  rw[hQ]at HF e1 a1 a2
  obtain⟨M,hM⟩:=aC (Q*d)
  rw[hM]at e1;have q3:wrap64 Q=Q:=IntWalk.wrap64_in _ (by omega);have q4:wrap64 M=M:=IntWalk.wrap64_in _ (by omega);have t1:decide (n<M)=false:=by simp;omega
  clear a3 a4 a5 a6 hmul Tn e1 hn;go_enter func45,ntmps45;go_wp2_with (fail)
  go_loop [5] (fun q=>q=.int .i64 Q) (fun q=>0)
  case atStart=>rfl
  case round=>
   obtain rfl:=hrel;go_wp2_with (fail);go_ret;exact⟨aB HF.o.symm,rfl⟩
theorem JZ(n d:Int)(w:World)(h1:-4611686018427387904<=n)(h2:n<=4611686018427387904)(h3:1<=d)(h4:d<=4611686018427387904) :
  Calls prog 42 #[.int .i64 n,.int .i64 d] w fun e w'=>e=.returned (.int .i64 (lG n d))∧w=w':=by
 obtain⟨⟨a1,a2⟩,⟨a3,a4⟩,a5,a6⟩:=oz n d h1 h2 h3 h4;have HR:Hid (lG n d=if d - n % d<=n % d then n / d+1 else n / d):=rfl;have HD:=Hd (J4 n d w h1 h2 h3 h4);have g1:=Int.emod_nonneg n (show d≠0 by omega);have g2:=Int.emod_lt_of_pos n (show 0<d by omega);have g3:-4611686018427387904<=n / d∧n / d<=4611686018427387904:=by omega
 obtain⟨g3,g5⟩:=g3;have hm:n - n / d*d=n % d:=by rw[Int.mul_comm];have:=Int.mul_ediv_add_emod n d;omega
 clear a1 a2 a3 a4 a5 a6;generalize n / d=Q at*;generalize n % d=R at*
 obtain⟨M,hM⟩:=aC (Q*d)
 rw[hM]at hm;have q4:wrap64 M=M:=IntWalk.wrap64_in _ (by omega);have q5:wrap64 (n - M)=R:=by rw[hm];exact IntWalk.wrap64_in _ (by omega)
 have q5':n - M=R:=hm;clear hm;go_enter func42,ntmps42;go_wp2_with (fail);refine HD.o.mono ?_;rintro e w' ⟨rfl,rfl⟩;by_cases t:d - R<=R
 ·have t1:decide (d - R<=R)=true:=by simpa using t
  rw[if_pos t]at HR;clear t;go_wp2_with (fail);go_ret;exact⟨aB HR.o.symm,rfl⟩
 ·have t1:decide (d - R<=R)=false:=by simpa using t
  rw[if_neg t]at HR;clear t;go_wp2_with (fail);go_ret;exact⟨aB HR.o.symm,rfl⟩
theorem qB{a b:Int}(h1:-1073741824<=a)(h2:a<=1073741824)(h3:-1073741824<=b)(h4:b<=1073741824):-1152921504606846976<=a*b∧a*b<=1152921504606846976:=by
 have g1:0<=(1073741824 - a)*(1073741824 - b):=Int.mul_nonneg (by omega) (by omega);have g2:0<=(1073741824+a)*(1073741824+b):=Int.mul_nonneg (by omega) (by omega);have g3:0<=(1073741824 - a)*(1073741824+b):=Int.mul_nonneg (by omega) (by omega);have g4:0<=(1073741824+a)*(1073741824 - b):=Int.mul_nonneg (by omega) (by omega);rw[Int.sub_mul,Int.mul_sub,Int.mul_sub]at g1;rw[Int.add_mul,Int.mul_add,Int.mul_add]at g2;rw[Int.sub_mul,Int.mul_add,Int.mul_add]at g3;rw[Int.add_mul,Int.mul_sub,Int.mul_sub]at g4;omega
end
section
open Go.RowKit
def dots:List Int->Int
 |a::b::r=>a*b+dots r
 |[a]=>a*65536
 |[]=>0
def jO(l:List Int):Int:=if l.length<=8∧dO l=true∧bY (lG (dots l) 65536)=true then lG (dots l) 65536 else 0
def iE(l:List Int):Bool:=decide (l.length<=8)&&(dO l&&bY (lG (dots l) 65536))
theorem Nk{l:List Int}(h:8<l.length):jO l=0∧iE l=false:=by
 unfold jO iE;rw[if_neg (by omega),decide_eq_false (by omega)];exact⟨rfl,rfl⟩
theorem Dh{l:List Int}(h:dO l=false):jO l=0∧iE l=false:=by
 unfold jO iE;rw[if_neg (by simp[h]),h];simp
theorem Ho{l:List Int}(h:bY (lG (dots l) 65536)=false):jO l=0∧iE l=false:=by
 unfold jO iE;rw[if_neg (by simp[h]),h];simp
theorem Em{l:List Int}(h1:l.length<=8)(h2:dO l=true)(h:bY (lG (dots l) 65536)=true):jO l=lG (dots l) 65536∧iE l=true:=by
 unfold jO iE;rw[if_pos ⟨h1,h2,h⟩,h,h2,decide_eq_true h1];exact⟨rfl,rfl⟩
theorem ja{a:Int}{l:List Int}(h:dO (a::l)=true):(-1073741824<=a∧a<=1073741824)∧dO l=true:=by
 unfold dO at*;rw[List.all_cons,Bool.and_eq_true]at h;exact⟨iZ h.1,h.2⟩
theorem Nj:∀(n:Nat) (l:List Int),l.length<=2*n->dO l=true->-(1152921504606846976*(n:Int))<=dots l∧dots l<=1152921504606846976*(n:Int)
 |0,l,h,_=>by
  have:l=[]:=List.eq_nil_of_length_eq_zero (by omega);subst this;simp[dots]
 |n+1,[],_,_=>by simp[dots];omega
 |n+1,[a],_,hr=>by
  obtain⟨h,_⟩:=ja hr;simp[dots];omega
 |n+1,a::b::r,h,hr=>by
  obtain⟨h1,hr⟩:=ja hr;obtain⟨h2,hr⟩:=ja hr;have:=Nj n r (by simp at h;omega) hr;have:=qB h1.1 h1.2 h2.1 h2.2;simp only[dots]
  push_cast
  omega
theorem Dp{l:List Int}(h:dO l=true)(k:Nat):dO (l.drop k)=true:=by
 unfold dO at*;rw[List.all_eq_true]at *;exact fun x hx=>h x (List.mem_of_mem_drop hx)
theorem TR{l:List Int}{k:Nat}(h:k+1<l.length):dots (l.drop k)=l[k]*l[k+1]+dots (l.drop (k+2)):=by
 rw[List.drop_eq_getElem_cons (show k<l.length by omega),List.drop_eq_getElem_cons h];rfl
theorem PL{l:List Int}{k:Nat}(h:k+1=l.length):dots (l.drop k)=l[k]*65536:=by
 rw[List.drop_eq_getElem_cons (show k<l.length by omega),List.drop_of_length_le (by omega)];rfl
theorem vW{l:List Int}{k:Nat}(h:l.length<=k):dots (l.drop k)=0:=by
 rw[List.drop_of_length_le h];rfl
theorem lC{l:List Int}{k j:Nat}(hk:k=2*j)(h8:l.length<=8)(hkl:k<=l.length)(hr:dO l=true) :
  -4611686018427387904<=dots l - dots (l.drop k)∧dots l - dots (l.drop k)<=4611686018427387904∧-4611686018427387904<=dots l∧dots l<=4611686018427387904:=by
 have h1:∀(j:Nat) (l:List Int),2*j<=l.length->dO l=true->-(1152921504606846976*(j:Int))<=dots l - dots (l.drop (2*j))∧dots l - dots (l.drop (2*j))<=1152921504606846976*(j:Int):=by
  intro j
  induction j with
  |zero=>intro l _ _;simp
  |succ j ih=>
   intro l hl hr
   match l,hl,hr with
   |[],hl,_=>simp at hl
   |[a],hl,_=>simp at hl;omega
   |a::b::r,hl,hr=>
    obtain⟨h1,hr⟩:=ja hr;obtain⟨h2,hr⟩:=ja hr;have:=ih r (by simp at hl;omega) hr;have:=qB h1.1 h1.2 h2.1 h2.2;have e:(a::b::r).drop (2*(j+1))=r.drop (2*j):=by rw[show 2*(j+1)=2*j+2 by omega];rfl
    rw[e];simp only[dots]
    push_cast
    omega
 have h2:=h1 j l (by omega) hr;have h3:=Nj 4 l (by omega) hr;subst hk;have:(j:Int)<=4:=by omega
 omega
def qh(l m:List Int)(P:Int):Prop:=∃j,m=l.drop (2*j)∧2*j<=l.length∧P=dots l - dots m
theorem qh.start(l:List Int):qh l l 0:=⟨0,by simp,by omega,by omega⟩
theorem qh.two{l m:List Int}{P a b:Int}{r:List Int}(h:qh l m P)(hm:m=a::b::r)(h8:l.length<=8)(hr:dO l=true) :
  qh l r (P+a*b)∧(-1152921504606846976<=a*b∧a*b<=1152921504606846976)∧(-4611686018427387904<=P∧P<=4611686018427387904)∧(-4611686018427387904<=P+a*b∧P+a*b<=4611686018427387904):=by
 obtain⟨j,e,hj,rfl⟩:=h;subst hm
 have hl:l.length - 2*j=r.length+2:=by
  have:=congrArg List.length e;rw[List.length_drop]at this;simp at this;omega
 have hd:l.drop (2*(j+1))=r:=by
  rw[show 2*(j+1)=2*j+2 by omega,←List.drop_drop,←e];rfl
 have hrr:=Dp hr (2*j);rw[←e]at hrr;obtain⟨h1,hrr⟩:=ja hrr;obtain⟨h2,hrr⟩:=ja hrr;have p1:=lC (k:=2*j) rfl h8 hj hr;have p2:=lC (k:=2*(j+1)) rfl h8 (by omega) hr;rw[←e]at p1;rw[hd]at p2;have p3:=qB h1.1 h1.2 h2.1 h2.2;have p4:dots (a::b::r)=a*b+dots r:=rfl;refine⟨⟨j+1,hd.symm,by omega,by omega⟩,p3,by omega,by omega⟩
theorem qh.one{l m:List Int}{P a:Int}(h:qh l m P)(hm:m=[a])(h8:l.length<=8)(hr:dO l=true) :
  P+a*65536=dots l∧(-1073741824<=a∧a<=1073741824)∧(-4611686018427387904<=P∧P<=4611686018427387904)∧(-4611686018427387904<=P+a*65536∧P+a*65536<=4611686018427387904):=by
 obtain⟨j,e,hj,rfl⟩:=h;subst hm;have hrr:=Dp hr (2*j);rw[←e]at hrr;obtain⟨h1,hrr⟩:=ja hrr;have p1:=lC (k:=2*j) rfl h8 hj hr;rw[←e]at p1;have p4:dots [a]=a*65536:=rfl;refine⟨by omega,h1,by omega,by omega⟩
theorem qh.none{l m:List Int}{P:Int}(h:qh l m P)(hm:m=[])(h8:l.length<=8)(hr:dO l=true) :
  P=dots l∧(-4611686018427387904<=P∧P<=4611686018427387904):=by
 obtain⟨j,e,hj,rfl⟩:=h;subst hm;have p1:=lC (k:=2*j) rfl h8 hj hr;have p4:dots ([]:List Int)=0:=rfl;omega
theorem Xt(A:Option Addr)(l:List Int)(c:Nat)(w:World)(hr:Row eI w A l)(h1:l.length<=c)(h2:c<=9223372036854775807) :
  Calls prog 153 #[.slice A l.length c] w (aZ (.tuple #[.int .i64 (jO l),.bool (iE l)]) w):=by
 have HR:=Hd (nD A l c w hr h1 h2);have Lc:=Hd hr;clear hr;by_cases h8:8<l.length
 ·have t:decide (8<(l.length:Int))=true:=by simp;omega
  have HF:=Hd (Nk h8);clear h8;go_enter func153,ntmps153;go_wp2_with (fail);go_ret2;exact⟨mW HF.o.1.symm HF.o.2.symm,bR⟩
 have t:decide (8<(l.length:Int))=false:=by simp;omega
 by_cases ha:dO l=true
 ·rw[ha]at HR;have HA:=Hd ha;have H8:Hid (l.length<=8):=by show _<=_;omega
  clear ha h8;go_enter func153,ntmps153;go_wp2_with (fail);refine HR.o.mono ?_;rintro e w' ⟨rfl,rfl⟩;go_wp2_with (fail)
  go_loopw [0,4] (fun x s wr=>∃(m:List Int) (n:Nat) (P:Int) (A':Option Addr) (c':Nat),x=.slice A' n c'∧n<=c'∧c'<=9223372036854775807∧s=.int .i64 P∧Hid (m.length=n)∧Hid (Row eI w A' m)∧Hid (qh l m P)∧Hid (dP w wr))
   (fun x _ _=>match x with|.slice _ n _=>n|_=>0)
  case atStart=>exact⟨l,l.length,0,A,c,rfl,h1,h2,rfl,rfl,Lc,qh.start l,dP.refl w⟩
  case round=>
   obtain⟨m,n,P,A',c',rfl,h1',h2',rfl,HN,uH,HH,hw⟩:=hrel;have iM:Hid (bY (lG (dots l) 65536)=true->jO l=lG (dots l) 65536∧iE l=true):=fun h=>Em H8.o HA.o h;have jK:=Hd (Ho (l:=l));obtain⟨m0,rfl⟩:=hw.o
   match m,HN,uH,HH with
   |[],HN,uH,HH=>
    obtain⟨hP,hP1,hP2⟩:=HH.o.none rfl H8.o HA.o;obtain rfl:0=n:=HN.o;clear HN;have HD:=Hd (fun w=>nC P 65536 w (by omega) (by omega) (by omega) (by omega));rw[←hP]at iM jK;clear hP;go_wp2_with (fail);refine(HD.o _).mono ?_;rintro e w' ⟨rfl,m1,rfl⟩
    obtain⟨X,hX⟩:=aC (lG (P) 65536)
    rw[hX]at iM jK ⊢;clear hX HD;go_wp2_with (fail);refine(nD _ [X] 1 _ (DN _ [X] 2) (Nat.le_refl 1) (by decide)).mono ?_;rintro e w' ⟨rfl,rfl⟩;have hx1:dO [X]=bY X:=by simp[dO]
    rw[hx1];clear hx1;cases hx:bY X with
    |true=>
     rw[hx]at iM;have HF:=Hd (iM.o rfl);clear iM jK hx;go_wp2_with (fail);go_ret2;exact⟨mW HF.o.1.symm HF.o.2.symm,((Below.drewN' bR _).alloc nR _)⟩
    |false=>
     rw[hx]at jK;have HF:=Hd (jK.o rfl);clear iM jK hx;go_wp2_with (fail);go_ret2;exact⟨mW HF.o.1.symm HF.o.2.symm,((Below.drewN' bR _).alloc nR _)⟩
   |[a],HN,uH,HH=>
    obtain⟨hP,⟨p1,p2⟩,⟨p3,p4⟩,p5,p6⟩:=HH.o.one rfl H8.o HA.o;obtain rfl:1=n:=HN.o;obtain⟨g,off,rfl,hc0⟩:=uH.o.at_ (k:=0) (by simp);have c0:w.cell? ⟨g,off,none⟩=some (.int .i64 a):=hc0;clear HN hc0;have q1:wrap64 (a*65536)=a*65536:=IntWalk.wrap64_in _ (by omega);have q2:wrap64 (P+a*65536)=P+a*65536:=IntWalk.wrap64_in _ (by omega);have HD:=Hd (fun w=>nC (P+a*65536) 65536 w (by omega) (by omega) (by omega) (by omega));rw[←hP]at iM jK;clear hP;go_wp2_with (fail);refine(HD.o _).mono ?_;rintro e w' ⟨rfl,m1,rfl⟩
    obtain⟨X,hX⟩:=aC (lG (P+a*65536) 65536)
    rw[hX]at iM jK ⊢;clear hX HD;go_wp2_with (fail);refine(nD _ [X] 1 _ (DN _ [X] 2) (Nat.le_refl 1) (by decide)).mono ?_;rintro e w' ⟨rfl,rfl⟩;have hx1:dO [X]=bY X:=by simp[dO]
    rw[hx1];clear hx1;cases hx:bY X with
    |true=>
     rw[hx]at iM;have HF:=Hd (iM.o rfl);clear iM jK hx;go_wp2_with (fail);go_ret2;exact⟨mW HF.o.1.symm HF.o.2.symm,((Below.drewN' bR _).alloc nR _)⟩
    |false=>
     rw[hx]at jK;have HF:=Hd (jK.o rfl);clear iM jK hx;go_wp2_with (fail);go_ret2;exact⟨mW HF.o.1.symm HF.o.2.symm,((Below.drewN' bR _).alloc nR _)⟩
   |a::b::r,HN,uH,HH=>
    obtain⟨H2,⟨p1,p2⟩,⟨p3,p4⟩,p5,p6⟩:=HH.o.two rfl H8.o HA.o;have HH2:=Hd H2;have hn:r.length+2=n:=HN.o;obtain⟨g,off,rfl,hc0⟩:=uH.o.at_ (k:=0) (by simp);obtain⟨g',off',e,hc1⟩:=uH.o.at_ (k:=1) (by simp);simp only[Option.some.injEq,Addr.mk.injEq,and_true]at e;obtain⟨rfl,rfl⟩:=e;have c0:w.cell? ⟨g,off,none⟩=some (.int .i64 a):=hc0;have c1:w.cell? ⟨g,off+1,none⟩=some (.int .i64 b):=hc1;have a2F:=Hd (uH.o.drop 2)
    obtain⟨M,hM⟩:=aC (a*b)
    rw[hM]at p1 p2 p5 p6 HH2;have q1:wrap64 M=M:=IntWalk.wrap64_in _ (by omega);have q2:wrap64 (P+M)=P+M:=IntWalk.wrap64_in _ (by omega);have q3:IntKind.i64.wrap M=M:=IntWalk.i64_in _ (by omega);have q4:IntKind.i64.wrap (P+M)=P+M:=IntWalk.i64_in _ (by omega);have hn2:(2:Int)<=(n:Int):=by omega
    have hn1:(1:Int)<(n:Int):=by omega
    have hn0:0<n:=by omega
    have HNR:Hid (r.length=n - 2):=by show _=_;omega
    clear hc0 hc1 HN HH H2 hn uH;by_cases hcc:c'=2
    ·obtain rfl:n=2:=by omega
     subst hcc;have hr0:r=[]:=List.eq_nil_of_length_eq_zero (by have:=HNR.o;omega);subst hr0;go_wp2_with (fail)
     go_quiet (fail)
     go_wp2_with (fail)
     go_roundw
     case rel=>exact⟨[],0,_,some ⟨g,off,none⟩,0,rfl,by omega,by omega,rfl,rfl,Row.none_ rfl,HH2,(dP.refl w).more _⟩
     case measure=>simp
    ·go_wp2_with (fail)
     go_quiet (fail)
     go_wp2_with (fail)
     go_roundw
     case rel=>exact⟨r,n - 2,_,some ⟨g,off+2,none⟩,c' - 2,rfl,by omega,by omega,rfl,HNR,a2F,HH2,(dP.refl w).more _⟩
     case measure=>simp;omega
 ·have ha:dO l=false:=by simpa using ha
  rw[ha]at HR;have HF:=Hd (Dh ha);clear ha h8;go_enter func153,ntmps153;go_wp2_with (fail);refine HR.o.mono ?_;rintro e w' ⟨rfl,rfl⟩;go_wp2_with (fail);go_ret2;exact⟨mW HF.o.1.symm HF.o.2.symm,bR⟩
end
section
open Go.RowKit
theorem Ee{l:List Int}{i:Nat}(hi:i=2*(i / 2))(hle:i<=l.length+1)(h8:l.length<=8)(hr:dO l=true){P:Int}(hP:P=dots l - dots (l.drop i)) :
  -4611686018427387904<=P∧P<=4611686018427387904:=by
 by_cases h:i<=l.length
 ·have:=lC hi h8 h hr;omega
 ·have:=lC (k:=0) (j:=0) rfl h8 (by omega) hr;rw[vW (by omega)]at hP;omega
theorem Ub(A:Option Addr)(l:List Int)(c:Nat)(w:World)(hr:Row eI w A l)(h1:l.length<=c)(h2:c<=9223372036854775807) :
  Calls prog 72 #[.slice A l.length c] w fun e w'=>e=.returned (.tuple #[.int .i64 (jO l),.bool (iE l)])∧dP w w':=by
 have Lc:=Hd hr;clear hr;by_cases h8:8<l.length
 ·have t:decide (8<(l.length:Int))=true:=by simp;omega
  have HF:=Hd (Nk h8);clear h8;go_enter func72,ntmps72;go_wp2_with (fail);go_ret2;exact⟨mW HF.o.1.symm HF.o.2.symm,dP.refl _⟩
 have t:decide (8<(l.length:Int))=false:=by simp;omega
 have H8:Hid (l.length<=8):=by show _<=_;omega
 clear h8;go_enter func72,ntmps72;go_wp2_with (fail)
 go_loop [5] (fun i=>∃k:Nat,k<=l.length∧i=.int .i64 k∧Hid (dO (l.take k)=true)) (fun i=>l.length - (intOf i).toNat)
 case atStart=>exact⟨0,Nat.zero_le _,rfl,by simp[Hid,dO]⟩
 case round=>
  obtain⟨k,hk,rfl,HK⟩:=hrel;by_cases hlt:k<l.length
  ·obtain⟨b,off,rfl,hc⟩:=Lc.o.at_ hlt;unfold eI at hc;have HL:=Hd (wF HK.o hlt);have HN:=Hd (Ap (l:=l) hlt);generalize l[k]=x at*;cases hx:bY x with
   |true=>
    have HX:=Hd hx;rw[hx]at HL;have HB:=Hd (HL.o rfl);clear HL HN hx;go_wp2_with (fail);refine(oJ x w).mono ?_;rw[HX.o];rintro e w' ⟨rfl,rfl⟩;go_wp2_with (fail)
    go_round
    case rel=>exact⟨k+1,by omega,by go_num,HB⟩
    case measure=>simp[intOf];omega
   |false=>
    have HX:=Hd hx;rw[hx]at HN;have HF:=Hd (Dh (HN.o rfl));clear HL HN hx;go_wp2_with (fail);refine(oJ x w).mono ?_;rw[HX.o];rintro e w' ⟨rfl,rfl⟩;go_wp2_with (fail);go_ret2;exact⟨mW HF.o.1.symm HF.o.2.symm,dP.refl _⟩
  ·have HA:=Hd (wu HK.o (by omega));obtain rfl:k=l.length:=by omega
   clear HK hlt hk;go_wp2_with (fail)
   go_loopw [4,6] (fun s i wr=>∃(k:Nat) (P:Int),k<=l.length+1∧i=.int .i64 k∧s=.int .i64 P∧Hid (k=2*(k / 2))∧Hid (P=dots l - dots (l.drop k))∧Hid (dP w wr))
    (fun _ i _=>l.length+1 - (intOf i).toNat)
   case atStart=>exact⟨0,0,Nat.zero_le _,rfl,rfl,rfl,by simp[Hid],dP.refl w⟩
   case round=>
    obtain⟨k,P,hk,rfl,rfl,HK,HP,hw⟩:=hrel;obtain⟨p1,p2⟩:=Ee HK.o hk H8.o HA.o HP.o;obtain⟨m0,rfl⟩:=hw.o;have HL8:=H8.o;by_cases hlt:k<l.length
    ·obtain⟨b,off,rfl,hc⟩:=Lc.o.at_ hlt;unfold eI at hc;have hx:=NH HA.o hlt;by_cases hlt2:k+1<l.length
     ·have hy:=NH HA.o hlt2;have hs:=TR hlt2;obtain⟨b',off',e,hc2⟩:=Lc.o.at_ hlt2;simp only[Option.some.injEq,Addr.mk.injEq,and_true]at e;obtain⟨rfl,rfl⟩:=e;unfold eI at hc2;generalize l[k]=x at*;generalize l[k+1]=y at*;obtain⟨p3,p4⟩:=qB hx.1 hx.2 hy.1 hy.2
      obtain⟨M,hM⟩:=aC (x*y)
      rw[hM]at p3 p4 hs;have HP2:Hid (P+M=dots l - dots (l.drop (k+2))):=by have:=HP.o;show _=_;omega
      have dE:Hid (k+2=2*((k+2) / 2)):=by have:=HK.o;show _=_;omega
      obtain⟨p5,p6⟩:=Ee dE.o (by omega) H8.o HA.o HP2.o;have t1:decide ((k:Int)<(l.length:Int))=true:=by simp;omega
      have t2:decide ((k:Int)+1<(l.length:Int))=true:=by simp;omega
      have hk0:(k:Int)<(l.length:Int):=by omega
      have gQ:Hid (k+1<l.length):=hlt2;have g4:(k:Int)<(l.length:Int)∧(k:Int)+1<(l.length:Int):=by omega
      have G4:=Hd g4;have G7:Hid (((k:Int)+1).toNat=k+1):=by show _=_;omega
      have G1:Hid (wrap64 M=M∧IntKind.i64.wrap M=M):=⟨IntWalk.wrap64_in _ (by omega),IntWalk.i64_in _ (by omega)⟩
      have G2:Hid (wrap64 (P+M)=P+M∧IntKind.i64.wrap (P+M)=P+M):=⟨IntWalk.wrap64_in _ (by omega),IntWalk.i64_in _ (by omega)⟩
      have hk1:=g4.2;clear g4;clear hs hx hy HP HK hlt hlt2 hk0 hk HL8;go_wp2_with (fail);obtain⟨q1,q2⟩:=G1.o;obtain⟨q3,q4⟩:=G2.o;have q7:=G7.o;have hk0:=G4.o.1
      go_quiet (fail)
      clear q1 q2 q3 q4 q7 hk0 hk1;have hkl:(k:Int)<=10:=by have:=gQ.o;have:=H8.o;omega
      go_wp2_with (fail)
      go_roundw
      have hlt:=gQ.o
      case rel=>exact⟨k+2,_,by omega,by go_num,rfl,dE,HP2,(dP.refl w).more _⟩
      case measure=>simp[intOf];omega
     ·have hs:=PL (l:=l) (k:=k) (by omega);have hl:=Hd hlt;generalize l[k]=x at*;have p3:-70368744177664<=x*65536∧x*65536<=70368744177664:=by omega
      have HP2:Hid (P+x*65536=dots l - dots (l.drop (k+2))):=by
       have:=HP.o;have h0:=vW (l:=l) (k:=k+2) (by omega);show _=_;omega
      have dE:Hid (k+2=2*((k+2) / 2)):=by have:=HK.o;show _=_;omega
      obtain⟨p5,p6⟩:=Ee dE.o (by omega) H8.o HA.o HP2.o;have t2:decide ((k:Int)+1<(l.length:Int))=false:=by simp;omega
      have t1:decide ((k:Int)<(l.length:Int))=true:=by simp;omega
      have hkl:(k:Int)<=100:=by omega
      have G1:Hid (wrap64 (x*65536)=x*65536):=IntWalk.wrap64_in _ (by omega);have G2:Hid (wrap64 (P+x*65536)=P+x*65536):=IntWalk.wrap64_in _ (by omega);have q1:=G1.o;have q2:=G2.o;clear hs hx HP HK hlt hlt2 hk HL8 G1 G2 p3;go_wp2_with (fail);have hlt:=hl.o;exact⟨⟨k+2,_,by omega,by go_num,rfl,dE,HP2,(dP.refl w).more _⟩,by simp[intOf];omega⟩
    ·have hP:Hid (P=dots l):=by
      have:=HP.o;have h0:=vW (l:=l) (k:=k) (by omega);show _=_;omega
     have iM:Hid (bY (lG (dots l) 65536)=true->jO l=lG (dots l) 65536∧iE l=true):=fun h=>Em H8.o HA.o h;have jK:=Hd (Ho (l:=l));have t1:decide (k<l.length)=false:=by simp;omega
     have HD:=Hd (fun w=>JZ P 65536 w (by omega) (by omega) (by omega) (by omega));rw[←hP.o]at iM jK
     obtain⟨X,hX⟩:=aC (lG P 65536)
     rw[hX]at iM jK HD;clear hX HP HK hlt hk HL8 hP;go_wp2_with (fail);refine(HD.o _).mono ?_;rintro e w' ⟨rfl,rfl⟩;go_wp2_with (fail);refine(oJ X _).mono ?_;rintro e w' ⟨rfl,rfl⟩;cases hx:bY X with
     |true=>
      rw[hx]at iM;have HF:=Hd (iM.o rfl);clear iM jK hx;go_wp2_with (fail);go_ret2;exact⟨mW HF.o.1.symm HF.o.2.symm,(dP.refl _).more _⟩
     |false=>
      rw[hx]at jK;have HF:=Hd (jK.o rfl);clear iM jK hx;go_wp2_with (fail);go_ret2;exact⟨mW HF.o.1.symm HF.o.2.symm,(dP.refl _).more _⟩
end
section
open Go.RowKit
structure Mp where
 a:Int
 b:Int
 c:Int
 d:Int
 e:Int
 f:Int
deriving DecidableEq
structure Pt where
 x:Int
 y:Int
deriving DecidableEq
def Mp.v(m:Mp):Value:=.agg (Vh m.a m.b m.c m.d m.e m.f).toArray
def Mp.cs(m:Mp):List Value:=(Vh m.a m.b m.c m.d m.e m.f)
def Mp.l(m:Mp):List Int:=[m.a,m.b,m.c,m.d,m.e,m.f]
def Mp.o:Mp:=⟨0,0,0,0,0,0⟩
def Mp.right(m:Mp):Bool:=dO m.l
def Pt.v(p:Pt):Value:=.agg #[.int .i64 p.x,.int .i64 p.y]
def Pt.cs(p:Pt):List Value:=[.int .i64 p.x,.int .i64 p.y]
def Mp.dx(m:Mp)(p:Pt):List Int:=[m.a,p.x,m.c,p.y,m.e]
def Mp.dy(m:Mp)(p:Pt):List Int:=[m.b,p.x,m.d,p.y,m.f]
def Mp.takes(m:Mp)(p:Pt):Bool:=iE (m.dx p)&&iE (m.dy p)
def Mp.take(m:Mp)(p:Pt):Pt:=if m.takes p=true then ⟨jO (m.dx p),jO (m.dy p)⟩ else ⟨0,0⟩
theorem az.OB{w:World}{g:Nat}{p q:Value}(h:az w g [p,q])(p' q':Value):az ((w.setCell ⟨g,0,none⟩ p').setCell ⟨g,1,none⟩ q') g [p',q']:=(h.set 0 p').set 1 q'
theorem below2{w W:World}{B g:Nat}(h:Below B w W)(hg:B<=g)(p' q':Value):Below B w ((W.setCell ⟨g,0,none⟩ p').setCell ⟨g,1,none⟩ q'):=dW (dW h hg) hg
theorem az.c6{w:World}{g:Nat}{p q r s t u:Value}(h:az w g [p,q,r,s,t,u]):(w.cell? ⟨g,0,none⟩=some p∧w.cell? ⟨g,1,none⟩=some q∧w.cell? ⟨g,2,none⟩=some r∧w.cell? ⟨g,3,none⟩=some s∧w.cell? ⟨g,4,none⟩=some t∧w.cell? ⟨g,5,none⟩=some u) ∧
  (w.frozen? ⟨g,0,none⟩=false∧w.frozen? ⟨g,1,none⟩=false∧w.frozen? ⟨g,2,none⟩=false∧w.frozen? ⟨g,3,none⟩=false∧w.frozen? ⟨g,4,none⟩=false∧w.frozen? ⟨g,5,none⟩=false)∧g<w.heap.size:=
 ⟨⟨h.cell 0,h.cell 1,h.cell 2,h.cell 3,h.cell 4,h.cell 5⟩,⟨h.free 0,h.free 1,h.free 2,h.free 3,h.free 4,h.free 5⟩,h.inside⟩
def qP(w:World)(g:Nat)(p q r s t u:Value):World:=(((((w.setCell ⟨g,0,none⟩ p).setCell ⟨g,1,none⟩ q).setCell ⟨g,2,none⟩ r).setCell ⟨g,3,none⟩ s).setCell ⟨g,4,none⟩ t).setCell ⟨g,5,none⟩ u
theorem az.qP{w:World}{g:Nat}{p q r s t u:Value}(h:az w g [p,q,r,s,t,u])(p' q' r' s' t' u':Value):az ((((((w.setCell ⟨g,0,none⟩ p').setCell ⟨g,1,none⟩ q').setCell ⟨g,2,none⟩ r').setCell ⟨g,3,none⟩ s').setCell ⟨g,4,none⟩ t').setCell ⟨g,5,none⟩ u') g [p',q',r',s',t',u']:=
 (((((h.set 0 p').set 1 q').set 2 r').set 3 s').set 4 t').set 5 u'
theorem az.a3I{w:World}{g k:Nat}{cs:List Value}(h:az w k cs)(hg:k≠g)(p' q' r' s' t' u':Value):az ((((((w.setCell ⟨g,0,none⟩ p').setCell ⟨g,1,none⟩ q').setCell ⟨g,2,none⟩ r').setCell ⟨g,3,none⟩ s').setCell ⟨g,4,none⟩ t').setCell ⟨g,5,none⟩ u') k cs:=
 (((((h.other hg 0 p').other hg 1 q').other hg 2 r').other hg 3 s').other hg 4 t').other hg 5 u'
theorem iU{w W:World}{B g:Nat}(h:Below B w W)(hg:B<=g)(p' q' r' s' t' u':Value):Below B w ((((((W.setCell ⟨g,0,none⟩ p').setCell ⟨g,1,none⟩ q').setCell ⟨g,2,none⟩ r').setCell ⟨g,3,none⟩ s').setCell ⟨g,4,none⟩ t').setCell ⟨g,5,none⟩ u'):=
 dW (dW (dW (dW (dW (dW h hg) hg) hg) hg) hg) hg
theorem aS{P:Program}{fn:Func}{p q:Tmp}{ty:TypeId}{tmps:Array Value}{w:World}{g:Nat}{cs:List Value}{d:TypeDesc}{v:Value}{Q:Ending->World->Prop}(hfn:fn.results=#[.cell p ty,.tmp q])
  (hp:tmps.getD p undef=.pointer (some ⟨g,0,none⟩)) (hq:tmps.getD q undef=v) (hB:az w g cs) (hu:P.underlying ty=some d) (hd:(match d with|.struct _|.array _ _=>true|_=>false)=true) (hi:(P.info? ty).map (·.size)=some cs.length)
  (h:Q (.returned (.tuple #[.agg cs.toArray,v])) w):bodyPost P fn Q Exit.ret { tmps:=tmps,defers:=[] } w:=by
 obtain⟨T,hg⟩:=hB;refine bodyPost_ret_by (v:=.tuple #[.agg cs.toArray,v]) ?_ rfl h;have hp':tmps[p]?.getD undef=.pointer (some ⟨g,0,none⟩):=by simpa using hp
 have hq':tmps[q]?.getD undef=v:=by simpa using hq
 simp[results,hfn,hp',hq',asAddr,run_loadVar_row w g T ty _ _ d hg hu hd (by simpa using hi)]
theorem tV(m:Mp)(w:World):Calls prog 66 #[m.v] w (aZ (.bool m.right) w):=by
 have HR:Hid (dO [m.a,m.b,m.c,m.d,m.e,m.f]=m.right):=rfl;generalize m.right=y at*;obtain⟨a,b,c,d,e,f⟩:=m;unfold Mp.v;simp only at HR ⊢;go_enter func66,ntmps66;go_wp2_with (fail);refine(nD _ [a,b,c,d,e,f] 6 _ (jE _ [a,b,c,d,e,f] 2 (by simp)) (Nat.le_refl 6) (by decide)).mono ?_;rw[HR.o];rintro e w' ⟨rfl,rfl⟩;go_wp2_with (fail);go_ret;exact⟨rfl,(bR.alloc nR _).alloc (by simp) _⟩
theorem a2d(x1 x2 x3 x4 x5:Int)(w:World){g:Nat}(hg:g=w.heap.size):Calls prog 153 #[.slice (some ⟨g,0,none⟩) 5 5] (w.alloc (.cells #[.int .i64 x1,.int .i64 x2,.int .i64 x3,.int .i64 x4,.int .i64 x5] 2))
  (aZ (.tuple #[.int .i64 (jO [x1,x2,x3,x4,x5]),.bool (iE [x1,x2,x3,x4,x5])]) w):=
 (Xt _ [x1,x2,x3,x4,x5] 5 _ (jE w [x1,x2,x3,x4,x5] 2 hg) (Nat.le_refl 5) (by decide)).mono fun _ _ h=>⟨h.1,(bR.alloc nR _).trans (h.2.mono (by simp))⟩
theorem Ea(m:Mp)(p:Pt)(w:World):Calls prog 142 #[m.v,p.v] w (aZ (.tuple #[(m.take p).v,.bool (m.takes p)]) w):=by
 obtain⟨a,b,c,d,e,f⟩:=m;obtain⟨x,y⟩:=p;have HT:Hid (Mp.takes ⟨a,b,c,d,e,f⟩ ⟨x,y⟩=(iE [a,x,c,y,e]&&iE [b,x,d,y,f])):=rfl;have HV:Hid (Mp.take ⟨a,b,c,d,e,f⟩ ⟨x,y⟩=if (iE [a,x,c,y,e]&&iE [b,x,d,y,f])=true then ⟨jO [a,x,c,y,e],jO [b,x,d,y,f]⟩ else ⟨0,0⟩):=rfl;generalize Mp.takes ⟨a,b,c,d,e,f⟩ ⟨x,y⟩=rt at*;generalize Mp.take ⟨a,b,c,d,e,f⟩ ⟨x,y⟩=rv at*;obtain⟨rx,ry⟩:=rv;have HX:=Hd (fun w g (h:g=w.heap.size)=>a2d a x c y e w h);have HY:=Hd (fun w g (h:g=w.heap.size)=>a2d b x d y f w h);unfold Mp.v Pt.v;simp only;generalize iE [a,x,c,y,e]=xb at*
 generalize jO [a,x,c,y,e]=xv at*;generalize iE [b,x,d,y,f]=yb at*;generalize jO [b,x,d,y,f]=yv at*;go_enter func142,ntmps142;go_wp2_with (fail);refine(HX.o _ _ (by simp)).mono ?_;rintro e w1 ⟨rfl,hb⟩;have HB1:Hid (bz w w1):=(((bR.alloc nR _).alloc (by simp) _).alloc (by simp;omega) _).trans (hb.mono (by simp;omega));have bm:az w1 w.heap.size (Vh a b c d e f):=(((aA w (Vh a b c d e f) _).alloc _).alloc _).below hb (by simp;omega)
 have bp:az w1 (w.heap.size+1) [.int .i64 x,.int .i64 y]:=((aY (w.alloc _) _ (by simp) [.int .i64 x,.int .i64 y] _).alloc _).below hb (by simp);have br:az w1 (w.heap.size+1+1) [.int .i64 0,.int .i64 0]:=(aY ((w.alloc _).alloc _) _ (by simp) [.int .i64 0,.int .i64 0] _).below hb (by simp);clear hb;have HR:=Hd br;obtain⟨⟨-,m1,-,m3,-,m5⟩,-,mi⟩:=bm.c6;obtain⟨⟨p0,p1⟩,-,pi⟩:=bp.c2;clear bm bp br;go_wp2_with (fail);refine(HY.o _ _ rfl).mono ?_;rintro e w2 ⟨rfl,hb⟩;have HB2:=Hd (HB1.o.trans (hb.mono HB1.o.size))
 have HR2:Hid (az w2 (w.heap.size+1+1) [.int .i64 0,.int .i64 0]):=HR.o.below hb HR.o.inside;clear hb m1 m3 m5 mi p0 p1 pi HB1 HR;obtain⟨⟨r0,r1⟩,⟨f0,f1⟩,ri⟩:=HR2.o.c2
 have HF:Hid (∀Q:Ending->World->Prop,∀tmps,tmps.getD 4 undef=.pointer (some ⟨w.heap.size+1+1,0,none⟩)->tmps.getD 5 undef=.bool rt->∀W,az W (w.heap.size+1+1) [.int .i64 rx,.int .i64 ry]->Q (.returned (.tuple #[.agg #[.int .i64 rx,.int .i64 ry],.bool rt])) W->bodyPost prog Tryz.f142 Q Exit.ret { tmps:=tmps,defers:=[] } W):=fun Q tmps h4 h5 W hB hQ=>
  aS rfl h4 h5 hB underlying121 rfl ag hQ
 cases xb with
 |true=>
  cases yb with
  |true=>
   have hv:=HV.o.trans (if_pos rfl)
   injection hv with e0 e1
   subst e0;subst e1;obtain rfl:=HT.o;clear HV HT;go_wp2_with (fail);exact HF.o _ _ rfl rfl _ (HR2.o.OB _ _) ⟨rfl,below2 HB2.o (by omega) _ _⟩
  |false=>
   have hv:=HV.o.trans (if_neg (by decide))
   injection hv with e0 e1
   subst e0;subst e1;obtain rfl:=HT.o;clear HV HT;go_wp2_with (fail);exact HF.o _ _ rfl rfl _ (HR2.o.OB _ _) ⟨rfl,below2 HB2.o (by omega) _ _⟩
 |false=>
  have hv:=HV.o.trans (if_neg (by simp))
  injection hv with e0 e1
  subst e0;subst e1;obtain rfl:rt=false:=by rw[HT.o];rfl
  clear HV HT;go_wp2_with (fail);exact HF.o _ _ rfl rfl _ (HR2.o.OB _ _) ⟨rfl,below2 HB2.o (by omega) _ _⟩
end
section
open Go.RowKit
theorem vN(n:Int):bits .and .i64 n 65535=n % 65536:=by
 have h3:(BitVec.ofInt 64 65535).toNat=2 ^ 16 - 1:=by decide
 have key:(BitVec.ofInt 64 n &&& BitVec.ofInt 64 65535).toNat=(n % ((2 ^ 64:Nat):Int)).toNat % 2 ^ 16:=by
  rw[BitVec.toNat_and,BitVec.toNat_ofInt,h3,Nat.and_two_pow_sub_one_eq_mod]
 show IntKind.i64.wrap ((BitVec.ofInt 64 n &&& BitVec.ofInt 64 65535).toNat:Nat)=n % 65536;rw[key,IntKind.wrap_i64];omega
theorem Su(x y:Int)(w:World):Calls prog 102 #[.int .i64 x,.int .i64 y] w (aZ (Mp.v ⟨x,0,0,y,0,0⟩) w):=by
 go_enter func102,ntmps102;go_wp2_with (fail);exact bJ rfl rfl (aY _ _ (by simp) (Mp.cs ⟨x,0,0,y,0,0⟩) _) underlying67 rfl ag ⟨rfl,bR.alloc nR _⟩
def Mp.one:Mp:=⟨65536,0,0,65536,0,0⟩
theorem ZY(w:World):Calls prog 79 #[] w fun e w'=>e=.returned Mp.one.v∧bz w w':=by
 go_enter func79,ntmps79;go_wp2_with (fail);refine(Su 65536 65536 _).mono ?_;rintro e w1 ⟨rfl,hb⟩;have br:az w1 w.heap.size Mp.o.cs:=(aA w Mp.o.cs _).below hb (by simp);have HB:Hid (bz w w1):=(bR.alloc nR _).trans (hb.mono (by simp));have HR:=Hd br;unfold Mp.v;simp only;obtain⟨⟨c0,c1,c2,c3,c4,c5⟩,⟨f0,f1,f2,f3,f4,f5⟩,-⟩:=az.c6 br;clear hb br;go_wp2_with (fail);exact bJ rfl rfl (az.qP HR.o _ _ _ _ _ _) underlying67 rfl ag ⟨rfl,iU HB.o nR _ _ _ _ _ _⟩
def Mp.turn(q:Int):Mp:=if q % 4=1 then ⟨0,65536,-65536,0,0,0⟩ else if q % 4=2 then ⟨-65536,0,0,-65536,0,0⟩ else if q % 4=3 then ⟨0,-65536,65536,0,0,0⟩ else Mp.one
theorem az.at6{w:World}{g:Nat}{l:List Int}(h:az w g (l.map eI)){k:Nat}(hk:k<l.length):w.cell? ⟨g,k,none⟩=some (.int .i64 l[k]):=by
 rw[h.cell,List.getElem?_map,List.getElem?_eq_getElem hk];rfl
theorem OM(m:Mp)(w:World):Calls prog 106 #[m.v] w (aZ (.bool m.right) w):=by
 obtain⟨a,b,c,d,e,f⟩:=m;unfold Mp.v Mp.right Mp.l;simp only
 obtain⟨l,hl⟩:=aC ([a,b,c,d,e,f])
 have HL:Hid (l.length=6):=by rw[←hl];rfl
 have HM:Hid (∀T,az (w.alloc (.cells (Vh a b c d e f).toArray T)) w.heap.size (l.map eI)):=by
  intro T;rw[←hl];exact aA w (Vh a b c d e f) T
 rw[hl];clear hl;go_enter func106,ntmps106;go_wp2_with (fail);have hB:=Hd (HM.o 37);have HB:Hid (bz w (w.alloc (.cells (Vh a b c d e f).toArray 37))):=bR.alloc nR _;generalize w.alloc (.cells (Vh a b c d e f).toArray 37)=W at*;clear HM
 go_loop [3] (fun i=>∃k:Nat,k<=6∧i=.int .i64 k∧Hid (dO (l.take k)=true)) (fun i=>6 - (intOf i).toNat)
 case atStart=>exact⟨0,Nat.zero_le _,rfl,by simp[Hid,dO]⟩
 case round=>
  obtain⟨k,hk,rfl,HK⟩:=hrel;by_cases hlt:k<6
  ·have hkl:k<l.length:=by rw[HL.o];exact hlt
   have hc:=hB.o.at6 hkl;have hin:=hB.o.inside;have H1:=Hd (wF HK.o hkl);have HN:=Hd (Ap (l:=l) hkl);generalize l[k]=x at*;clear HK;go_wp2_with (fail);refine(oJ x W).mono ?_;cases hx:bY x with
   |true=>
    rw[hx]at H1;have HB2:=Hd (H1.o rfl);clear H1 HN hx;rintro e w' ⟨rfl,rfl⟩;go_wp2_with (fail)
    go_round
    case rel=>exact⟨k+1,by omega,by go_num,HB2⟩
    case measure=>simp[intOf];omega
   |false=>
    rw[hx]at HN;have HB2:=Hd (HN.o rfl);clear H1 HN hx;rintro e w' ⟨rfl,rfl⟩;go_wp2_with (fail);go_ret;exact⟨aI HB2.o.symm,HB.o⟩
  ·have hk6:k=6:=by omega
   subst hk6;have HB2:=Hd (wu HK.o (by rw[HL.o];exact Nat.le_refl 6));go_wp2_with (fail);go_ret;exact⟨aI HB2.o.symm,HB.o⟩
end
section
open Go.RowKit
def Mp.still(n:Mp):Mp:=⟨n.a,n.b,n.c,n.d,0,0⟩
def Mp.iG(m n:Mp):Bool:=(n.still.takes ⟨m.a,m.b⟩&&n.still.takes ⟨m.c,m.d⟩)&&n.takes ⟨m.e,m.f⟩
def Mp.kz(m n:Mp):Mp:=⟨(n.still.take ⟨m.a,m.b⟩).x,(n.still.take ⟨m.a,m.b⟩).y,(n.still.take ⟨m.c,m.d⟩).x,(n.still.take ⟨m.c,m.d⟩).y,(n.take ⟨m.e,m.f⟩).x,(n.take ⟨m.e,m.f⟩).y⟩
theorem WX(m n:Mp)(w:World):Calls prog 127 #[m.v,n.v] w (aZ (.tuple #[(m.kz n).v,.bool (m.iG n)]) w):=by
 obtain⟨a,b,c,d,e,f⟩:=m;obtain⟨a',b',c',d',e',f'⟩:=n;have H1:=Hd (fun w=>Ea ⟨a',b',c',d',0,0⟩ ⟨a,b⟩ w);have H2:=Hd (fun w=>Ea ⟨a',b',c',d',0,0⟩ ⟨c,d⟩ w);have H3:=Hd (fun w=>Ea ⟨a',b',c',d',e',f'⟩ ⟨e,f⟩ w);unfold Mp.iG Mp.kz Mp.still;simp only;generalize Mp.take ⟨a',b',c',d',0,0⟩ ⟨a,b⟩=p1 at*;generalize Mp.take ⟨a',b',c',d',0,0⟩ ⟨c,d⟩=p2 at*;generalize Mp.take ⟨a',b',c',d',e',f'⟩ ⟨e,f⟩=p3 at*;generalize Mp.takes ⟨a',b',c',d',0,0⟩ ⟨a,b⟩=t1 at*;generalize Mp.takes ⟨a',b',c',d',0,0⟩ ⟨c,d⟩=t2 at*;generalize Mp.takes ⟨a',b',c',d',e',f'⟩ ⟨e,f⟩=t3 at*;obtain⟨x1,y1⟩:=p1
 obtain⟨x2,y2⟩:=p2;obtain⟨x3,y3⟩:=p3;unfold Mp.v Pt.v at*;simp only at H1 H2 H3 ⊢;go_enter func127,ntmps127;go_wp2_with (fail)
 have B0:Hid (bz w ((((w.alloc (.cells (Vh a b c d e f).toArray 67)).alloc (.cells (Vh a' b' c' d' e' f').toArray 67)).alloc (.cells Vd.toArray 67)).alloc (.cells (Vp a' b' c' d').toArray 67))):=
  (((bR.alloc nR _).alloc (by simp) _).alloc (by simp;omega) _).alloc (by simp;omega) _
 have bm0:az ((((w.alloc (.cells (Vh a b c d e f).toArray 67)).alloc (.cells (Vh a' b' c' d' e' f').toArray 67)).alloc (.cells Vd.toArray 67)).alloc (.cells (Vp a' b' c' d').toArray 67)) w.heap.size (Vh a b c d e f):=
  (((aA w (Vh a b c d e f) _).alloc _).alloc _).alloc _
 have bn0:az ((((w.alloc (.cells (Vh a b c d e f).toArray 67)).alloc (.cells (Vh a' b' c' d' e' f').toArray 67)).alloc (.cells Vd.toArray 67)).alloc (.cells (Vp a' b' c' d').toArray 67)) (w.heap.size+1) (Vh a' b' c' d' e' f'):=
  ((aY (w.alloc _) _ (by simp) (Vh a' b' c' d' e' f') _).alloc _).alloc _
 have br0:az ((((w.alloc (.cells (Vh a b c d e f).toArray 67)).alloc (.cells (Vh a' b' c' d' e' f').toArray 67)).alloc (.cells Vd.toArray 67)).alloc (.cells (Vp a' b' c' d').toArray 67)) (w.heap.size+1+1) Vd:=
  (aY ((w.alloc _).alloc _) _ (by simp) Vd _).alloc _
 have bs0:az ((((w.alloc (.cells (Vh a b c d e f).toArray 67)).alloc (.cells (Vh a' b' c' d' e' f').toArray 67)).alloc (.cells Vd.toArray 67)).alloc (.cells (Vp a' b' c' d').toArray 67)) (w.heap.size+1+1+1) (Vp a' b' c' d'):=
  aY (((w.alloc _).alloc _).alloc _) _ (by simp) (Vp a' b' c' d') _
 generalize ((((w.alloc (.cells (Vh a b c d e f).toArray 67)).alloc (.cells (Vh a' b' c' d' e' f').toArray 67)).alloc (.cells Vd.toArray 67)).alloc (.cells (Vp a' b' c' d').toArray 67))=W0 at*;refine(H1.o _).mono ?_;rintro e1 w1 ⟨rfl,hb⟩;have B1:Hid (bz w w1):=B0.o.trans (hb.mono B0.o.size);have QM:=Hd (bm0.below' hb);have bn1:=Hd (bn0.below' hb);have Nw:=Hd (br0.below' hb);have bs1:=Hd (bs0.below' hb);clear hb bm0 bn0 br0 bs0;obtain⟨⟨-,-,m2,m3,-,-⟩,-,mi⟩:=QM.o.c6;obtain⟨⟨s0,s1,s2,s3,s4,s5⟩,-,si⟩:=bs1.o.c6;go_wp2_with (fail);refine(H2.o _).mono ?_
 rintro e2 w2 ⟨rfl,hb⟩;have B2:Hid (bz w w2):=(B1.o.alloc B1.o.size _).trans (hb.mono (by have:=B1.o.size;simp;omega));have XE:=Hd ((QM.o.alloc _).below' hb);have bn2:=Hd ((bn1.o.alloc _).below' hb);have Nv:=Hd ((Nw.o.alloc _).below' hb);have bp2:Hid (az w2 w1.heap.size [.int .i64 x1,.int .i64 y1]):=(aA w1 [.int .i64 x1,.int .i64 y1] _).below' hb;clear hb m2 m3 mi s0 s1 s2 s3 s4 s5 si QM bn1 Nw bs1;generalize w1.heap.size=g1 at*;obtain⟨⟨-,-,-,-,m4,m5⟩,-,mi⟩:=XE.o.c6;obtain⟨⟨n0,n1,n2,n3,n4,n5⟩,-,ni⟩:=bn2.o.c6;go_wp2_with (fail)
 refine(H3.o _).mono ?_;rintro e3 w3 ⟨rfl,hb⟩;have B3:Hid (bz w w3):=(B2.o.alloc B2.o.size _).trans (hb.mono (by have:=B2.o.size;simp;omega));have Y8:=Hd ((Nv.o.alloc _).below' hb);have bp3:=Hd ((bp2.o.alloc _).below' hb);have bq3:Hid (az w3 w2.heap.size [.int .i64 x2,.int .i64 y2]):=(aA w2 [.int .i64 x2,.int .i64 y2] _).below' hb;clear hb m4 m5 mi n0 n1 n2 n3 n4 n5 ni XE bn2 Nv bp2;generalize w2.heap.size=g2 at*;obtain⟨⟨p0,p1⟩,-,pi⟩:=bp3.o.c2;obtain⟨⟨q0,q1⟩,-,qi⟩:=bq3.o.c2;obtain⟨⟨r0,r1,r2,r3,r4,r5⟩,⟨f0,f1,f2,f3,f4,f5⟩,ri⟩:=Y8.o.c6
 have HR:=Hd Y8.o;clear Y8 bp3 bq3;cases t1 with
 |true=>
  cases t2 with
  |true=>
   go_wp2_with (fail);exact aS rfl rfl rfl ((az.qP HR.o _ _ _ _ _ _).alloc _) underlying67 rfl ag ⟨rfl,(iU B3.o (by omega) _ _ _ _ _ _).alloc (by have:=B3.o.size;simp[World.setCell];omega) _⟩
  |false=>
   go_wp2_with (fail);exact aS rfl rfl rfl ((az.qP HR.o _ _ _ _ _ _).alloc _) underlying67 rfl ag ⟨rfl,(iU B3.o (by omega) _ _ _ _ _ _).alloc (by have:=B3.o.size;simp[World.setCell];omega) _⟩
 |false=>
  go_wp2_with (fail);exact aS rfl rfl rfl ((az.qP HR.o _ _ _ _ _ _).alloc _) underlying67 rfl ag ⟨rfl,(iU B3.o (by omega) _ _ _ _ _ _).alloc (by have:=B3.o.size;simp[World.setCell];omega) _⟩
end
section
open Go.RowKit
theorem Ua(A:Option Addr)(l:List Int)(w:World)(hr:Row eI w A l)(h1:l.length<=5) :
  Calls prog 72 #[.slice A l.length l.length] w fun e w'=>e=.returned (.tuple #[.int .i64 (jO l),.bool (iE l)])∧dP w w':=
 Ub A l l.length w hr nR (by omega)
theorem Ry:bY 0=true:=rF (by decide) (by decide)
theorem a0q(a b c d:Int):dots [a,b,c,d,0]=dots [a,b,c,d]:=by
 show a*b+(c*d+0*65536)=a*b+(c*d+0);omega
theorem Y5(a b c d:Int):iE [a,b,c,d,0]=iE [a,b,c,d]∧jO [a,b,c,d,0]=jO [a,b,c,d]:=by
 have h1:dO [a,b,c,d,0]=dO [a,b,c,d]:=by simp[dO,Ry]
 unfold iE jO;rw[h1,a0q];simp
def Mp.dl(m n:Mp):List (List Int):=[[n.a,m.a,n.c,m.b],[n.b,m.a,n.d,m.b],[n.a,m.c,n.c,m.d],[n.b,m.c,n.d,m.d],[n.a,m.e,n.c,m.f,n.e],[n.b,m.e,n.d,m.f,n.f]]
def Mp.dok(m n:Mp):Bool:=(m.dl n).all iE
theorem Mp.a0r(m n:Mp):m.dok n=m.iG n:=by
 unfold Mp.dok Mp.dl Mp.iG Mp.takes Mp.dx Mp.dy Mp.still;simp only[List.all_cons,List.all_nil,Bool.and_true,(Y5 _ _ _ _).1,Bool.and_assoc]
theorem Mp.a0t(m n:Mp)(h:m.iG n=true):(m.dl n).map (fun l=>eI (jO l))=(m.kz n).cs:=by
 unfold Mp.iG at h;simp only[Bool.and_eq_true]at h;obtain⟨⟨h1,h2⟩,h3⟩:=h;unfold Mp.kz Mp.take Mp.cs;rw[if_pos h1,if_pos h2,if_pos h3];unfold Mp.dl Mp.dx Mp.dy Mp.still eI;simp only[List.map_cons,List.map_nil,(Y5 _ _ _ _).2]
def outs(D:List (List Int))(k:Nat):List Value:=(D.take k).map (fun l=>eI (jO l))++List.replicate (D.length - k) (eI 0)
theorem OG(D:List (List Int)){k:Nat}(hk:k<D.length):(outs D k).set k (eI (jO D[k]))=outs D (k+1):=by
 unfold outs;have e:D.length - k=(D.length - (k+1))+1:=by omega
 rw[List.take_succ_eq_append_getElem hk,List.map_append,e,List.replicate_succ,List.set_append,if_neg (by simp[Nat.min_eq_left (Nat.le_of_lt hk)])];simp[Nat.min_eq_left (Nat.le_of_lt hk)]
theorem WG(D:List (List Int)){k:Nat}(hk:k<D.length):(outs D k)[k]?=some (.int .i64 0):=by
 unfold outs;rw[List.getElem?_append_right (by simp[Nat.min_eq_left (Nat.le_of_lt hk)])];simp only[List.length_map,List.length_take,Nat.min_eq_left (Nat.le_of_lt hk),Nat.sub_self,List.getElem?_replicate];rw[if_pos (by omega)];rfl
theorem RQ(D:List (List Int)):outs D D.length=D.map (fun l=>eI (jO l)):=by simp[outs]
theorem Ij{α:Type}{p:α->Bool}{l:List α}{k:Nat}(h:(l.take k).all p=true)(hk:k<l.length)(hx:p l[k]=true):(l.take (k+1)).all p=true:=by
 rw[List.take_succ_eq_append_getElem hk,List.all_append,h];simp[hx]
theorem NF{α:Type}{p:α->Bool}{l:List α}{k:Nat}(hk:k<l.length)(hx:p l[k]=false):l.all p=false:=by
 rw[List.all_eq_false];exact⟨_,List.getElem_mem hk,by simp[hx]⟩
theorem Row.block{α:Type}{enc:α->Value}{w w':World}{g B:Nat}{l:List α}(h:Row enc w (some ⟨g,0,none⟩) l)(hb:Below B w w')(hg:g<B):Row enc w' (some ⟨g,0,none⟩) l:=fun hn=>by
 obtain⟨b,off,e,hc⟩:=h hn;refine⟨b,off,e,fun j hj=>?_⟩;simp only[Option.some.injEq,Addr.mk.injEq,and_true]at e;obtain⟨rfl,rfl⟩:=e;exact(hb.cell (p:=⟨g,_,none⟩) hg).trans (hc j hj)
def Io(w:World)(gA:Nat)(D:List (List Int)):Prop:=∀k (hk:k<D.length),∃g,g<gA∧w.cell? ⟨gA,k,none⟩=some (.slice (some ⟨g,0,none⟩) D[k].length D[k].length)∧Row eI w (some ⟨g,0,none⟩) D[k]
theorem Ru{w:World}{gA:Nat}{D:List (List Int)}{cs:List Value}(hb:az w gA cs)(h:∀k (hk:k<D.length),∃g,g<gA∧cs[k]?=some (.slice (some ⟨g,0,none⟩) D[k].length D[k].length)∧Row eI w (some ⟨g,0,none⟩) D[k]):Io w gA D:=fun k hk=>by
 obtain⟨g,hg,hc,hr⟩:=h k hk;exact⟨g,hg,(hb.cell k).trans hc,hr⟩
theorem Io.below{w w':World}{gA:Nat}{D:List (List Int)}(h:Io w gA D)(hb:Below (gA+1) w w'):Io w' gA D:=fun k hk=>by
 obtain⟨g,hg,hc,hr⟩:=h k hk;exact⟨g,hg,(hb.cell (p:=⟨gA,_,none⟩) (Nat.lt_succ_self _)).trans hc,hr.block hb (by omega)⟩
theorem Sv(m n:Mp)(w:World):Calls prog 41 #[m.v,n.v] w (aZ (.tuple #[(if m.iG n=true then m.kz n else Mp.o).v,.bool (m.iG n)]) w):=by
 have HV:=Hd (m.a0t n);rw[←Mp.a0r]at HV ⊢;have HO:Hid ((m.dl n).all iE=m.dok n):=rfl
 obtain⟨r,hr⟩:=aC ((if m.dok n=true then m.kz n else Mp.o))
 rw[hr];have HRT:Hid (m.dok n=true->m.kz n=r):=fun h=>by rw[←hr,if_pos h]
 have XW:Hid (m.dok n=false->Mp.o=r):=fun h=>by rw[←hr,if_neg (by rw[h];decide)]
 clear hr;generalize m.kz n=V at*;generalize m.dok n=ok at*
 obtain⟨D,hD⟩:=aC (m.dl n)
 obtain⟨a,b,c,d,e,f⟩:=m;obtain⟨a',b',c',d',e',f'⟩:=n;have HL:Hid (D.length=6):=by rw[←hD];rfl
 have HD:Hid (D=[[a',a,c',b],[b',a,d',b],[a',c,c',d],[b',c,d',d],[a',e,c',f,e'],[b',e,d',f,f']]):=hD.symm
 have EI:Hid (∀x∈D,x.length<=5):=by
  rw[←hD];intro x hx;simp only[Mp.dl,List.mem_cons,List.not_mem_nil,or_false]at hx;rcases hx with rfl|rfl|rfl|rfl|rfl|rfl<;>simp
 rw[hD]at HV HO;clear hD;unfold Mp.v;simp only;go_enter func41,ntmps41;go_wp2_with (fail)
 go_loopw [8] (fun i wr=>∃(k:Nat) (W0:World),k<=6∧i=.int .i64 k∧Hid ((D.take k).all iE=true)∧Hid (Io W0 (w.heap.size+1+1+1+1+1+1+1+1+1) D)∧Hid (az W0 (w.heap.size+1+1) Mp.o.cs)∧Hid (bz w W0)∧Hid (Below (w.heap.size+1+1+1+1+1+1+1+1+1+1) W0 wr)∧Hid (az wr (w.heap.size+1+1+1+1+1+1+1+1+1+1) (outs D k))) (fun i _=>6 - (intOf i).toNat)
 case atStart=>
  refine⟨0,_,Nat.zero_le _,rfl,rfl,?_,?_,?_,bR,?_⟩
  ·refine Ru ((aY _ _ (by simp) [.slice (some ⟨w.heap.size+1+1+1,0,none⟩) 4 4,.slice (some ⟨w.heap.size+1+1+1+1,0,none⟩) 4 4,.slice (some ⟨w.heap.size+1+1+1+1+1,0,none⟩) 4 4,.slice (some ⟨w.heap.size+1+1+1+1+1+1,0,none⟩) 4 4,.slice (some ⟨w.heap.size+1+1+1+1+1+1+1,0,none⟩) 5 5,.slice (some ⟨w.heap.size+1+1+1+1+1+1+1+1,0,none⟩) 5 5] _).alloc _) ?_;rw[HD.o];intro k hk;have hk6:k<6:=hk;rcases(by omega:k=0∨k=1∨k=2∨k=3∨k=4∨k=5) with rfl|rfl|rfl|rfl|rfl|rfl
   ·exact⟨w.heap.size+1+1+1,by omega,rfl,((((((((jE _ [a',a,c',b] _ (by simp)).alloc _).alloc _).alloc _).alloc _).alloc _).alloc _).alloc _)⟩
   ·exact⟨w.heap.size+1+1+1+1,by omega,rfl,(((((((jE _ [b',a,d',b] _ (by simp)).alloc _).alloc _).alloc _).alloc _).alloc _).alloc _)⟩
   ·exact⟨w.heap.size+1+1+1+1+1,by omega,rfl,((((((jE _ [a',c,c',d] _ (by simp)).alloc _).alloc _).alloc _).alloc _).alloc _)⟩
   ·exact⟨w.heap.size+1+1+1+1+1+1,by omega,rfl,(((((jE _ [b',c,d',d] _ (by simp)).alloc _).alloc _).alloc _).alloc _)⟩
   ·exact⟨w.heap.size+1+1+1+1+1+1+1,by omega,rfl,((((jE _ [a',e,c',f,e'] _ (by simp)).alloc _).alloc _).alloc _)⟩
   ·exact⟨w.heap.size+1+1+1+1+1+1+1+1,by omega,rfl,(((jE _ [b',e,d',f,f'] _ (by simp)).alloc _).alloc _)⟩
  ·exact(((((((((aY _ _ (by simp) Mp.o.cs _).alloc _).alloc _).alloc _).alloc _).alloc _).alloc _).alloc _).alloc _)
  ·show Below _ _ _;refine Below.alloc (Below.alloc (Below.alloc (Below.alloc (Below.alloc (Below.alloc (Below.alloc (Below.alloc (Below.alloc (Below.alloc (bR.alloc nR _) ?_ _) ?_ _) ?_ _) ?_ _) ?_ _) ?_ _) ?_ _) ?_ _) ?_ _) ?_ _
   ·simp
   all_goals simp only[World.size_alloc]
   all_goals omega
  ·have e:outs D 0=Mp.o.cs:=by rw[HD.o];rfl
   rw[e];exact aY _ _ (by simp) Mp.o.cs _
 case round=>
  obtain⟨k,W0,hk,rfl,HK,Zj,HR0,HB0,o5,X4⟩:=hrel;by_cases hlt:k<6
  ·have hkl:k<D.length:=by rw[HL.o];exact hlt
   obtain⟨g,hg,hc,hrow⟩:=(Zj.o.below o5.o) k hkl;have h5:D[k].length<=5:=EI.o _ (List.getElem_mem hkl);have H1:=Hd (Ij (p:=iE) HK.o hkl);have HN:=Hd (NF (p:=iE) (l:=D) hkl);have HS:=Hd (OG D hkl);have HAT:=Hd (WG D hkl);have hin:w.heap.size+1+1+1+1+1+1+1+1+1<wr.heap.size:=World.block_lt_of_cell? wr _ hc;generalize D[k]=x at*;have AU:=Hd hrow;have H5:=Hd h5;clear HK hrow h5 hkl hg;go_wp2_with (fail);refine(Ua _ x wr AU.o H5.o).mono ?_;rintro e wd ⟨rfl,hd⟩
   have HBD:Hid (Below (w.heap.size+1+1+1+1+1+1+1+1+1+1) W0 wd):=o5.o.trans (hd.below _);have hout:az wd (w.heap.size+1+1+1+1+1+1+1+1+1+1) (outs D k):=X4.o.below' (hd.below _);have Iz:=Hd hout;have o0:=(hout.cell k).trans HAT.o;have of:=hout.free k;have oi:=hout.inside;have XX:=Hd ((HR0.o.below (hd.below _ |> o5.o.trans) (by omega)));clear hout hd hc hin AU o5 X4;cases hx:iE x with
   |true=>
    rw[hx]at H1;have HB2:=Hd (H1.o rfl);clear H1 HN hx of oi XX;have of:=Iz.o.free k;have oi:=Iz.o.inside;go_wp2_with (fail)
    go_roundw
    case rel=>exact⟨k+1,W0,by omega,by go_num,HB2,Zj,HR0,HB0,dW HBD.o nR,by show az _ _ _;rw[←HS.o];exact Iz.o.set k _⟩
    case measure=>simp[intOf];omega
   |false=>
    rw[hx]at HN;have HB2:Hid (ok=false):=HO.o.symm.trans (HN.o rfl);have hok:=HB2.o;subst hok;have hr:=XW.o rfl;subst hr;clear H1 HN hx of oi o0 HRT XW HV HB2;obtain⟨⟨c0,c1,c2,c3,c4,c5⟩,⟨f0,f1,f2,f3,f4,f5⟩,ri⟩:=az.c6 XX.o;go_wp2_with (fail);exact aS rfl rfl rfl (az.qP XX.o _ _ _ _ _ _) underlying37 rfl ag ⟨rfl,iU (HB0.o.trans (HBD.o.mono (by omega))) (by omega) _ _ _ _ _ _⟩
  ·have hk6:k=D.length:=by rw[HL.o];omega
   have hok:ok=true:=by
    have h:=HK.o;rw[hk6,List.take_length,HO.o]at h;exact h
   subst hok;have hr:=HRT.o rfl;subst hr
   have hout:az wr (w.heap.size+1+1+1+1+1+1+1+1+1+1) V.cs:=by
    have h:=X4.o;rw[hk6,RQ,HV.o rfl]at h;exact h
   have Iz:=Hd hout;have XX:=Hd (HR0.o.below o5.o (by omega));have HB2:=Hd (HB0.o.trans (o5.o.mono (by omega)));have hk':k=6:=by rw[hk6];exact HL.o
   subst hk';clear hk6 HRT XW HV HO HK X4 o5 hout EI HL HD;obtain⟨va,vb,vc,vd,ve,vf⟩:=V;obtain⟨⟨c0,c1,c2,c3,c4,c5⟩,⟨f0,f1,f2,f3,f4,f5⟩,ri⟩:=az.c6 XX.o;obtain⟨⟨d0,d1,d2,d3,d4,d5⟩,-,di⟩:=az.c6 Iz.o;simp only at d0 d1 d2 d3 d4 d5;go_wp2_with (fail);exact aS rfl rfl rfl (az.qP XX.o _ _ _ _ _ _) underlying37 rfl ag ⟨rfl,iU HB2.o (by omega) _ _ _ _ _ _⟩
end
section
open Go.RowKit
def AO(w:World)(A:Option Addr)(l:List Mp):Prop:=aV 6 Mp.cs w A l
theorem AO.below{w w':World}{A:Option Addr}{l:List Mp}(h:AO w A l)(hb:bz w w'):AO w' A l:=aV.below h hb
theorem AO.at_{w:World}{A:Option Addr}{l:List Mp}(h:AO w A l){j:Nat}(hj:j<l.length):∃b off,A=some ⟨b,off,none⟩∧w.cell? ⟨b,off+j*6,none⟩=some (.int .i64 l[j].a)∧w.cell? ⟨b,off+j*6+1,none⟩=some (.int .i64 l[j].b)∧w.cell? ⟨b,off+j*6+2,none⟩=some (.int .i64 l[j].c)∧w.cell? ⟨b,off+j*6+3,none⟩=some (.int .i64 l[j].d)∧w.cell? ⟨b,off+j*6+4,none⟩=some (.int .i64 l[j].e)∧w.cell? ⟨b,off+j*6+5,none⟩=some (.int .i64 l[j].f):=by
 obtain⟨b,off,e,hc⟩:=h (by omega);exact⟨b,off,e,hc j hj 0 _ rfl,hc j hj 1 _ rfl,hc j hj 2 _ rfl,hc j hj 3 _ rfl,hc j hj 4 _ rfl,hc j hj 5 _ rfl⟩
theorem Mp.bZ(m:Mp):m.cs.length=6:=rfl
theorem Gs(w:World)(l:List Mp)(T:TypeId){g:Nat}(hg:g=w.heap.size):AO (w.alloc (.cells (l.flatMap Mp.cs).toArray T)) (some ⟨g,0,none⟩) l:=jA Mp.bZ w l T hg
def Mp.run(m:Mp):List Mp->Mp×Bool
 |[]=>(m,true)
 |n::l=>if m.iG n=true then (m.kz n).run l else (Mp.o,false)
def Mp.eP(m:Mp)(l:List Mp):Mp×Int:=if m.right=true∧l.all Mp.right=true then ((m.run l).1,if (m.run l).2=true then 0 else 35) else (Mp.o,11)
theorem Oc{m:Mp}{l:List Mp}(h:m.right=false∨l.all Mp.right=false):m.eP l=(Mp.o,11):=by
 unfold Mp.eP;rw[if_neg (by rcases h with h|h<;>simp[h])]
theorem Ob{m q:Mp}{l:List Mp}(h1:m.right=true)(h2:l.all Mp.right=true)(h:m.run l=(q,true)):m.eP l=(q,0):=by
 unfold Mp.eP;rw[if_pos ⟨h1,h2⟩,h,if_pos rfl]
theorem Jf{m q:Mp}{l:List Mp}(h1:m.right=true)(h2:l.all Mp.right=true)(h:m.run l=(q,false)):m.eP l=(q,35):=by
 unfold Mp.eP;rw[if_pos ⟨h1,h2⟩,h,if_neg (by simp)]
theorem Rt{q n:Mp}{l:List Mp}{k:Nat}(hk:k<l.length)(hn:l[k]=n):q.run (l.drop k)=if q.iG n=true then (q.kz n).run (l.drop (k+1)) else (Mp.o,false):=by
 rw[List.drop_eq_getElem_cons hk,hn];rfl
theorem Gt(m:Mp)(A:Option Addr)(l:List Mp)(c:Nat)(w:World)(hr:AO w A l)(hn:l.length<=9223372036854775807) :
  Calls prog 101 #[m.v,.slice A l.length c] w (aZ (.tuple #[(m.eP l).1.v,.int .i64 (m.eP l).2]) w):=by
 have AU:=Hd hr;have HN:=Hd hn;have HBAD:=Hd (Oc (m:=m) (l:=l));have ED:=Hd (fun q=>Ob (m:=m) (q:=q) (l:=l));have Dv:=Hd (fun q=>Jf (m:=m) (q:=q) (l:=l));have EF:=Hd (fun w=>tV m w);have Qp:Hid (m.run l=m.run (l.drop 0)):=rfl
 obtain⟨RS,hRS⟩:∃R,m.run l=R:=⟨_,rfl⟩
 rw[hRS]at Qp ED Dv;clear hRS
 obtain⟨T,hT⟩:=aC (m.eP l)
 rw[hT]at HBAD ED Dv ⊢;obtain⟨TM,TE⟩:=T;clear hr hn hT;generalize hmr:m.right=mr at*;clear hmr;have Yd:Hid (m.cs=(Vh m.a m.b m.c m.d m.e m.f)):=rfl;generalize hM:m=M at Qp Yd;obtain⟨a,b,c',d,e,f⟩:=m;subst hM;unfold Mp.v at EF ⊢;simp only at EF ⊢;go_enter func101,ntmps101;go_wp2_with (fail);refine(EF.o _).mono ?_;rintro e1 w1 ⟨rfl,hb⟩;have B1:Hid (bz w w1):=((bR.alloc nR _).alloc (by simp) _).trans (hb.mono (by simp;omega))
 have QM:Hid (az w1 w.heap.size (Vh a b c' d e f)):=((aA w (Vh a b c' d e f) _).alloc _).below hb (by simp;omega);have Nw:Hid (az w1 (w.heap.size+1) Mp.o.cs):=(aY (w.alloc _) _ (by simp) Mp.o.cs _).below hb (by simp);clear hb EF;cases mr with
 |false=>
  have hT:=HBAD.o (.inl rfl)
  injection hT with h1 h2
  subst h1;subst h2;clear HBAD ED Dv Qp Yd QM;obtain⟨⟨c0,c1,c2,c3,c4,c5⟩,⟨f0,f1,f2,f3,f4,f5⟩,ri⟩:=az.c6 Nw.o;go_wp2_with (fail);exact aS rfl rfl rfl (az.qP Nw.o _ _ _ _ _ _) underlying67 rfl ag ⟨rfl,iU B1.o (by omega) _ _ _ _ _ _⟩
 |true=>
  go_wp2_with (fail)
  go_loopw [18] (fun i wr=>∃k:Nat,k<=l.length∧i=.int .i64 k∧Hid ((l.take k).all Mp.right=true)∧Hid (bz w wr)∧Hid (az wr w.heap.size (Vh a b c' d e f))∧Hid (az wr (w.heap.size+1) Mp.o.cs)) (fun i _=>l.length - (intOf i).toNat)
  case atStart=>exact⟨0,Nat.zero_le _,rfl,rfl,B1,QM,Nw⟩
  case round=>
   obtain⟨k,hk,rfl,HK,HB,HM,HR⟩:=hrel;by_cases hlt:k<l.length
   ·obtain⟨b0,off,rA,q0,q1,q2,q3,q4,q5⟩:=AO.at_ (AU.o.below HB.o) hlt;subst rA;have H1:=Hd (Ij (p:=Mp.right) HK.o hlt);have Dw:=Hd (NF (p:=Mp.right) (l:=l) hlt);have XV:=Hd (fun w=>tV l[k] w);have hkb:(k:Int)<=9223372036854775806:=by have:=HN.o;omega
    generalize l[k].right=y at*;generalize l[k]=n at*;obtain⟨na,nb,nc,nd,ne,nf⟩:=n;unfold Mp.v at XV;simp only at q0 q1 q2 q3 q4 q5 XV;have hg:b0<wr.heap.size:=World.block_lt_of_cell? wr ⟨b0,_,none⟩ q0;clear HK;go_wp2_with (fail);refine(XV.o _).mono ?_;rintro e2 w2 ⟨rfl,hb⟩;have B2:Hid (bz w w2):=(HB.o.alloc HB.o.size _).trans (hb.mono (by have:=HB.o.size;simp;omega));have XE:=Hd ((HM.o.alloc _).below' hb);have Nv:=Hd ((HR.o.alloc _).below' hb);clear hb q0 q1 q2 q3 q4 q5 hg HB HM HR XV;cases y with
    |true=>
     have HB2:=Hd (H1.o rfl);clear H1 Dw;go_wp2_with (fail)
     go_roundw
     case rel=>exact⟨k+1,by omega,by go_num,HB2,B2,XE,Nv⟩
     case measure=>simp[intOf];omega
    |false=>
     have hT:=HBAD.o (.inr (Dw.o rfl))
     injection hT with h1 h2
     subst h1;subst h2;clear HBAD ED Dv Qp Yd H1 Dw XE;obtain⟨⟨c0,c1,c2,c3,c4,c5⟩,⟨f0,f1,f2,f3,f4,f5⟩,ri⟩:=az.c6 Nv.o;go_wp2_with (fail);exact aS rfl rfl rfl (az.qP Nv.o _ _ _ _ _ _) underlying67 rfl ag ⟨rfl,iU B2.o (by omega) _ _ _ _ _ _⟩
   ·have HA:Hid (l.all Mp.right=true):=by
     have h:=HK.o;rw[List.take_of_length_le (by omega)]at h;exact h
    obtain rfl:k=l.length:=by omega
    clear HK hlt hk HBAD;have UR:=Hd (fun q=>ED.o q trivial HA.o);have UQ:=Hd (fun q=>Dv.o q trivial HA.o);clear ED Dv QM Nw B1;go_wp2_with (fail)
    go_loopw [29] (fun i wx=>∃(k:Nat) (q:Mp),k<=l.length∧i=.int .i64 k∧Hid (RS=q.run (l.drop k))∧Hid (bz w wx)∧Hid (az wx w.heap.size q.cs)∧Hid (az wx (w.heap.size+1) Mp.o.cs)) (fun i _=>l.length - (intOf i).toNat)
    case atStart=>exact⟨0,_,Nat.zero_le _,rfl,Qp,HB,HM,HR⟩
    case round=>
     clear Qp Yd HB HM HR;obtain⟨k,q,hk,rfl,HQ,HB,HM,HR⟩:=hrel;obtain⟨qa,qb,qc,qd,qe,qf⟩:=q;by_cases hlt:k<l.length
     ·obtain⟨b0,off,rA,q0,q1,q2,q3,q4,q5⟩:=AO.at_ (AU.o.below HB.o) hlt;subst rA;have nY:=Hd (Rt (q:=⟨qa,qb,qc,qd,qe,qf⟩) hlt rfl);rw[←HQ.o]at nY;have hkb:(k:Int)<=9223372036854775806:=by have:=HN.o;omega
      generalize l[k]=n at*;obtain⟨na,nb,nc,nd,ne,nf⟩:=n;have XQ:=Hd (fun w=>WX ⟨qa,qb,qc,qd,qe,qf⟩ ⟨na,nb,nc,nd,ne,nf⟩ w);generalize Mp.iG ⟨qa,qb,qc,qd,qe,qf⟩ ⟨na,nb,nc,nd,ne,nf⟩=y at*;generalize Mp.kz ⟨qa,qb,qc,qd,qe,qf⟩ ⟨na,nb,nc,nd,ne,nf⟩=z at*;obtain⟨za,zb,zc,zd,ze,zf⟩:=z;unfold Mp.v at XQ;simp only at q0 q1 q2 q3 q4 q5 XQ;have hg:b0<wr.heap.size:=World.block_lt_of_cell? wr ⟨b0,_,none⟩ q0;obtain⟨⟨m0,m1,m2,m3,m4,m5⟩,-,mi⟩:=az.c6 HM.o;simp only at m0 m1 m2 m3 m4 m5;clear HQ;go_wp2_with (fail);refine(XQ.o _).mono ?_;rintro e2 w2 ⟨rfl,hb⟩
      have B2:Hid (bz w w2):=(HB.o.alloc HB.o.size _).trans (hb.mono (by have:=HB.o.size;simp;omega));have XE:=Hd ((HM.o.alloc _).below' hb);have Nv:=Hd ((HR.o.alloc _).below' hb);clear hb q0 q1 q2 q3 q4 q5 hg HB HM HR XQ m0 m1 m2 m3 m4 m5 mi;have hs2:=Nv.o.inside;cases y with
      |true=>
       have HB2:=Hd (nY.o.trans (if_pos rfl));clear nY;obtain⟨⟨c0,c1,c2,c3,c4,c5⟩,⟨f0,f1,f2,f3,f4,f5⟩,ri⟩:=az.c6 XE.o;go_wp2_with (fail)
       go_roundw
       case rel=>exact⟨k+1,⟨za,zb,zc,zd,ze,zf⟩,by omega,by go_num,HB2,(iU B2.o (by omega) _ _ _ _ _ _).alloc (by have:=B2.o.size;simp[World.setCell];omega) _,(az.qP XE.o _ _ _ _ _ _).alloc _,(az.a3I Nv.o (by omega) _ _ _ _ _ _).alloc _⟩
       case measure=>simp[intOf];omega
      |false=>
       have hT:=UQ.o Mp.o (nY.o.trans (if_neg (by decide)))
       injection hT with h1 h2
       subst h1;subst h2;clear UR UQ nY XE;obtain⟨⟨c0,c1,c2,c3,c4,c5⟩,⟨f0,f1,f2,f3,f4,f5⟩,ri⟩:=az.c6 Nv.o;go_wp2_with (fail);exact aS rfl rfl rfl ((az.qP Nv.o _ _ _ _ _ _).alloc _) underlying67 rfl ag ⟨rfl,(iU B2.o (by omega) _ _ _ _ _ _).alloc (by have:=B2.o.size;simp[World.setCell];omega) _⟩
     ·have hT:=UR.o ⟨qa,qb,qc,qd,qe,qf⟩ (by rw[HQ.o,List.drop_of_length_le (by omega)];rfl)
      injection hT with h1 h2
      subst h1;subst h2;clear UR UQ HQ;obtain⟨⟨m0,m1,m2,m3,m4,m5⟩,-,mi⟩:=az.c6 HM.o;simp only at m0 m1 m2 m3 m4 m5;obtain⟨⟨c0,c1,c2,c3,c4,c5⟩,⟨f0,f1,f2,f3,f4,f5⟩,ri⟩:=az.c6 HR.o;go_wp2_with (fail);exact aS rfl rfl rfl (az.qP HR.o _ _ _ _ _ _) underlying67 rfl ag ⟨rfl,iU HB.o (by omega) _ _ _ _ _ _⟩
end
end Go.Proofs.YthmegninhpihkaaGreat
