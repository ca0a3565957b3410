import Derived.Test.YthmegninhpihkaaGreatVScH
import Derived.RangeFuncBound
import Derived.RangeFuncLeaves
import Derived.Shelf.RegionOpen
import Derived.OwnWalkIn
import Derived.TacticsInMore
import Derived.LoopIn
import Derived.StillTailTactics
import Derived.Deep.Cut
set_option maxHeartbeats 16000000
set_option maxRecDepth 100000
open Go.Proofs.Tryz
namespace Go.Proofs.YthmegninhpihkaaGreat
section
open Go.RowKit aF xk Go.Shelf
attribute [local go_sem] Oper.semAt_some
theorem Qg(A:Option Addr)(n c:Nat)(w:World):Calls prog 147 #[.slice A n c] w fun e w'=>e=.returned (.func (.func 156) #[] #[.pointer (some ⟨w.heap.size,0,none⟩)])∧w'=w.alloc (.cells #[.slice A n c] 192):=by
 go_enter func147,ntmps147;go_wp2_with (fail);go_ret;exact⟨rfl,rfl⟩
structure Back(bx:Nat)(A:Option Addr)(c:Nat)(l:List Nat)(W:World):Prop where
 box:W.cell? ⟨bx,0,none⟩=some (.slice A l.length c)
 at_:∀j (hj:j<l.length),∃g,A=some ⟨g,0,none⟩∧W.cell? ⟨g,j,none⟩=some (.pointer (some ⟨l[j],0,none⟩))
theorem eG{B:Nat}{W W':World}(hb:Bk B W W'){a:Addr}{v:Value}(h:W.cell? a=some v):W'.cell? a=some v:=by
 obtain⟨o,ho,hc⟩:=cells_of_cell h;have:=hb.keep ho (by cases o<;>simp_all [uf,Obj.isCells]);exact(World.cell?_of_block (this.trans ho.symm)).trans h
theorem Back.bk{bx:Nat}{A:Option Addr}{c:Nat}{l:List Nat}{W W':World}{B:Nat}(h:Back bx A c l W)(hb:Bk B W W'):Back bx A c l W':=
 ⟨eG hb h.box,fun j hj=>by
  obtain⟨g,e,hc⟩:=h.at_ j hj
  exact⟨g,e,eG hb hc⟩⟩
def uz(l:List Nat):List (Array Value):=(List.range l.length).map fun j=>#[.int .i64 ((l.length:Int) - 1 - (j:Nat)),.pointer (some ⟨l.getD (l.length - 1 - j) 0,0,none⟩)]
theorem nP(l:List Nat):(uz l).length=l.length:=by simp[uz]
theorem Ic(l:List Nat){j:Nat}(hj:j<(uz l).length):(uz l)[j]=#[.int .i64 ((l.length:Int) - 1 - (j:Nat)),.pointer (some ⟨l.getD (l.length - 1 - j) 0,0,none⟩)]:=by simp[uz]
theorem Qe{bx:Nat}{A:Option Addr}{c:Nat}{l:List Nat}{W:World}(hl:l.length<=100000)(h:Back bx A c l W) :
  uF prog 156 #[.pointer (some ⟨bx,0,none⟩)] (uz l) (fun _=>Eq) (fun A' B=>Back bx A c l A'->Back bx A c l B) W:=by
 intro lp J Jx _ _ hY h0;have HY:=Hd hY;have HL:=Hd hl;have c0:=h.box;have HB:=Hd h;clear hY hl h;refine(callsIn_wide (n:=0)).1 (callsIn_of_wp func156 rfl trivial ?_ rfl);simp only[ntmps156,List.size_toArray,List.length_cons,List.length_nil,Nat.reduceAdd,Nat.reduceSub,Array.replicate_succ,Array.replicate_zero,List.push_toArray,List.append_toArray,List.nil_append,List.cons_append];have hlb:(l.length:Int)<=100000:=by have:=HL.o;omega
 gi_wp2_with (fail)
 gi_loopw [3] (fun x wr=>∃j:Nat,j<=l.length∧x=.int .i64 ((l.length:Int) - 1 - (j:Nat))∧Hid (J j wr)∧Hid (Back bx A c l wr)) (fun x _=>(intOf x+1).toNat)
 case atStart=>exact⟨0,Nat.zero_le _,by simp,h0,HB⟩
 case round=>
  obtain⟨j,hj,rfl,HJ,HK⟩:=hrel;by_cases hlt:j<l.length
  ·have hlt':j<(uz l).length:=by rw[nP];exact hlt
   obtain⟨fn,tmps,assign,body,hy,hR⟩:=HY.o j hlt' wr HJ.o;rw[Ic]at hy
   obtain⟨m,hm⟩:=aC (l.length - 1 - j)
   have e:(l.length:Int) - 1 - (j:Nat)=(m:Nat):=by omega
   have hml:m<l.length:=by omega
   have e2:((m:Nat):Int) - 1=(l.length:Int) - 1 - ((j+1:Nat):Int):=by omega
   obtain⟨g,rA,k1⟩:=HK.o.at_ m hml;rw[hm,List.getD_eq_getElem?_getD,List.getElem?_eq_getElem hml,Option.getD_some]at hy;have cb:=HK.o.box;subst rA;rw[e]at hy ⊢;generalize l[m]=x at*;have hmb:((m:Nat):Int)<=100000:=by omega
   have HE2:=Hd e2;have HM:=Hd hm;have HR:=Hd hR;clear e e2 hm hR
   gi_wp2_with (fail)
   refine⟨rfl,HR.o.mono ?_⟩;rintro e W3 ⟨-,(⟨rfl,hJ3,hk3⟩|⟨rfl,hJx3⟩)⟩
   ·have HB3:Hid (Back bx (some ⟨g,0,none⟩) c l W3):=hk3 HK.o;have uI:=Hd hJ3;clear hJ3 hk3 HJ HK
    gi_wp2_with (fail)
    go_roundw
    case rel=>exact⟨j+1,by omega,by rw[←HE2.o],uI,HB3⟩
    case measure=>simp[intOf]
   ·have uI:=Hd hJx3;clear hJx3 HJ HK
    gi_wp2_with (fail)
    refine bodyPost_ret (results_none rfl _ _ _) rfl ?_;exact⟨⟨_,rfl⟩,.inr ⟨j+1,by rw[nP];omega,uI.o⟩⟩
  ·have e:(l.length:Int) - 1 - (j:Nat)=-1:=by omega
   obtain rfl:j=l.length:=by omega
   have HJ2:Hid (J (uz l).length wr):=by rw[nP];exact HJ
   rw[e];clear e HJ HK
   gi_wp2_with (fail)
   go_end0
   exact⟨⟨_,rfl⟩,.inl HJ2.o⟩
end
section
open Go.RowKit aF xk
def wd(t:T)(i:Int)(d:Nat):List (Int×Nat):=(aF.walk t i).map fun x=>(x,d+(depth t x - depth t i))
theorem N8{t:T}(ok:Ok t){i x:Int}(hi:i=0∨i∈ids t)(h:x∈aF.walk t i):depth t i<=depth t x:=by
 rcases(dI ok hi).1 h with rfl|h
 ·exact nR
 ·exact Nat.le_of_lt (iY ok h)
theorem a1m{t:T}(ok:Ok t)(i:Int)(d:Nat):wd t i d=(i,d)::(kids t i).flatMap fun k=>wd t k (d+1):=by
 unfold wd;rw[walk_eq ok,List.map_cons,List.map_flatMap,Nat.sub_self,Nat.add_zero]
 congr 1
 have:∀l:List Int,(∀k∈l,k∈kids t i)->(l.flatMap fun k=>(aF.walk t k).map fun x=>(x,d+(depth t x - depth t i)))=l.flatMap fun k=>(aF.walk t k).map fun x=>(x,d+1+(depth t x - depth t k)):=by
  intro l
  induction l with
  |nil=>intro _;rfl
  |cons k l ih=>
   intro h;have hk:=h k List.mem_cons_self;have hd:=dU ok hk;rw[List.flatMap_cons,List.flatMap_cons,ih fun x hx=>h x (List.mem_cons_of_mem _ hx)]
   congr 1
   refine List.map_congr_left fun x hx=>?_;have:=N8 ok (.inr (ok.kid hk).1) hx
   congr 1
   omega
 exact this _ fun _ h=>h
theorem mV(t:T)(i:Int)(d:Nat):(wd t i d).length=(aF.walk t i).length:=List.length_map _
def rest(t:T)(st:List (Int×Nat)):List (Int×Nat):=st.reverse.flatMap fun p=>wd t p.1 p.2
theorem Rz(t:T)(i:Int)(d:Nat):rest t [(i,d)]=wd t i d:=by simp[rest]
theorem Ou(t:T)(st:List (Int×Nat))(x:Int)(d:Nat):rest t (st++[(x,d)])=wd t x d++rest t st:=by simp[rest]
theorem Ov(t:T)(st:List (Int×Nat))(l:List Int)(d:Nat):rest t (st++l.reverse.map fun k=>(k,d))=(l.flatMap fun k=>wd t k d)++rest t st:=by
 simp[rest,List.flatMap_map]
theorem RD{t:T}(ok:Ok t):∀st:List (Int×Nat),st.length<=(rest t st).length:=by
 intro st;unfold rest;rw[←List.length_reverse];generalize st.reverse=l
 induction l with
 |nil=>simp
 |cons p l ih=>
  rw[List.flatMap_cons,List.length_append,List.length_cons,mV];have:=BU ok p.1;omega
theorem QZ{t:T}{i x:Int}{d e:Nat}(h:(x,e)∈wd t i d):x∈aF.walk t i:=by
 unfold wd at h;obtain⟨y,hy,e⟩:=List.mem_map.1 h
 injection e with e _
 rw[←e];exact hy
theorem ZE{t:T}{i x:Int}{d e:Nat}(h:(x,e)∈wd t i d):e<=d+depth t x:=by
 unfold wd at h;obtain⟨y,_,e⟩:=List.mem_map.1 h
 injection e with e1 e2
 subst e1;omega
abbrev iH:TypeId:=276
abbrev tSteps:TypeId:=277
def sT(T:TypeId):Bool:=decide (T=iH)||decide (T=tSteps)
def kT(T:TypeId):Bool:=decide (T=mG)||decide (T=jg)||decide (T=iH)||decide (T=tSteps)
def sQ(g:Int->Nat)(p:Int×Nat):List Value:=[.pointer (some ⟨g p.1,0,none⟩),.int .i64 (p.2:Nat)]
theorem lh(g:Int->Nat)(p:Int×Nat):(sQ g p).length=2:=rfl
theorem FI(g:Int->Nat)(p:Int×Nat):∀u∈sQ g p,u.oneCell'=true:=by
 intro u hu;simp only[sQ,List.mem_cons,List.not_mem_nil,or_false]at hu;rcases hu with rfl|rfl<;>rfl
theorem O3:(prog.info? iH).map (fun i=>(i.zero,i.size,i.bytes))=some (some (.agg #[.pointer none,.int .i64 0]),2,16):=by kernel_rfl
abbrev qZ(n0:Nat)(g:Int->Nat)(w:World)(v:Value)(l:List (Int×Nat)):Prop:=ax iH 2 (sQ g) w n0 v l
theorem ax.take{α:Type}{T:TypeId}{k:Nat}{enc:α->List Value}{w:World}{base:Nat}{A:Option Addr}{n c:Nat}{l:List α}(hk:∀x,(enc x).length=k)(h:ax T k enc w base (.slice A n c) l){m:Nat}(hm:m<=l.length):ax T k enc w base (.slice A m c) (l.take m):=by
 have YZ:∀l:List α,(l.flatMap enc).length=l.length*k:=fun l=>by
  induction l with
  |nil=>simp
  |cons x l ih=>rw[List.flatMap_cons,List.length_append,hk,ih,List.length_cons,Nat.succ_mul,Nat.add_comm]
 obtain⟨h1,h2⟩:=h;have hml:(l.take m).length=m:=by rw[List.length_take];omega
 refine⟨by rw[YZ],?_⟩;rcases h2 with ⟨e,h0⟩|⟨g,cap,cur,e,h3,h4,h5,h6,h7,h8⟩
 ·injection e with e1 e2 e3
  subst e1 e3;have:m=0:=by omega
  subst this;exact .inl ⟨rfl,by simp⟩
 ·injection e with e1 e2 e3
  subst e1 e3;refine .inr ⟨g,c,cur,by rw[hml],h3,h4,by omega,h6,h7,?_⟩;have e9:l.flatMap enc=(l.take m).flatMap enc++(l.drop m).flatMap enc:=by rw[←List.flatMap_append,List.take_append_drop]
  have:cur.toList.take ((l.take m).length*k)=(cur.toList.take (l.length*k)).take ((l.take m).length*k):=by
   rw[List.take_take,Nat.min_eq_left (Nat.mul_le_mul_right _ (by omega))]
  rw[this,h8,e9,List.take_left' (YZ _)]
theorem ax.typed{α:Type}{T:TypeId}{k:Nat}{enc:α->List Value}{w:World}{base:Nat}{v:Value}{l:List α}(h:ax T k enc w base v l){g:Nat}(hg:v.ownBlock=some g):∃cur,w.heap[g]?=some (.cells cur T (0,0)):=by
 rcases h.2 with ⟨rfl,h0⟩|⟨g',cap,cur,rfl,_,hb,_⟩
 ·cases hg
 ·obtain rfl:g'=g:=Option.some.inj hg;exact⟨cur,hb⟩
theorem ax.shape{α:Type}{T:TypeId}{k:Nat}{enc:α->List Value}{w:World}{base:Nat}{v:Value}{l:List α}(h:ax T k enc w base v l):∃A n c,v=.slice A n c:=by
 rcases h.2 with ⟨rfl,h0⟩|⟨g',cap,cur,rfl,_,hb,_⟩
 ·exact⟨_,_,_,rfl⟩
 ·exact⟨_,_,_,rfl⟩
theorem ax.bk{α:Type}{T:TypeId}{k:Nat}{enc:α->List Value}{w w':World}{base B:Nat}{v:Value}{l:List α}(h:ax T k enc w base v l)(hb:Bk B w w'):ax T k enc w' base v l:=h.stays fun g hg=>by
 obtain⟨cur,hc⟩:=h.typed hg;exact(hb.keep hc rfl).trans hc.symm
theorem ax.kt{α:Type}{T:TypeId}{k:Nat}{enc:α->List Value}{w w':World}{base:Nat}{v:Value}{l:List α}{TT:TypeId->Bool}(h:ax T k enc w base v l)(hk:KT TT w w')(hT:TT T=true):ax T k enc w' base v l:=h.stays fun g hg=>by
 obtain⟨cur,hc⟩:=h.typed hg;exact(hk.same _ _ _ _ hc hT).trans hc.symm
theorem ax.st{α:Type}{T:TypeId}{k:Nat}{enc:α->List Value}{w w':World}{base B:Nat}{v:Value}{l:List α}{TT:TypeId->Bool}(h:ax T k enc w base v l)(hk:ST TT B w w')(hT:TT T=false):ax T k enc w' base v l:=h.stays fun g hg=>by
 obtain⟨cur,hc⟩:=h.typed hg;exact hk.cells hc hT
theorem au.bk{w w':World}{g:Nat}{cs:List Value}{T:TypeId}{B:Nat}(h:au w g cs T)(hb:Bk B w w'):au w' g cs T:=hb.keep h rfl
theorem au.kt{w w':World}{g:Nat}{cs:List Value}{T:TypeId}{TT:TypeId->Bool}(h:au w g cs T)(hb:KT TT w w')(hT:TT T=true):au w' g cs T:=hb.same _ _ _ _ h hT
theorem au.st{w w':World}{g:Nat}{cs:List Value}{T:TypeId}{TT:TypeId->Bool}{B:Nat}(h:au w g cs T)(hb:ST TT B w w')(hT:TT T=false):au w' g cs T:=(hb.cells h hT).trans h
theorem Uo{n0:Nat}{g:Int->Nat}{w:World}{v:Value}{l:List (Int×Nat)}(h:qZ n0 g w v l)(hb:n0<=w.heap.size)(y:Int)(e:Nat){z:Int}(hz:z=(e:Nat)){c:Nat}(hn:l.length<=900000000) :
  ∃v' w',(Builtin.append_ #[tSteps,tSteps] tSteps #[v,.slice (some ⟨w.heap.size,0,none⟩) 1 c]).run prog (w.alloc (.cells #[.pointer (some ⟨g y,0,none⟩),.int .i64 z] iH))=.ok v' w'∧qZ n0 g w' v' (l++[(y,e)]) ∧
   (w.alloc (.cells #[.pointer (some ⟨g y,0,none⟩),.int .i64 z] iH)).grownBy w' v.ownBlock∧(v'.ownBlock=v.ownBlock∨v'.ownBlock=some (w.heap.size+1)):=by
 subst hz
 obtain⟨v',w',h1,h2,h3,h4⟩:=ax.app (P:=prog) (xs:=[(y,e)]) (c:=c) (g:=w.heap.size) (o:=0) underlying277 O3 rfl (by decide) (by decide) (lh g) (FI g)
  (h.below (bR.alloc nR (.cells #[.pointer (some ⟨g y,0,none⟩),.int .i64 (e:Nat)] iH))) (fun _=>jA (enc:=sQ g) (lh g) w [(y,e)] _ rfl) (by simp;omega) (by simp;omega)
 refine⟨v',w',h1,h2,h3,?_⟩
 simpa using h4
def Ql(W:World)(s:Sh)(H:Int->Prop)(P:Int->Option Int)(K:Int->List Int):Prop:=∀i,H i->qg W (s.g i) i ((P i).map s.g) (s.v i) (ks s (K i))
theorem Ql.kt{W W':World}{s:Sh}{H:Int->Prop}{P:Int->Option Int}{K:Int->List Int}(h:Ql W s H P K)(hk:KT kT W W'):Ql W' s H P K:=fun i hi=>by
 have hn:=h i hi;refine hn.stays ((hk.same _ _ _ _ hn.blk (by simp[kT])).trans hn.blk.symm) fun k hk'=>?_;obtain⟨cur,fr,h1⟩:=hn.own.typed hk';exact(hk.same _ _ _ _ h1 (by simp[kT])).trans h1.symm
theorem YR{B:Nat}{W W':World}{s:Sh}{H:Int->Prop}{P:Int->Option Int}{K:Int->List Int}(h:Ql W s H P K)(hk:ST sT B W W'):Ql W' s H P K:=fun i hi=>by
 have hn:=h i hi;refine hn.stays (hk.cells hn.blk (by decide)) fun k hk'=>?_;obtain⟨cur,fr,h1⟩:=hn.own.typed hk';exact hk.cells h1 (by decide)
def pz(g:Int->Nat)(l:List (Int×Nat)):List (Array Value):=l.map fun p=>#[.pointer (some ⟨g p.1,0,none⟩),.int .i64 (p.2:Nat)]
theorem fM(g:Int->Nat)(l:List (Int×Nat)):(pz g l).length=l.length:=List.length_map _
theorem Fh(g:Int->Nat)(l:List (Int×Nat)){j:Nat}(hj:j<(pz g l).length):(pz g l)[j]=#[.pointer (some ⟨g (l[j]'(by rw[fM]at hj;exact hj)).1,0,none⟩),.int .i64 ((l[j]'(by rw[fM]at hj;exact hj)).2:Nat)]:=by simp[pz]
theorem yH(g:Int->Nat)(l:List (Int×Nat)){j:Nat}(hj:j<(pz g l).length):(pz g l)[j]=#[.pointer (some ⟨g (l.getD j (0,0)).1,0,none⟩),.int .i64 ((l.getD j (0,0)).2:Nat)]:=by
 have hl:j<l.length:=by rw[fM]at hj;exact hj
 rw[Fh,List.getD_eq_getElem?_getD,List.getElem?_eq_getElem hl];rfl
theorem YP(g:Nat)(w:World):Calls prog 136 #[.pointer (some ⟨g,0,none⟩)] w fun e w'=>e=.returned (.func (.func 146) #[] #[.pointer (some ⟨w.heap.size,0,none⟩)])∧w'=w.alloc (.cells #[.pointer (some ⟨g,0,none⟩)] jg):=by
 go_enter func136,ntmps136;go_wp2_with (fail);go_ret;exact⟨rfl,rfl⟩
end
section
open Go.RowKit aF xk Go.Shelf
attribute [local go_sem] Oper.semAt_some
theorem Gn{α:Type}(l:List α):l=[]∨∃m b,l=m++[b]:=by
 rcases List.eq_nil_or_concat l with h|⟨m,b,h⟩
 ·exact .inl h
 ·exact .inr ⟨m,b,by rw[h,List.concat_eq_append]⟩
theorem BV{nb:Nat}{s:Sh}{H:Int->Prop}{P:Int->Option Int}{K:Int->List Int}{t:T}{i:Int}(ok:Ok t)(hi:i=0∨i∈ids t)(hn:t.length<=10000)
  (hH:∀x∈aF.walk t i,H x∧K x=kids t x) {W:World} (hc:W.cell? ⟨nb,0,none⟩=some (.pointer (some ⟨s.g i,0,none⟩))) (hN:Ql W s H P K) :
  uF prog 146 #[.pointer (some ⟨nb,0,none⟩)] (pz s.g (wd t i 0)) (ST sT) (KT kT) W:=by
 intro lp J Jx hJ hJx hY h0;have HY:=Hd hY;have HJ:=Hd hJ;have HJx:=Hd hJx;have HN:=Hd hN;have dY:=Hd (And.intro ok (And.intro hi (And.intro hn hH)));have HL:Hid ((wd t i 0).length<=10001):=by have:=kN ok hi;show _<=_;rw[mV];omega
 obtain⟨n0,hn0⟩:=aC W.heap.size
 obtain⟨w0,hw0⟩:∃w0,w0=(W.alloc (.cells #[.pointer (some ⟨s.g i,0,none⟩),.int .i64 0] iH)).alloc (.cells #[.slice (some ⟨n0,0,none⟩) 1 1] tSteps):=⟨_,rfl⟩
 have hbw:Below W.heap.size W w0:=by rw[hw0];exact(bR.alloc nR _).alloc (by simp) _
 have AY:Hid (J 0 w0):=hJ _ _ _ h0 (ST.below hbw);have Zq:Hid (Ql w0 s H P K):=hN.kt (KT.below hbw)
 have HB0:Hid (au w0 (n0+1) [.slice (some ⟨n0,0,none⟩) 1 1] tSteps):=by
  show _=_;rw[hw0];have:=heap_alloc_new (W.alloc (.cells #[.pointer (some ⟨s.g i,0,none⟩),.int .i64 0] iH)) (.cells #[.slice (some ⟨n0,0,none⟩) 1 1] tSteps);rw[World.size_alloc,hn0]at this;exact this
 have uP:Hid (qZ n0 s.g w0 (.slice (some ⟨n0,0,none⟩) 1 1) [(i,0)]):=by
  have h1:ax iH 2 (sQ s.g) (W.alloc (.cells #[.pointer (some ⟨s.g i,0,none⟩),.int .i64 0] iH)) W.heap.size (.slice (some ⟨W.heap.size,0,none⟩) 1 1) [(i,0)]:=ax.lit (enc:=sQ s.g) (lh _) W [(i,0)] nR (by show 1<=maxLen;decide);have h2:=ax.below h1 (bR.alloc nR (.cells #[.slice (some ⟨n0,0,none⟩) 1 1] tSteps));rw[←hw0,hn0]at h2;exact h2
 clear hY hJ hJx hN ok hi hn hH hbw h0;refine(callsIn_wide (n:=0)).1 (callsIn_of_wp_marks func146 rfl trivial ?_ rfl);simp only[ntmps146,List.size_toArray,List.length_cons,List.length_nil,Nat.reduceAdd,Nat.reduceSub,Array.replicate_succ,Array.replicate_zero,List.push_toArray,List.append_toArray,List.nil_append,List.cons_append]
 gi_wp2_with (fail)
 rw[show((W.alloc (Obj.cells #[Value.pointer (some { block:=s.g i,off:=0 }),Value.int IntKind.i64 0] 276)).alloc (Obj.cells #[Value.slice (some { block:=n0,off:=0 }) 1 1] 277))=w0 from hw0.symm];clear hw0 hc
 refine SH (fun(m:Nat) (a:Act) (w:World)=>∃(k:Nat) (st:List (Int×Nat)) (v:Value) (ds:List Deferred) (u4 u5 u11 u12 u13 u14 u15 u16 u17 u18 u19 u20 u21 u22 u23 u24 u25 u26 u27 u28 u29 u30 u31 u32 u33 u34 u35 u36:Value),a={ tmps:=#[.func (.yield lp) #[] #[],.pointer (some ⟨nb,0,none⟩),undef,.pointer (some ⟨n0+1,0,none⟩),u4,u5,undef,undef,.pointer (some ⟨s.g i,0,none⟩),.agg #[.pointer (some ⟨s.g i,0,none⟩),.int .i64 0],.slice (some ⟨n0,0,none⟩) 1 1,u11,u12,u13,u14,u15,u16,u17,u18,u19,u20,u21,u22,u23,u24,u25,u26,u27,u28,u29,u30,u31,u32,u33,u34,u35,u36,undef,undef,undef,undef,undef,undef,undef,undef,undef,undef],defers:=ds }∧m=(wd t i 0).length - k∧k<=(wd t i 0).length ∧
  Hid (J k w)∧Hid (rest t st=(wd t i 0).drop k)∧Hid (∀p∈st,p.1∈aF.walk t i)∧Hid (au w (n0+1) [v] tSteps)∧Hid (qZ n0 s.g w v st)∧Hid (Ql w s H P K)∧Hid (Marks n0 w ds)) ?_
  (m:=(wd t i 0).length) ⟨0,[(i,0)],_,[],_,_,_,_,_,_,_,_,_,_,_,_,_,_,_,_,_,_,_,_,_,_,_,_,_,_,_,_,rfl,rfl,Nat.zero_le _,AY,Rz t i 0,fun p hp=>by rw[List.mem_singleton.1 hp,walk_eq dY.o.1];exact List.mem_cons_self,HB0,uP,Zq,trivial⟩
 clear AY Zq HB0 uP w0 HN;rintro m a w ⟨k,st,v,ds,u4,u5,u11,u12,u13,u14,u15,u16,u17,u18,u19,u20,u21,u22,u23,u24,u25,u26,u27,u28,u29,u30,u31,u32,u33,u34,u35,u36,rfl,rfl,hk,HJk,Ld,a0T,Lt,HST,EX,HMK⟩;obtain⟨A,c,rfl,hl1,hl2,hrow⟩:=HST.o.row (lh _);rcases Gn st with rfl|⟨st0,⟨x,d⟩,rfl⟩
 ·have hkk:k=(wd t i 0).length:=by
   have h1:=Ld.o;have h2:([]:List (Int×Nat))=(wd t i 0).drop k:=h1;have h3:=congrArg List.length h2;rw[List.length_drop,List.length_nil]at h3;omega
  have cb:=Lt.o.blk.cell 0;simp only[List.getElem?_cons_zero,List.length_nil]at cb;have HF:Hid (J (pz s.g (wd t i 0)).length w):=by rw[fM,←hkk];exact HJk
  have HZ:=Hd hn0;clear hrow hl1 hl2 hkk HJk Ld hn0
  gi_wp2_with (fail)
  refine CJ n0 HMK.o fun w' hb=>⟨_,results_none rfl _ _ _,⟨_,rfl⟩,.inl (HJ.o _ _ _ HF.o (by rw[HZ.o];exact ST.bk hb nR))⟩
 ·have e1:(st0++[(x,d)]).length=st0.length+1:=by simp
  obtain⟨g,off,rfl,hcell⟩:=hrow (by simp);have hlt:st0.length<(st0++[(x,d)]).length:=by simp
  have c1:=hcell st0.length hlt 0 (.pointer (some ⟨s.g x,0,none⟩)) (by rw[List.getElem_append_right nR];simp[sQ]);have c2:=hcell st0.length hlt 1 (.int .i64 (d:Nat)) (by rw[List.getElem_append_right nR];simp[sQ]);have cb:=Lt.o.blk.cell 0;have fb:=Lt.o.blk.free 0;have zb:=Lt.o.inside;simp only[List.getElem?_cons_zero]at cb
  obtain⟨v1,hv1⟩:∃v1,v1=Value.slice (some ⟨g,off,none⟩) st0.length c:=⟨_,rfl⟩
  obtain⟨wa,YS⟩:∃wa,wa=w.setCell ⟨n0+1,0,none⟩ v1:=⟨_,rfl⟩
  obtain⟨w1,hw1⟩:∃w1,w1=wa.alloc (.cells #[.pointer (some ⟨s.g x,0,none⟩),.int .i64 (d:Nat)] 276):=⟨_,rfl⟩
  have hsz:wa.heap.size=w.heap.size:=by rw[YS];simp[World.setCell]
  have hba:bz wa w1:=by rw[hw1];exact bR.alloc nR _
  have bxa:au wa (n0+1) [v1] tSteps:=by rw[YS];exact Lt.o.set 0 v1
  have HT1:Hid (ST sT n0 w w1):=by
   have h1:ST sT n0 w wa:=by rw[YS];exact ST.set (a:=⟨n0+1,0,none⟩) Lt.o (by decide) (Nat.le_succ _) v1
   exact h1.trans (ST.below hba)
  have a3u:Hid (au w1 (n0+1) [v1] tSteps):=bxa.stays (hba.block _ (by (try show Below _ _ _);rw[hsz];exact zb))
  have a3v:Hid (au w1 w.heap.size [.pointer (some ⟨s.g x,0,none⟩),.int .i64 (d:Nat)] iH):=by
   have:=au.new wa [.pointer (some ⟨s.g x,0,none⟩),.int .i64 (d:Nat)] iH;rw[hsz]at this;rw[hw1];exact this
  have a2D:Hid (qZ n0 s.g w1 v1 st0):=by
   have h1:=ax.take (lh _) HST.o (m:=st0.length) (by simp);rw[List.take_left]at h1
   have h2:qZ n0 s.g wa v1 st0:=by
    rw[YS,hv1];refine ax.stays h1 fun k' hk'=>heap_setCell_other _ _ _ _ fun(e:k'=n0+1)=>?_;rcases h1.2 with ⟨e',_⟩|⟨g',cap,cur,e',_,hb',_⟩
    ·rw[e']at hk';cases hk'
    ·rw[e']at hk';have hk2:g'=k':=Option.some.inj hk';rw[hk2,e]at hb';have:=Lt.o.symm.trans hb';simp only[Option.some.injEq,Obj.cells.injEq]at this;exact absurd this.2.1 (by decide)
   exact ax.below h2 hba
  have a4t:Hid (v1.ownBlock≠some w.heap.size):=fun e=>by
   have h1:=ax.take (lh _) HST.o (m:=st0.length) (by simp);rw[hv1]at e;have:=(ax.block h1 e).2;omega
  have a2K:Hid (Ql w1 s H P K):=YR EX.o HT1.o;have a0U:Hid (Marks n0 w1 ds):=HMK.o.kb (KB.trans (B:=wa) (by rw[YS];exact KB.set (a:=⟨n0+1,0,none⟩) Lt.o rfl v1) (KB.below hba));have HJ1:Hid (J k w1):=HJ.o _ _ _ HJk.o (by (try show Below _ _ _);rw[hn0];exact HT1.o);have hrs:=Ld.o;rw[Ou,a1m dY.o.1]at hrs
  have hkl:k<(wd t i 0).length:=by
   have h3:=congrArg List.length hrs;rw[List.length_drop]at h3;simp at h3;omega
  have hkx:(wd t i 0)[k]=(x,d):=by
   have h3:((wd t i 0).drop k)[0]?=some (x,d):=by rw[←hrs];rfl
   rw[List.getElem?_drop,Nat.add_zero,List.getElem?_eq_getElem hkl]at h3;exact Option.some.inj h3
  have UT:Hid ((((kids t x).flatMap fun k=>wd t k (d+1))++rest t st0)=(wd t i 0).drop (k+1)):=by
   show _=_;rw[←List.drop_drop,←hrs];rfl
  have hkw:k<(pz s.g (wd t i 0)).length:=by rw[fM];exact hkl
  obtain⟨fn,tmps,assign,body,hy,hR⟩:=HY.o k hkw w1 HJ1.o;rw[Fh]at hy;simp only[hkx]at hy;rw[hw1,YS,hv1]at hy;have hE:(w.setCell ⟨n0+1,0,none⟩ (.slice (some ⟨g,off,none⟩) st0.length c)).alloc (.cells #[.pointer (some ⟨s.g x,0,none⟩),.int .i64 (d:Nat)] 276)=w1:=by rw[hw1,YS,hv1]
  have HR:=Hd hR;have HE:=Hd hE;have HV1:=Hd hv1;have HX:Hid (x∈aF.walk t i):=a0T.o (x,d) (by simp);have a2L:Hid (∀p∈st0,p.1∈aF.walk t i):=fun p hp=>a0T.o p (List.mem_append_left _ hp);have xO:=Hd hkl
  have Dy:Hid (d<=10000):=by
   have h1:(x,d)∈wd t i 0:=by rw[←hkx];exact List.getElem_mem hkl
   have h2:=ZE h1
   have h3:x=0∨x∈ids t:=by
    rcases(dI dY.o.1 dY.o.2.1).1 HX.o with e|e
    ·rw[e];exact dY.o.2.1
    ·exact .inr (bH e).1
   have h4:=nN dY.o.1 h3;have h5:=dY.o.2.2.1;show _<=_;omega
  have HSL:Hid (st0.length<=10001):=by
   have h1:=RD dY.o.1 st0;have h2:=congrArg List.length hrs;have h3:=HL.o;rw[List.length_drop]at h2;simp at h2;show _<=_;omega
  have a4k:Hid (∀l2:List (Int×Nat),(st0++l2).length<=10001+l2.length):=fun l2=>by have:=HSL.o;rw[List.length_append];omega
  rw[e1]at cb hl1;rw[Nat.add_zero]at c1;have hsl:(st0.length:Int)<=10001:=by have:=HSL.o;omega
  have hlc:st0.length+1<=c:=hl1;clear hw1 YS hv1 hsz hba bxa HT1 hrs hkx hkw hR hE hkl hcell hrow hlt e1 HJk Ld a0T Lt HST EX HMK hl1 hl2 hk HJ1;generalize st0.length=sl at*
  gi_wp2_with (fail)
  rw[HE.o];refine⟨rfl,HR.o.mono ?_⟩;rintro e W3 ⟨hf3,(⟨rfl,hJ3,hk3⟩|⟨rfl,hJx3⟩)⟩
  ·have uI:=Hd hJ3;have Yb:Hid (Marks n0 W3 ds):=Marks.kbf (by (try show Below _ _ _);rw[←hn0];exact hf3) a0U.o;have a09:Hid (au W3 (n0+1) [v1] tSteps):=a3u.o.kt hk3 (by decide);have Yu:Hid (au W3 w.heap.size [.pointer (some ⟨s.g x,0,none⟩),.int .i64 (d:Nat)] iH):=a3v.o.kt hk3 (by decide);have a2C:Hid (qZ n0 s.g W3 v1 st0):=ax.kt a2D.o hk3 (by decide);have a0R:Hid (Ql W3 s H P K):=a2K.o.kt hk3;have hxH:=dY.o.2.2.2 x HX.o;have hnx:=a0R.o x hxH.1;obtain⟨A2,cK,hv2,-,-,Xk⟩:=hnx.own.at_;rw[hxH.2,jU]at hv2;have s0:=Yu.o.blk.cell 0;have x2:=hnx.blk.blk.cell 2
   have xi:=hnx.blk.inside;have sz:=Yu.o.inside;simp only[List.getElem?_cons_succ,List.getElem?_cons_zero]at s0 x2;rw[hv2]at x2;have HKX:Hid ((kids t x).length<=10000):=Nat.le_trans (gy t x) dY.o.2.2.1
   obtain⟨ll,hll⟩:=aC ((kids t x).map s.g)
   have Pj:(kids t x).length=ll.length:=by rw[←hll,List.length_map]
   have yD:Hid (∀(bx:Nat) (W':World),W'.cell? ⟨bx,0,none⟩=some (.slice A2 ll.length cK)->(∀(k:Nat) (cur:Array Value) (fr:Nat×Nat),W3.heap[k]?=some (.cells cur jg fr)->W'.heap[k]?=W3.heap[k]?)->Back bx A2 cK ll W'):=fun bx W' h1 h2=>by
    refine⟨h1,fun j hj=>?_⟩;obtain⟨g2,e2,ho2,hc2⟩:=Xk j (by rw[hxH.2,jU,Pj];exact hj);refine⟨g2,e2,?_⟩;obtain⟨cur,fr,ht⟩:=hnx.own.typed ho2;have:W'.cell? ⟨g2,j,none⟩=W3.cell? ⟨g2,j,none⟩:=by simp only[World.cell?,h2 g2 cur fr ht]
    rw[this,hc2]
    have hkj:(ks s (K x))[j]'(by rw[hxH.2,jU,Pj];exact hj)=some ll[j]:=by
     rw[JE];simp only[hxH.2]
     congr 1
     rw[←List.getElem_map (f:=s.g) (h:=by rw[List.length_map,Pj];exact hj)];simp only[hll]
    rw[hkj];rfl
   rw[Pj]at x2;have ql:=Hd (And.intro hll Pj);clear hJ3 hk3 hf3 hxH hnx Xk hv2 hll Pj
   gi_wp2_with (fail)
   refine⟨trivial,rfl,callsIn_wide.2 ((Qg A2 ll.length cK W3).mono ?_)⟩;rintro e A0 ⟨rfl,hA0⟩;have Na:bz W3 A0:=by rw[hA0];exact bR.alloc nR _
   have hbx:au A0 W3.heap.size [.slice A2 ll.length cK] 192:=by rw[hA0];exact au.new W3 _ _
   have HJA:Hid (J (k+1) A0):=HJ.o _ _ _ uI.o (by rw[hn0];exact ST.below Na);have a2M:Hid (Marks n0 A0 ds):=Yb.o.kb (KB.below Na);have a3t:Hid (au A0 (n0+1) [v1] tSteps):=a09.o.stays (Na.block _ a09.o.inside);have a4Q:Hid (au A0 w.heap.size [.pointer (some ⟨s.g x,0,none⟩),.int .i64 (d:Nat)] iH):=Yu.o.stays (Na.block _ sz);have a4j:Hid (qZ n0 s.g A0 v1 st0):=ax.below a2C.o Na;have a4u:Hid (Ql A0 s H P K):=a0R.o.kt (KT.below Na);have hnA:n0<=A0.heap.size:=by have:=a3t.o.inside;omega
   have a3w:Hid (∀W',(∀(k:Nat) (cur:Array Value) (ty:TypeId) (fr:Nat×Nat),sT ty=false->A0.heap[k]?=some (.cells cur ty fr)->W'.heap[k]?=A0.heap[k]?)->Back W3.heap.size A2 cK ll W'):=fun W' h1=>by
    have hb':au W' W3.heap.size [.slice A2 ll.length cK] 192:=hbx.stays (h1 _ _ _ _ (by decide) hbx);refine yD.o _ W' (hb'.blk.cell 0) fun k cur fr hk=>?_;have e1:=Na.block k (Array.getElem?_eq_some_iff.1 hk).1;exact(h1 k cur jg fr (by decide) (e1.trans hk)).trans e1
   have hlt2:∀D,mk D∈ds->D<A0.heap.size:=a2M.o.lt;have HA0:=Hd hnA;have gQ:=Hd hlt2;clear Na hbx hA0 hnA hlt2 yD a09 Yu a2C a0R Yb uI a3u a3v a2D a2K a0U cb fb zb c1 c2 s0 x2 xi sz
   gi_wp2_with (fail)
   refine(wpIn_wide (n:=0)).2 (jZ (gf:=156) (lb:=#[.pointer (some ⟨W3.heap.size,0,none⟩)]) rfl (enters_of func156 ag rfl) (es:=uz ll) (R:=fun _=>Eq)
    (Kp:=fun A' B=>Back W3.heap.size A2 cK ll A'->Back W3.heap.size A2 cK ll B) (fun W1 hb=>Qe (by have:=HKX.o;have:=ql.o.2;omega) (a3w.o W1 fun k cur ty fr _ hk=>(hb.keep hk rfl).trans hk.symm)) (fun h k x=>k (h x)) (fun A B hb h=>h.bk hb) (fun n A B e k o _ hk _=>e ▸ hk)
    (fun e he=>by obtain⟨j,_,rfl⟩:=List.mem_map.1 he;rfl)
    (fun j W9=>ST sT n0 A0 W9∧(∃v',au W9 (n0+1) [v'] tSteps∧qZ n0 s.g W9 v' (st0++((kids t x).reverse.take j).map fun y=>(y,d+1))∧v'.ownBlock≠some w.heap.size)∧au W9 w.heap.size [.pointer (some ⟨s.g x,0,none⟩),.int .i64 (d:Nat)] iH∧Marks n0 W9 ds)
    (fun _ _ _=>False) (fun j A B h hr=>?hI) (fun _ _ _ _ h _=>h.elim) ⟨ST.refl _ _ _,⟨v1,a3t.o,by rw[List.take_zero,List.map_nil,List.append_nil];exact a4j.o,a4t.o⟩,a4Q.o,a2M.o⟩ ?a1 ?assign ?body ?done (fun _ _ _ _ _ _ h _=>h.elim))
   case hI=>
    obtain⟨h1,⟨v',h2,h3,hne⟩,h4,h5⟩:=h;rcases hr with ⟨_,_,rfl⟩|hb
    ·exact⟨h1,⟨v',h2,h3,hne⟩,h4,h5⟩
    ·exact⟨h1.trans (ST.bk hb HA0.o),⟨v',h2.bk hb,ax.bk h3 hb,hne⟩,h4.bk hb,h5.bk hb gQ.o⟩
   case assign=>
    intro l j hj W9 KK Ef;rw[Ic]
    gi_wp2
    exact Ef
   case done=>
    rintro D W9 hD ⟨h1,⟨v',h2,h3,hne⟩,h4,h5⟩ hd;have hkl:=xO.o;rw[nP,←ql.o.2,List.take_of_length_le (by simp)]at h3;refine⟨(wd t i 0).length - (k+1),by omega,k+1,_,v',mk D::ds,_,_,_,_,_,_,_,_,_,_,_,_,_,_,_,_,_,_,_,_,_,_,_,_,_,_,_,_,rfl,rfl,by omega,HJ.o _ _ _ HJA.o (by (try show Below _ _ _);rw[hn0];exact h1),by show _=_;rw[Ov];exact UT.o,fun p hp=>?_,h2,h3,YR a4u.o h1,⟨D,rfl,by have:=HA0.o;omega,hd,fun hm=>by have:=gQ.o D hm;omega⟩,h5⟩;rcases List.mem_append.1 hp with hp|hp
    ·exact a2L.o p hp
    ·obtain⟨y,hy,rfl⟩:=List.mem_map.1 hp;exact qw dY.o.1 dY.o.2.1 HX.o (List.mem_reverse.1 hy)
   case body=>
    rintro l j hj W9 ⟨h1,⟨v',h2,h3,hne⟩,h4,h5⟩;have hjl:j<ll.length:=by rw[nP]at hj;exact hj
    have hj2:j<(kids t x).reverse.length:=by rw[List.length_reverse,ql.o.2];exact hjl
    obtain⟨y,hy⟩:=aC ((kids t x).reverse[j])
    have hyl:ll.getD (ll.length - 1 - j) 0=s.g y:=by
     have hm:ll.length - 1 - j<ll.length:=by omega
     rw[←hy,List.getElem_reverse,List.getD_eq_getElem?_getD,List.getElem?_eq_getElem hm,Option.getD_some];simp only[←ql.o.1,List.getElem_map,List.length_map]
    rw[List.getD_eq_getElem?_getD]at hyl
    have htk:((kids t x).reverse.take (j+1)).map (fun y=>(y,d+1))=((kids t x).reverse.take j).map (fun y=>(y,d+1))++[(y,d+1)]:=by
     rw[List.take_succ_eq_append_getElem hj2,List.map_append,hy];rfl
    obtain⟨A3,n3,c3,rfl⟩:=ax.shape h3
    obtain⟨v2,w7,hrun,iQ,hgr,hat⟩:=Uo h3 (by have:=h2.inside;omega) y (d+1) (z:=(d:Int)+1) (by omega) (c:=1) (by
     have h6:=a4k.o (((kids t x).reverse.take j).map fun y=>(y,d+1));have h7:=HKX.o;rw[List.length_map,List.length_take,List.length_reverse]at h6
     omega)
    obtain⟨A4,n4,c4,hv2⟩:=ax.shape iQ;have hbw:bz W9 (W9.alloc (.cells #[.pointer (some ⟨s.g y,0,none⟩),.int .i64 ((d:Int)+1)] iH)):=bR.alloc nR _;have hno:∀g,(Value.slice A3 n3 c3).ownBlock=some g->∃cur,W9.heap[g]?=some (.cells cur iH (0,0)):=fun g hg=>ax.typed h3 hg
    have b7:au w7 (n0+1) [.slice A3 n3 c3] tSteps:=by
     refine(h2.stays (hbw.block _ h2.inside)).stays (hgr.block _ (by simp;have:=h2.inside;omega) fun e=>?_);obtain⟨cur,hc⟩:=hno _ e.symm;have:=h2.symm.trans hc;simp only[Option.some.injEq,Obj.cells.injEq]at this;exact absurd this.2.1 (by decide)
    have a1R:ST sT n0 W9 w7:=(ST.below hbw).trans (ST.grown hgr fun j' hj'=>by
     obtain⟨cur,hc⟩:=hno _ hj'
     exact .inr ⟨(ax.block h3 hj').1,cur,iH,_,(hbw.block _ (Array.getElem?_eq_some_iff.1 hc).1).trans hc,by decide⟩)
    have a1X:KB W9 w7:=(KB.below hbw).trans (KB.yY hgr fun j' o hj' ho=>by
     obtain⟨cur,hc⟩:=hno _ hj';rw[(hbw.block _ (Array.getElem?_eq_some_iff.1 hc).1).trans hc]at ho;cases ho
     rfl)
    have a0c:ST sT n0 W9 (w7.setCell ⟨n0+1,0,none⟩ v2):=a1R.trans (ST.set (a:=⟨n0+1,0,none⟩) b7 (by decide) (Nat.le_succ _) v2);have a0j:KB W9 (w7.setCell ⟨n0+1,0,none⟩ v2):=a1X.trans (KB.set (a:=⟨n0+1,0,none⟩) b7 rfl v2)
    have hs7:au w7 w.heap.size [.pointer (some ⟨s.g x,0,none⟩),.int .i64 (d:Nat)] iH:=by
     refine(h4.stays (hbw.block _ h4.inside)).stays (hgr.block _ (by simp;have:=h4.inside;omega) fun e=>hne e.symm)
    have HF:Hid (KB W9 (w7.setCell ⟨n0+1,0,none⟩ v2)∧(Back W3.heap.size A2 cK ll W9->Back W3.heap.size A2 cK ll (w7.setCell ⟨n0+1,0,none⟩ v2))∧ST sT n0 A0 (w7.setCell ⟨n0+1,0,none⟩ v2) ∧
      (∃v',au (w7.setCell ⟨n0+1,0,none⟩ v2) (n0+1) [v'] tSteps∧qZ n0 s.g (w7.setCell ⟨n0+1,0,none⟩ v2) v' (st0++((kids t x).reverse.take (j+1)).map fun y=>(y,d+1))∧v'.ownBlock≠some w.heap.size) ∧
      au (w7.setCell ⟨n0+1,0,none⟩ v2) w.heap.size [.pointer (some ⟨s.g x,0,none⟩),.int .i64 (d:Nat)] iH∧Marks n0 (w7.setCell ⟨n0+1,0,none⟩ v2) ds):=by
     refine⟨a0j,fun _=>a3w.o _ fun k' cur ty fr hty hk'=>(h1.trans a0c).cells hk' hty,h1.trans a0c,⟨v2,b7.set 0 v2,?_,?_⟩,hs7.stays (heap_setCell_other _ _ _ _ fun(e:w.heap.size=n0+1)=>?_),h5.kb a0j⟩
     ·rw[htk,←List.append_assoc];refine ax.stays iQ fun k' hk'=>heap_setCell_other _ _ _ _ fun(e:k'=n0+1)=>?_;obtain⟨cur,hc⟩:=ax.typed iQ hk';rw[e]at hc;have:=b7.symm.trans hc;simp only[Option.some.injEq,Obj.cells.injEq]at this;exact absurd this.2.1 (by decide)
     ·rcases hat with e|e
      ·rw[e];exact hne
      ·rw[e];intro e2;have:=Option.some.inj e2;have:=h4.inside;omega
     ·rw[e]at hs7;have:=b7.symm.trans hs7;simp at this
    rw[hyl];clear hne;rw[hv2]at HF hrun;have cb:=h2.blk.cell 0;have s1:=h4.blk.cell 1;have cb7:=b7.blk.cell 0;have fb7:=b7.blk.free 0;have zb7:=b7.inside;have zb:=h2.inside;have zs:=h4.inside;simp only[List.getElem?_cons_succ,List.getElem?_cons_zero]at cb s1 cb7;have hdb:((d:Nat):Int)<=10000:=by have:=Dy.o;omega
    clear h1 h2 h3 h4 h5 hj hjl hj2 hy hyl htk iQ hgr hat hbw hno b7 a1R a1X a0c a0j hs7 hv2
    gi_wp2_with (gi_at_builtin;refine qV rfl _ _ 277 277 277 rfl rfl _ _ _ _ rfl rfl hrun ?_;clear hrun)
    exact HF.o
  ·have uI:=Hd hJx3;have Yb:Hid (Marks n0 W3 ds):=Marks.kbf (by (try show Below _ _ _);rw[←hn0];exact hf3) a0U.o;clear hJx3
   gi_wp2_with (fail)
   refine dG n0 Yb.o fun w' hb=>⟨_,results_none rfl _ _ _,⟨_,rfl⟩,.inr ⟨k+1,by rw[fM];have:=xO.o;omega,HJx.o _ _ _ uI.o (by rw[hn0];exact ST.bk hb nR)⟩⟩
end
section
open Go.RowKit aF xk Go.Shelf
attribute [local go_sem] Oper.semAt_some
structure KP(ib db:Nat)(A1 A2:Option Addr)(c1 c2:Nat)(l1 l2:List Int)(W:World):Prop where
 box1:W.cell? ⟨ib,0,none⟩=some (.slice A1 l1.length c1)
 a2o:W.cell? ⟨db,0,none⟩=some (.slice A2 l2.length c2)
 r1:Row eI W A1 l1
 r2:Row eI W A2 l2
theorem KP.cells{ib db:Nat}{A1 A2:Option Addr}{c1 c2:Nat}{l1 l2:List Int}{W W':World}(h:KP ib db A1 A2 c1 c2 l1 l2 W)(hk:∀a v,W.cell? a=some v->W'.cell? a=some v):KP ib db A1 A2 c1 c2 l1 l2 W':=
 ⟨hk _ _ h.box1,hk _ _ h.a2o,fun hn=>by
  obtain⟨b,o,e,hc⟩:=h.r1 hn;exact⟨b,o,e,fun j hj=>hk _ _ (hc j hj)⟩,fun hn=>by
  obtain⟨b,o,e,hc⟩:=h.r2 hn
  exact⟨b,o,e,fun j hj=>hk _ _ (hc j hj)⟩⟩
def qY(l1 l2:List Int):List (Array Value):=(List.range l1.length).map fun j=>#[.int .i64 (l1.getD j 0),.int .i64 (l2.getD j 0)]
theorem qC(l1 l2:List Int):(qY l1 l2).length=l1.length:=by simp[qY]
theorem Gj(l1 l2:List Int){j:Nat}(hj:j<(qY l1 l2).length):(qY l1 l2)[j]=#[.int .i64 (l1.getD j 0),.int .i64 (l2.getD j 0)]:=by simp[qY]
theorem OE{ib db:Nat}{A1 A2:Option Addr}{c1 c2:Nat}{l1 l2:List Int}{W:World}(hl:l1.length<=100000)(he:l2.length=l1.length)(h:KP ib db A1 A2 c1 c2 l1 l2 W) :
  uF prog 192 #[.pointer (some ⟨ib,0,none⟩),.pointer (some ⟨db,0,none⟩)] (qY l1 l2) (fun _=>Eq) (fun A B=>KP ib db A1 A2 c1 c2 l1 l2 A->KP ib db A1 A2 c1 c2 l1 l2 B) W:=by
 intro lp J Jx _ _ hY h0;have HY:=Hd hY;have HL:=Hd (And.intro hl he);have b1:=h.box1;have HB:=Hd h;clear hY hl h he;refine(callsIn_wide (n:=0)).1 (callsIn_of_wp func192 rfl trivial ?_ rfl);simp only[ntmps192,List.size_toArray,List.length_cons,List.length_nil,Nat.reduceAdd,Nat.reduceSub,Array.replicate_succ,Array.replicate_zero,List.push_toArray,List.append_toArray,List.nil_append,List.cons_append]
 gi_wp2_with (fail)
 gi_loopw [8] (fun x wr=>∃j:Nat,j<=l1.length∧x=.int .i64 (j:Nat)∧Hid (J j wr)∧Hid (KP ib db A1 A2 c1 c2 l1 l2 wr)) (fun x _=>l1.length - (intOf x).toNat)
 case atStart=>exact⟨0,Nat.zero_le _,rfl,h0,HB⟩
 case round=>
  obtain⟨j,hj,rfl,HJ,HK⟩:=hrel;by_cases hlt:j<l1.length
  ·have hlt':j<(qY l1 l2).length:=by rw[qC];exact hlt
   obtain⟨fn,tmps,assign,body,hy,hR⟩:=HY.o j hlt' wr HJ.o;have hlt2:j<l2.length:=by rw[HL.o.2];exact hlt
   rw[Gj,List.getD_eq_getElem?_getD,List.getD_eq_getElem?_getD,List.getElem?_eq_getElem hlt,List.getElem?_eq_getElem hlt2,Option.getD_some,Option.getD_some]at hy;obtain⟨g1,o1,rA1,k1⟩:=HK.o.r1.at_ hlt;obtain⟨g2,o2,rA2,k2⟩:=HK.o.r2.at_ hlt2;have cb:=HK.o.a2o;subst rA1 rA2;unfold eI at k1 k2;rw[HL.o.2]at cb;generalize l1[j]=x at*;generalize l2[j]=y at*;have hmb:((j:Nat):Int)<=100000:=by have:=HL.o.1;omega
   have t1:decide (j<l1.length)=true:=by simpa using hlt
   have HR:=Hd hR;clear hR hlt'
   gi_wp2_with (fail)
   refine⟨rfl,HR.o.mono ?_⟩;rintro e W3 ⟨-,(⟨rfl,hJ3,hk3⟩|⟨rfl,hJx3⟩)⟩
   ·have HB3:Hid (KP ib db (some ⟨g1,o1,none⟩) (some ⟨g2,o2,none⟩) c1 c2 l1 l2 W3):=hk3 HK.o;have uI:=Hd hJ3;clear hJ3 hk3 HJ HK
    gi_wp2_with (fail)
    go_roundw
    case rel=>exact⟨j+1,by omega,by go_num,uI,HB3⟩
    case measure=>simp[intOf];omega
   ·have uI:=Hd hJx3;clear hJx3 HJ HK
    gi_wp2_with (fail)
    refine bodyPost_ret (results_none rfl _ _ _) rfl ?_;exact⟨⟨_,rfl⟩,.inr ⟨j+1,by rw[qC];omega,uI.o⟩⟩
  ·obtain rfl:j=l1.length:=by omega
   have HJ2:Hid (J (qY l1 l2).length wr):=by rw[qC];exact HJ
   have t1:decide (l1.length<l1.length)=false:=by simp
   clear HJ HK
   gi_wp2_with (fail)
   go_end0
   exact⟨⟨_,rfl⟩,.inl HJ2.o⟩
end
section
open Go.RowKit aF xk
abbrev kP:TypeId:=3
abbrev bU:TypeId:=35
def zs0(n:Nat):List Value:=(List.replicate n 0).map eI
theorem CQ(w:World)(n:Nat)(hn:n<=20000000):(Instr.makeSlice bU (.int .i64 0) (.int .i64 (n:Nat))).run prog w=.ok (.slice (some ⟨w.heap.size,0,none⟩) 0 n) (w.alloc (.cells (zs0 n).toArray kP)):=by
 obtain⟨i,hi,hz,hsize,hby⟩:=info_parts lN;have h:=run_make (P:=prog) w bU kP i (.int .i64 0) underlying35 hi hz .i64 .i64 0 n (by omega) (by omega) (by rw[hby];omega) (by omega);rw[hsize,Int.toNat_natCast,Nat.mul_one,Gw _ _ rfl]at h;unfold zs0;rw[List.map_replicate];exact h
def BA(B n:Nat)(x:Value)(w:World):Prop:=∃a,x=.slice (some ⟨a,0,none⟩) 0 n∧B<=a∧au w a (zs0 n) kP
def JI(B:Nat)(x y:Value)(w:World):Prop:=∃g,x=.pointer (some ⟨g,0,none⟩)∧B<=g∧au w g [y] bU
structure J1(B n:Nat)(i5 i11 i12 i13 i14 i15:Bool)(x12 x18 x3 x4:Value)(w:World):Prop where
 sz:B<=w.heap.size
 a5:i5=true->BA B n x12 w
 a11:i11=true->BA B n x18 w
 a12:i12=true->JI B x3 (bif i14 then x12 else .slice none 0 0) w
 Y9:i13=true->JI B x4 (bif i15 then x18 else .slice none 0 0) w
 OJ:i14=true->i5=true∧i12=true
 OI:i15=true->i11=true∧i13=true
 d1:i5=true->i11=true->x12≠x18
 d2:i12=true->i13=true->x3≠x4
section
variable {B n:Nat}{i5 i11 i12 i13 i14 i15:Bool}{x12 x18 x3 x4:Value}{w w':World}
theorem BA.below{x:Value}(h:BA B n x w)(hb:bz w w'):BA B n x w':=by
 obtain⟨a,e,h1,h2⟩:=h;exact⟨a,e,h1,h2.stays (hb.block _ h2.inside)⟩
theorem JI.below{x y:Value}(h:JI B x y w)(hb:bz w w'):JI B x y w':=by
 obtain⟨a,e,h1,h2⟩:=h;exact⟨a,e,h1,h2.stays (hb.block _ h2.inside)⟩
theorem BA.ne{x:Value}(h:BA B n x w):x≠.slice (some ⟨w.heap.size,0,none⟩) 0 n:=by
 obtain⟨a,rfl,h1,h2⟩:=h;have:=h2.inside;intro e
 injection e with e
 injection e with e
 injection e with e
 omega
theorem JI.ne{x y:Value}(h:JI B x y w):x≠.pointer (some ⟨w.heap.size,0,none⟩):=by
 obtain⟨a,rfl,h1,h2⟩:=h;have:=h2.inside;intro e
 injection e with e
 injection e with e
 injection e with e
 omega
theorem J1.slots{u12 u18 u3 u4:Value}(h:J1 B n i5 i11 i12 i13 i14 i15 x12 x18 x3 x4 w)(e1:u12=x12)(e2:u18=x18)(e3:u3=x3)(e4:u4=x4):J1 B n i5 i11 i12 i13 i14 i15 u12 u18 u3 u4 w:=by
 rw[e1,e2,e3,e4];exact h
theorem J1.a1I(h:J1 B n i5 i11 i12 i13 i14 i15 x12 x18 x3 x4 w)(e:i5=false):J1 B n true i11 i12 i13 i14 i15 (.slice (some ⟨w.heap.size,0,none⟩) 0 n) x18 x3 x4 (w.alloc (.cells (zs0 n).toArray kP)):=by
 have hb:bz w (w.alloc (.cells (zs0 n).toArray kP)):=bR.alloc nR _
 have e14:i14=false:=by
  cases hi:i14 with
  |false=>rfl
  |true=>have:=(h.OJ hi).1;rw[e]at this;cases this
 refine⟨Nat.le_trans h.sz hb.size,fun _=>⟨_,rfl,h.sz,au.new w _ _⟩,fun k=>(h.a11 k).below hb,fun k=>?_,fun k=>(h.Y9 k).below hb,fun k=>⟨rfl,(h.OJ k).2⟩,h.OI,fun _ k=>Ne.symm (h.a11 k).ne,h.d2⟩;have:=(h.a12 k).below hb;rw[e14]at this ⊢;exact this
theorem J1.Z4(h:J1 B n i5 i11 i12 i13 i14 i15 x12 x18 x3 x4 w)(e:i11=false):J1 B n i5 true i12 i13 i14 i15 x12 (.slice (some ⟨w.heap.size,0,none⟩) 0 n) x3 x4 (w.alloc (.cells (zs0 n).toArray kP)):=by
 have hb:bz w (w.alloc (.cells (zs0 n).toArray kP)):=bR.alloc nR _
 have e15:i15=false:=by
  cases hi:i15 with
  |false=>rfl
  |true=>have:=(h.OI hi).1;rw[e]at this;cases this
 refine⟨Nat.le_trans h.sz hb.size,fun k=>(h.a5 k).below hb,fun _=>⟨_,rfl,h.sz,au.new w _ _⟩,fun k=>(h.a12 k).below hb,fun k=>?_,h.OJ,fun k=>⟨rfl,(h.OI k).2⟩,fun k _=>(h.a5 k).ne,h.d2⟩;have:=(h.Y9 k).below hb;rw[e15]at this ⊢;exact this
theorem J1.a1H(h:J1 B n i5 i11 i12 i13 i14 i15 x12 x18 x3 x4 w)(e:i12=false):J1 B n i5 i11 true i13 i14 i15 x12 x18 (.pointer (some ⟨w.heap.size,0,none⟩)) x4 (w.alloc (.cells #[.slice none 0 0] bU)):=by
 have hb:bz w (w.alloc (.cells #[.slice none 0 0] bU)):=bR.alloc nR _
 have e14:i14=false:=by
  cases hi:i14 with
  |false=>rfl
  |true=>have:=(h.OJ hi).2;rw[e]at this;cases this
 subst e14;exact⟨Nat.le_trans h.sz hb.size,fun k=>(h.a5 k).below hb,fun k=>(h.a11 k).below hb,fun _=>⟨_,rfl,h.sz,au.new w [.slice none 0 0] _⟩,fun k=>(h.Y9 k).below hb,fun k=>(nomatch k),h.OI,h.d1,fun _ k=>Ne.symm (h.Y9 k).ne⟩
theorem J1.a1G(h:J1 B n i5 i11 i12 i13 i14 i15 x12 x18 x3 x4 w)(e:i13=false):J1 B n i5 i11 i12 true i14 i15 x12 x18 x3 (.pointer (some ⟨w.heap.size,0,none⟩)) (w.alloc (.cells #[.slice none 0 0] bU)):=by
 have hb:bz w (w.alloc (.cells #[.slice none 0 0] bU)):=bR.alloc nR _
 have e15:i15=false:=by
  cases hi:i15 with
  |false=>rfl
  |true=>have:=(h.OI hi).2;rw[e]at this;cases this
 subst e15;exact⟨Nat.le_trans h.sz hb.size,fun k=>(h.a5 k).below hb,fun k=>(h.a11 k).below hb,fun k=>(h.a12 k).below hb,fun _=>⟨_,rfl,h.sz,au.new w [.slice none 0 0] _⟩,h.OJ,fun k=>(nomatch k),h.d1,fun k _=>(h.a12 k).ne⟩
theorem BA.set{x v:Value}{g:Nat}{cs:List Value}(h:BA B n x w)(hg:au w g cs bU):BA B n x (w.setCell ⟨g,0,none⟩ v):=by
 obtain⟨a,e,h1,h2⟩:=h;refine⟨a,e,h1,h2.stays (heap_setCell_other _ _ _ _ fun(e:a=g)=>?_)⟩;rw[e]at h2;have:=h2.symm.trans hg;simp only[Option.some.injEq,Obj.cells.injEq]at this;exact absurd this.2.1 (by decide)
theorem J1.a1C{g:Nat}(h:J1 B n i5 i11 i12 i13 i14 i15 x12 x18 x3 x4 w)(e5:i5=true)(e12:i12=true)(e:x3=.pointer (some ⟨g,0,none⟩)):J1 B n i5 i11 i12 i13 true i15 x12 x18 x3 x4 (w.setCell ⟨g,0,none⟩ x12):=by
 obtain⟨g',e',hg,hb⟩:=h.a12 e12;have e2:=e.symm.trans e'
 injection e2 with e2
 injection e2 with e2
 injection e2 with e2
 subst e2;refine⟨by simpa[World.setCell]using h.sz,fun k=>(h.a5 k).set hb,fun k=>(h.a11 k).set hb,fun _=>⟨g,e,hg,hb.set 0 x12⟩,fun k=>?_,fun _=>⟨e5,e12⟩,h.OI,h.d1,h.d2⟩;obtain⟨g2,e3,hg2,hb2⟩:=h.Y9 k;refine⟨g2,e3,hg2,hb2.stays (heap_setCell_other _ _ _ _ fun(e4:g2=g)=>h.d2 e12 k ?_)⟩;rw[e,e3,e4]
theorem J1.a1B{g:Nat}(h:J1 B n i5 i11 i12 i13 i14 i15 x12 x18 x3 x4 w)(e11:i11=true)(e13:i13=true)(e:x4=.pointer (some ⟨g,0,none⟩)):J1 B n i5 i11 i12 i13 i14 true x12 x18 x3 x4 (w.setCell ⟨g,0,none⟩ x18):=by
 obtain⟨g',e',hg,hb⟩:=h.Y9 e13;have e2:=e.symm.trans e'
 injection e2 with e2
 injection e2 with e2
 injection e2 with e2
 subst e2;refine⟨by simpa[World.setCell]using h.sz,fun k=>(h.a5 k).set hb,fun k=>(h.a11 k).set hb,fun k=>?_,fun _=>⟨g,e,hg,hb.set 0 x18⟩,h.OJ,fun _=>⟨e11,e13⟩,h.d1,h.d2⟩;obtain⟨g2,e3,hg2,hb2⟩:=h.a12 k;refine⟨g2,e3,hg2,hb2.stays (heap_setCell_other _ _ _ _ fun(e4:g2=g)=>h.d2 k e13 ?_)⟩;rw[e,e3,e4]
end
end
section
open Go.RowKit aF xk
theorem yF{P:Program}{o:Oper}{a:Act}{w:World}{K:Act->World->Prop}{Q:Exit->Act->World->Prop}(s x:Operand)(t t2 ty:TypeId)
  (ho:o.op=.call { callee:=.builtin .append,args:=#[s,x],argTypes:=#[t,t2] }) (hty:o.type=ty) {sv xv v':Value} {w':World} (hs:a.eval s=sv) (hx:a.eval x=xv)
  (hrun:(Builtin.append_ #[t,t2] ty #[sv,xv]).run P w=.ok v' w') (h:K (a.put o.dst v') w'):o.wp P a w K Q:=by
 subst hty;unfold Oper.wp execOp;simp only[ho,resolve,invoke,builtin,Sem.run_bind,Sem.run_pure,Result.andThen_ok,List.map_toArray,List.map_cons,List.map_nil,hs,hx,hrun];exact h
theorem ZB{P:Program}{o:Oper}{a:Act}{w:World}{K:Act->World->Prop}{Q:Exit->Act->World->Prop}(s x:Operand)(t t2 ty:TypeId)
  (ho:o.op=.call { callee:=.builtin .delete,args:=#[s,x],argTypes:=#[t,t2] }) (hty:o.type=ty) {sv xv v':Value} {w':World} (hs:a.eval s=sv) (hx:a.eval x=xv)
  (hrun:(Builtin.delete_ #[t,t2] ty #[sv,xv]).run P w=.ok v' w') (h:K (a.put o.dst v') w'):o.wp P a w K Q:=by
 subst hty;unfold Oper.wp execOp;simp only[ho,resolve,invoke,builtin,Sem.run_bind,Sem.run_pure,Result.andThen_ok,List.map_toArray,List.map_cons,List.map_nil,hs,hx,hrun];exact h
theorem aj{L:Nat->Bool}{a b:Nat}(h:L a=true->L b=true){i:Nat}(hi:i≠a∨L b=true):regs.upd L i a=true->regs.upd L i b=true:=by
 unfold regs.upd;rw[Bool.or_eq_true,Bool.or_eq_true];rintro(e|e)
 ·have:=Nat.eq_of_beq_eq_true e;exact .inr (hi.resolve_left fun k=>k this.symm)
 ·exact .inr (h e)
theorem cO{L:Nat->Bool}{a b:Nat}(h:L a=true->L b=true)(hb:L b=false):L a=false:=by
 cases ha:L a with
 |false=>rfl
 |true=>rw[h ha]at hb;cases hb
def cur(v:Value)(i:Bool)(x:Value):Value:=bif i then x else v
structure Half(base g:Nat)(v:Value)(l:List Int)(x:Int)(iB iA iS:Bool)(xb xa:Value)(w:World):Prop where
 box:au w g [cur v iS xa] bU
 own:aU w base (cur v iA xa) (bif iA then l++[x] else l)
 blt:iB=true->iA=false->∃gb,xb=.slice (some ⟨gb,0,none⟩) 1 1∧au w gb [.int .i64 x] kP∧v.ownBlock≠some gb
 ord:iS=true->iA=true
section
variable {base g:Nat}{v:Value}{l:List Int}{x:Int}{iB iA iS:Bool}{xb xa:Value}{w w':World}
theorem Half.keep(h:Half base g v l x iB iA iS xb xa w)(h1:w'.heap[g]?=w.heap[g]?)(h2:∀k,(cur v iA xa).ownBlock=some k->w'.heap[k]?=w.heap[k]?)(h3:∀gb,xb=.slice (some ⟨gb,0,none⟩) 1 1->au w gb [.int .i64 x] kP->iB=true->iA=false->w'.heap[gb]?=w.heap[gb]?) :
  Half base g v l x iB iA iS xb xa w':=
 ⟨h.box.stays h1,ax.stays h.own h2,fun a b=>by
  obtain⟨gb,e,hb,hn⟩:=h.blt a b
  exact⟨gb,e,hb.stays (h3 gb e hb a b),hn⟩,h.ord⟩
theorem Half.below(h:Half base g v l x iB iA iS xb xa w)(hb:bz w w'):Half base g v l x iB iA iS xb xa w':=
 h.keep (hb.block _ h.box.inside) (fun k hk=>hb.block k (ax.block h.own hk).2) fun _ _ hg _ _=>hb.block _ hg.inside
theorem Half.make(h:Half base g v l x iB iA iS xb xa w)(eA:iA=false):Half base g v l x true iA iS (.slice (some ⟨w.heap.size,0,none⟩) 1 1) xa (w.alloc (.cells #[.int .i64 x] kP)):=by
 have h':=h.below (bR.alloc nR (.cells #[.int .i64 x] kP));refine⟨h'.box,h'.own,fun _ _=>⟨_,rfl,au.new w [.int .i64 x] _,fun e=>?_⟩,h.ord⟩;subst eA;have:=(ax.block h.own (show(cur v false xa).ownBlock=some w.heap.size from e)).2;omega
theorem Half.app(h:Half base g v l x iB iA iS xb xa w)(eB:iB=true)(eA:iA=false)(hn:l.length<=900000)(hb:base<=w.heap.size) :
  ∃v' w',(Builtin.append_ #[bU,bU] bU #[v,xb]).run prog w=.ok v' w'∧Half base g v l x iB true iS xb v' w'∧w.grownBy w' v.ownBlock∧(v'.ownBlock=v.ownBlock∨v'.ownBlock=some w.heap.size):=by
 obtain⟨gb,e,hg,hne⟩:=h.blt eB eA;subst eA
 have hS:iS=false:=by
  cases hi:iS with
  |false=>rfl
  |true=>have:=h.ord hi;cases this
 subst hS
 have hrow:Row eI w (some ⟨gb,0,none⟩) [x]:=fun _=>⟨gb,0,rfl,fun j hj=>by
  have hj0:j=0:=by simp at hj;omega
  subst hj0
  exact hg.blk.cell 0⟩
 obtain⟨v',w',h1,h2,h3,h4⟩:=Eu (c:=1) (show aU w base v l from h.own) hrow (by simp;omega) hb;rw[e];refine⟨v',w',h1,⟨?_,h2,fun _ k=>(nomatch k),fun k=>(nomatch k)⟩,h3,h4⟩;refine h.box.stays (h3.block _ h.box.inside fun e2=>?_);obtain⟨cu,hc⟩:=ax.typed (show aU w base v l from h.own) e2.symm;have:=h.box.symm.trans hc;simp only[Option.some.injEq,Obj.cells.injEq]at this;exact absurd this.2.1 (by decide)
theorem Half.put(h:Half base g v l x iB iA iS xb xa w)(eA:iA=true):Half base g v l x iB iA true xb xa (w.setCell ⟨g,0,none⟩ xa):=by
 subst eA
 have hne:∀k cs,au w k cs kP->k≠g:=fun k cs hk e=>by
  rw[e]at hk;have:=hk.symm.trans h.box;simp only[Option.some.injEq,Obj.cells.injEq]at this;exact absurd this.2.1 (by decide)
 refine⟨h.box.set 0 xa,ax.stays h.own fun k hk=>heap_setCell_other _ _ _ _ fun(e:k=g)=>?_,fun _ k=>(nomatch k),fun _=>rfl⟩;obtain⟨cu,hc⟩:=ax.typed h.own hk;rw[e]at hc;have:=hc.symm.trans h.box;simp only[Option.some.injEq,Obj.cells.injEq]at this;exact absurd this.2.1 (by decide)
end
def S2(g1 g2:Nat)(v1 v2:Value):bF:=fun k=>k=g1∨k=g2∨v1.ownBlock=some k∨v2.ownBlock=some k
structure J2(W0:World)(base g1 g2:Nat)(v1 v2:Value)(l1 l2:List Int)(x y:Int)(i5 i6 i9 i10 i11 i12:Bool)(x32 xW yE Bh:Value)(w:World):Prop where
 rel:ae (S2 g1 g2 v1 v2) (S2 g1 g2 v1 v2) W0 w
 jr:base<=w.heap.size
 one:Half base g1 v1 l1 x i5 i6 i11 x32 xW w
 two:Half base g2 v2 l2 y i9 i10 i12 yE Bh w
 gne:g1≠g2
 ap:∀k,(cur v1 i6 xW).ownBlock=some k->(cur v2 i10 Bh).ownBlock≠some k
 ab:i5=true->i6=false->∀k,x32=.slice (some ⟨k,0,none⟩) 1 1->(cur v2 i10 Bh).ownBlock≠some k
 ba:i9=true->i10=false->∀k,yE=.slice (some ⟨k,0,none⟩) 1 1->(cur v1 i6 xW).ownBlock≠some k
section
variable {W0:World}{base g1 g2:Nat}{v1 v2:Value}{l1 l2:List Int}{x y:Int}{i5 i6 i9 i10 i11 i12:Bool}{x32 xW yE Bh:Value}{w w':World}
theorem J2.slots{u32 u33 u36 u37:Value}(h:J2 W0 base g1 g2 v1 v2 l1 l2 x y i5 i6 i9 i10 i11 i12 x32 xW yE Bh w)(e1:u32=x32)(e2:u33=xW)(e3:u36=yE)(e4:u37=Bh):J2 W0 base g1 g2 v1 v2 l1 l2 x y i5 i6 i9 i10 i11 i12 u32 u33 u36 u37 w:=by
 rw[e1,e2,e3,e4];exact h
theorem J2.swap(h:J2 W0 base g1 g2 v1 v2 l1 l2 x y i5 i6 i9 i10 i11 i12 x32 xW yE Bh w):J2 W0 base g2 g1 v2 v1 l2 l1 y x i9 i10 i5 i6 i12 i11 yE Bh x32 xW w:=by
 have e:S2 g2 g1 v2 v1=S2 g1 g2 v1 v2:=by
  funext k
  unfold S2;exact propext ⟨by rintro(h|h|h|h)<;>simp[h],by rintro(h|h|h|h)<;>simp[h]⟩
 exact⟨e ▸ h.rel,h.jr,h.two,h.one,h.gne.symm,fun k a b=>h.ap k b a,h.ba,h.ab⟩
theorem J2.make(h:J2 W0 base g1 g2 v1 v2 l1 l2 x y i5 i6 i9 i10 i11 i12 x32 xW yE Bh w)(eA:i6=false):J2 W0 base g1 g2 v1 v2 l1 l2 x y true i6 i9 i10 i11 i12 (.slice (some ⟨w.heap.size,0,none⟩) 1 1) xW yE Bh (w.alloc (.cells #[.int .i64 x] kP)):=by
 have hb:bz w (w.alloc (.cells #[.int .i64 x] kP)):=bR.alloc nR _;refine⟨h.rel.trans (ae.below hb),Nat.le_trans h.jr hb.size,h.one.make eA,h.two.below hb,h.gne,h.ap,fun _ _ k e e2=>?_,h.ba⟩
 injection e with e
 injection e with e
 injection e with e
 have:=(ax.block h.two.own e2).2;omega
theorem J2.app(h:J2 W0 base g1 g2 v1 v2 l1 l2 x y i5 i6 i9 i10 i11 i12 x32 xW yE Bh w)(eB:i5=true)(eA:i6=false)(hn:l1.length<=900000) :
  ∃v' w',(Builtin.append_ #[bU,bU] bU #[v1,x32]).run prog w=.ok v' w'∧J2 W0 base g1 g2 v1 v2 l1 l2 x y i5 true i9 i10 i11 i12 x32 v' yE Bh w'∧ae (S2 g1 g2 v1 v2) (S2 g1 g2 v1 v2) w w':=by
 obtain⟨v',w',h1,h2,h3,h4⟩:=h.one.app eB eA hn h.jr;subst eA;have ht:ae (S2 g1 g2 v1 v2) (S2 g1 g2 v1 v2) w w':=ae.grown h3 fun k hk=>.inr (.inr (.inl hk));have hsz:=h3.size;refine⟨v',w',h1,⟨h.rel.trans ht,by have:=h.jr;omega,h2,?_,h.gne,fun k a b=>?_,fun _ k=>(nomatch k),fun a b k e e2=>?_⟩,ht⟩
 ·refine h.two.keep (h3.block _ h.two.box.inside fun e=>?_) (fun k hk=>h3.block k (ax.block h.two.own hk).2 fun e=>h.ap k e.symm hk) fun gb e hg a b=>h3.block _ hg.inside fun e2=>h.ba a b gb e e2.symm;obtain⟨cu,hc⟩:=ax.typed h.one.own (show(cur v1 false xW).ownBlock=_ from e.symm);have:=hc.symm.trans h.two.box;simp only[Option.some.injEq,Obj.cells.injEq]at this;exact absurd this.2.1 (by decide)
 ·rcases h4 with e|e
  ·exact h.ap k (e ▸ a) b
  ·have e2:w.heap.size=k:=Option.some.inj (e.symm.trans a);have:=(ax.block h.two.own b).2;omega
 ·rcases h4 with e3|e3
  ·exact h.ba a b k e (e3 ▸ e2)
  ·have e4:w.heap.size=k:=Option.some.inj (e3.symm.trans e2);obtain⟨gb,e5,hg,_⟩:=h.two.blt a b;rw[e]at e5
   injection e5 with e5
   injection e5 with e5
   injection e5 with e5
   have:=hg.inside;omega
theorem J2.put(h:J2 W0 base g1 g2 v1 v2 l1 l2 x y i5 i6 i9 i10 i11 i12 x32 xW yE Bh w)(eA:i6=true):J2 W0 base g1 g2 v1 v2 l1 l2 x y i5 i6 i9 i10 true i12 x32 xW yE Bh (w.setCell ⟨g1,0,none⟩ xW)∧ae (S2 g1 g2 v1 v2) (S2 g1 g2 v1 v2) w (w.setCell ⟨g1,0,none⟩ xW):=by
 have ht:ae (S2 g1 g2 v1 v2) (S2 g1 g2 v1 v2) w (w.setCell ⟨g1,0,none⟩ xW):=ae.set (a:=⟨g1,0,none⟩) (.inl rfl) xW
 have hty:∀k cu fr,w.heap[k]?=some (.cells cu kP fr)->k≠g1:=fun k cu fr hk e=>by
  rw[e]at hk;have:=hk.symm.trans h.one.box;simp only[Option.some.injEq,Obj.cells.injEq]at this;exact absurd this.2.1 (by decide)
 refine⟨⟨h.rel.trans ht,by simpa[World.setCell]using h.jr,h.one.put eA,h.two.keep (heap_setCell_other _ _ _ _ h.gne.symm) (fun k hk=>?_) (fun gb _ hg _ _=>heap_setCell_other _ _ _ _ (hty _ _ _ hg)),h.gne,h.ap,h.ab,h.ba⟩,ht⟩;obtain⟨cu,hc⟩:=ax.typed h.two.own hk;exact heap_setCell_other _ _ _ _ (hty _ _ _ hc)
theorem NJ(g1 g2:Nat)(v1 v2:Value):S2 g2 g1 v2 v1=S2 g1 g2 v1 v2:=by
 funext k
 unfold S2;exact propext ⟨by rintro(h|h|h|h)<;>simp[h],by rintro(h|h|h|h)<;>simp[h]⟩
theorem J2.a1J(h:J2 W0 base g1 g2 v1 v2 l1 l2 x y i5 i6 i9 i10 i11 i12 x32 xW yE Bh w)(eA:i10=false):J2 W0 base g1 g2 v1 v2 l1 l2 x y i5 i6 true i10 i11 i12 x32 xW (.slice (some ⟨w.heap.size,0,none⟩) 1 1) Bh (w.alloc (.cells #[.int .i64 y] kP)):=(h.swap.make eA).swap
theorem J2.a4c(h:J2 W0 base g1 g2 v1 v2 l1 l2 x y i5 i6 i9 i10 i11 i12 x32 xW yE Bh w)(eB:i9=true)(eA:i10=false)(hn:l2.length<=900000) :
  ∃v' w',(Builtin.append_ #[bU,bU] bU #[v2,yE]).run prog w=.ok v' w'∧J2 W0 base g1 g2 v1 v2 l1 l2 x y i5 i6 i9 true i11 i12 x32 xW yE v' w'∧ae (S2 g1 g2 v1 v2) (S2 g1 g2 v1 v2) w w':=by
 obtain⟨v',w',h1,h2,h3⟩:=h.swap.app eB eA hn;rw[NJ]at h3;exact⟨v',w',h1,h2.swap,h3⟩
theorem J2.OB(h:J2 W0 base g1 g2 v1 v2 l1 l2 x y i5 i6 i9 i10 i11 i12 x32 xW yE Bh w)(eA:i10=true):J2 W0 base g1 g2 v1 v2 l1 l2 x y i5 i6 i9 i10 i11 true x32 xW yE Bh (w.setCell ⟨g2,0,none⟩ Bh)∧ae (S2 g1 g2 v1 v2) (S2 g1 g2 v1 v2) w (w.setCell ⟨g2,0,none⟩ Bh):=by
 obtain⟨h1,h2⟩:=h.swap.put eA;rw[NJ]at h2;exact⟨h1.swap,h2⟩
end
end
section
open Go.RowKit aF xk Go.Shelf
attribute [local go_sem] Oper.semAt_some
section
variable {w:World}{b:Nat}{s:Sh}{t:T}
def rO(t:T):List Int:=(wd t 0 0).map (·.1)
def vX(t:T):List Int:=(wd t 0 0).map fun p=>(p.2:Int)
def Za(t:T)(w:World)(e:Ending)(w':World):Prop:=∃ib db v1 v2,e=.returned (.func (.func 192) #[] #[.pointer (some ⟨ib,0,none⟩),.pointer (some ⟨db,0,none⟩)]) ∧
 w.heap.size<=ib∧w.heap.size<=db∧au w' ib [v1] bU∧au w' db [v2] bU∧aU w' w.heap.size v1 (rO t)∧aU w' w.heap.size v2 (vX t)∧bz w w'
theorem a1p(h:aX w b s t)(hn:t.length<=1000):Calls prog 190 #[.pointer (some ⟨b,0,none⟩)] w (Za t w):=by
 unfold Za;obtain⟨c0,bi⟩:=h.raw.top;have HT:=Hd h;have HLEN:Hid (∀ty W,bz w W->(Builtin.len_ #[195] ty #[.map (some s.m)]).run prog W=.ok (.int .i64 ((t.length+1:Nat):Int)) W):=fun ty W hb=>(h.below hb).maplen ty;have HC0:=Hd c0;have Fa:=Hd bi;have HN:Hid (t.length+1<=20000000):=by show _<=_;omega
 have HTN:=Hd hn;clear h hn;refine bQ func190 rfl ?_;simp only[ntmps190,List.size_toArray,List.length_cons,List.length_nil,Nat.reduceAdd,Nat.reduceSub,Array.replicate_succ,Array.replicate_zero,List.push_toArray,List.append_toArray,List.nil_append,List.cons_append]
 go_upto_region 1 with fail
 generalize t.length+1=N at*
 refine QC (Below w.heap.size) (fun L V wx=>J1 w.heap.size N (L 5) (L 11) (L 12) (L 13) (L 14) (L 15) (V 12) (V 18) (V 3) (V 4) wx) [7,8,9,10,11,12,13,14,15,16,17,18,3,4] (fun _=>bR) (fun _ _ _ h k=>h.trans k) (fun i=>match i with
  |0|1|2|6|7|8=>rp b 0
  |3|9=>rV (.map (some s.m))
  |4|10=>rV (.int .i64 (N:Nat))
  |_=>ra) (bR.drew) (⟨nR,nofun,nofun,nofun,nofun,nofun,nofun,nofun,nofun⟩) ⟨?_,?_,?_,?_,?_,?_,?_,?_,?_,?_,?_,?_,?_,?_,?_,?_,trivial⟩ ?_
 any_goals (first|refine fK fun L a w1 hh=>?_|fail)
 have h0:=hh.p 0 b 0;rotate_left;have h7:=rq (hh.d 0 7);have c0:=(hh.rel.cell Fa.o).trans HC0.o;have bi:=Nat.lt_of_lt_of_le Fa.o hh.rel.size;rotate_left;have h8:=rq (hh.d 1 8);rotate_left;have h9:=rq (hh.d 2 9);have c0:=(hh.rel.cell Fa.o).trans HC0.o;have bi:=Nat.lt_of_lt_of_le Fa.o hh.rel.size;rotate_left;have h10:=rq (hh.d 3 10);have hln:=HLEN.o 3 _ hh.rel;rotate_left
 ·have h11:=rq (hh.d 4 11);have hJ:=Hd hh.st;have hsz:=Hd hh.size;have hun:=Hd hh.un;have hmk:=CQ w1 N HN.o;clear hh;go_simp;exact⟨_,rfl,bR.alloc hJ.o.sz _,trivial,J1.slots (J1.a1I hJ.o hun.o) (bM.bI (by rw[hsz.o];simp)) sn sn sn⟩
 have h0:=hh.p 0 b 0;rotate_left;have h13:=rq (hh.d 6 13);have c0:=(hh.rel.cell Fa.o).trans HC0.o;have bi:=Nat.lt_of_lt_of_le Fa.o hh.rel.size;rotate_left;have xI:=rq (hh.d 7 14);rotate_left;have h15:=rq (hh.d 8 15);have c0:=(hh.rel.cell Fa.o).trans HC0.o;have bi:=Nat.lt_of_lt_of_le Fa.o hh.rel.size;rotate_left;have h16:=rq (hh.d 9 16);have hln:=HLEN.o 3 _ hh.rel;rotate_left
 ·have h17:=rq (hh.d 10 17);have hJ:=Hd hh.st;have hsz:=Hd hh.size;have hun:=Hd hh.un;have hmk:=CQ w1 N HN.o;clear hh;go_simp;exact⟨_,rfl,bR.alloc hJ.o.sz _,trivial,J1.slots (J1.Z4 hJ.o hun.o) sn (bM.bI (by rw[hsz.o];simp)) sn sn⟩
 ·have hJ:=Hd hh.st;have hsz:=Hd hh.size;have hun:=Hd hh.un;clear hh;go_simp;exact⟨_,rfl,bR.alloc hJ.o.sz _,trivial,J1.slots (J1.a1H hJ.o hun.o) sn sn (bM.bI (by rw[hsz.o];simp)) sn⟩
 ·have hJ:=Hd hh.st;have hsz:=Hd hh.size;have hun:=Hd hh.un;clear hh;go_simp;exact⟨_,rfl,bR.alloc hJ.o.sz _,trivial,J1.slots (J1.a1G hJ.o hun.o) sn sn sn (bM.bI (by rw[hsz.o];simp))⟩
 ·obtain⟨g,h0,hg,hB⟩:=hh.st.a12 (hh.up 12 ag);obtain⟨g2,h1,hg2,hB2⟩:=hh.st.a5 (hh.up 5 ag);have h3:a.tmps[3]?.getD undef=.pointer (some ⟨g,0,none⟩):=rq (h0);have h12:a.tmps[12]?.getD undef=.slice (some ⟨g2,0,none⟩) 0 N:=rq (h1);have cg:=hB.blk.cell 0;have fg:=hB.blk.free 0;have zg:=hB.inside;simp only[List.getElem?_cons_zero]at cg;have hJ:=Hd hh.st;have hU:=Hd (And.intro (hh.up 5 ag) (hh.up 12 ag));have H0:=Hd h0;have H1:=Hd h1;clear hh h0 h1 hB hB2;go_simp
  exact⟨bR.setCell hg _,⟨undef,trivial⟩,H1.o ▸ J1.a1C hJ.o hU.o.1 hU.o.2 H0.o⟩
 ·obtain⟨g,h0,hg,hB⟩:=hh.st.Y9 (hh.up 13 ag);obtain⟨g2,h1,hg2,hB2⟩:=hh.st.a11 (hh.up 11 ag);have h4:a.tmps[4]?.getD undef=.pointer (some ⟨g,0,none⟩):=rq (h0);have h18:a.tmps[18]?.getD undef=.slice (some ⟨g2,0,none⟩) 0 N:=rq (h1);have cg:=hB.blk.cell 0;have fg:=hB.blk.free 0;have zg:=hB.inside;simp only[List.getElem?_cons_zero]at cg;have hJ:=Hd hh.st;have hU:=Hd (And.intro (hh.up 11 ag) (hh.up 13 ag));have H0:=Hd h0;have H1:=Hd h1;clear hh h0 h1 hB hB2;go_simp
  exact⟨bR.setCell hg _,⟨undef,trivial⟩,H1.o ▸ J1.a1B hJ.o hU.o.1 hU.o.2 H0.o⟩
 any_goals (have hJ:=hh.j;clear hh;go_simp;exact⟨_,rfl,bR,rfl,J1.slots hJ.o sn sn sn sn⟩)
 intro L w1 val hL hJ hR hv;obtain⟨a1,e12,ha1,hb1⟩:=hJ.a5 (hL 5 (by decide));obtain⟨a2,e18,ha2,hb2⟩:=hJ.a11 (hL 11 (by decide));obtain⟨g1,e3,hg1,hx1⟩:=hJ.a12 (hL 12 (by decide));obtain⟨g2,e4,hg2,hx2⟩:=hJ.Y9 (hL 13 (by decide));have hd1:=hJ.d1 (hL 5 (by decide)) (hL 11 (by decide));have hd2:=hJ.d2 (hL 12 (by decide)) (hL 13 (by decide));rw[hL 14 (by decide),e12]at hx1;rw[hL 15 (by decide),e18]at hx2
 have ZN:∀a,w.heap.size<=a->au w1 a (zs0 N) kP->aU w1 w.heap.size (.slice (some ⟨a,0,none⟩) 0 N) []:=fun a ha hb=>by
  refine⟨by simp,.inr ⟨a,N,_,rfl,ha,hb,Nat.zero_le _,?_,by simp[zs0],by simp⟩⟩;have:=HN.o;unfold maxLen;omega
 have HP1:Hid (au w1 g1 [.slice (some ⟨a1,0,none⟩) 0 N] bU∧aU w1 w.heap.size (.slice (some ⟨a1,0,none⟩) 0 N) []):=⟨hx1,ZN a1 ha1 hb1⟩
 have HP2:Hid (au w1 g2 [.slice (some ⟨a2,0,none⟩) 0 N] bU∧aU w1 w.heap.size (.slice (some ⟨a2,0,none⟩) 0 N) []):=⟨hx2,ZN a2 ha2 hb2⟩
 have HG:Hid (g1≠g2∧a1≠a2∧w.heap.size<=g1∧w.heap.size<=g2):=⟨fun e=>hd2 (by rw[e3,e4,e]),fun e=>hd1 (by rw[e12,e18,e]),hg1,hg2⟩
 have HB1:Hid (bz w w1):=hR;simp only[regs.aG,List.map_cons,List.map_nil];rw[e3,e4,e12,e18];simp only[Act.put,List.setIfInBounds_toArray,List.set_cons_zero,List.set_cons_succ];have c0:=(hR.cell Fa.o).trans HC0.o;have bi:=Nat.lt_of_lt_of_le Fa.o hR.size;have HT1:Hid (aX w1 b s t):=HT.o.below hR;have hlk:=HT1.o.raw.ik (i:=0) (by constructor<;>decide) (ah.2 (.inl rfl));clear hv hL hJ hR e3 e4 e12 e18 ha1 ha2 hb1 hb2 hg1 hg2 hx1 hx2 hd1 hd2 ZN HC0 Fa HLEN
 skip
 skip
 skip
 go_wp2_with (fail);refine(YP (s.g 0) w1).mono ?_;rintro e w2 ⟨rfl,hw2⟩;have hb2:bz w1 w2:=by rw[hw2];exact bR.alloc nR _
 have hc2:au w2 w1.heap.size [.pointer (some ⟨s.g 0,0,none⟩)] jg:=by rw[hw2];exact au.new w1 _ _
 have HB2:=Hd (HB1.o.trans (hb2.mono HB1.o.size));have dY:=Hd HT.o.ok;have EX:Hid (∀W,bz w W->Ql W s (eH t) (Bi t) (kids t)):=fun W hb=>(HT.o.below hb).raw.node
 have EI:Hid ((wd t 0 0).length<=1001):=by
  have:=kN HT.o.ok (.inl rfl:(0:Int)=0∨0∈ids t);rw[mV];show _<=_;have:=HTN.o;omega
 have HMM:Hid (∀x∈aF.walk t 0,has t x=true):=fun x hx=>(jw HT.o.ok).1 hx
 have XL:Hid (au w2 g1 [.slice (some ⟨a1,0,none⟩) 0 N] bU∧aU w2 w.heap.size (.slice (some ⟨a1,0,none⟩) 0 N) []):=⟨HP1.o.1.stays (hb2.block _ HP1.o.1.inside),ax.below HP1.o.2 hb2⟩
 have VZ:Hid (au w2 g2 [.slice (some ⟨a2,0,none⟩) 0 N] bU∧aU w2 w.heap.size (.slice (some ⟨a2,0,none⟩) 0 N) []):=⟨HP2.o.1.stays (hb2.block _ HP2.o.1.inside),ax.below HP2.o.2 hb2⟩
 have HS2:=Hd HB2.o.size;have HCB:Hid (w2.cell? ⟨w1.heap.size,0,none⟩=some (.pointer (some ⟨s.g 0,0,none⟩))):=hc2.blk.cell 0;have a5c:=Hd HTN.o;clear hw2 hb2 hc2 c0 bi hlk HP1 HP2 HT1 HN HB1;go_wp2_with (fail)
 refine jZ (gf:=146) (lb:=#[.pointer (some ⟨w1.heap.size,0,none⟩)]) rfl (enters_of func146 ag rfl) (es:=pz s.g (wd t 0 0)) (R:=ST sT) (Kp:=KT kT)
  (fun W1 hb=>BV dY.o (.inl rfl) (by have:=HTN.o;omega) (fun x hx=>⟨HMM.o x hx,rfl⟩) (eG hb HCB.o) (EX.o W1 (HB2.o.trans (hb.below HS2.o HS2.o)))) KT.trans (fun A B hb=>KT.bk hb) (fun n A B h=>h.keeps)
  (fun e he=>by obtain⟨j,_,rfl⟩:=List.mem_map.1 he;rfl)
  (fun k W=>bz w W∧∃v1 v2,au W g1 [v1] bU∧au W g2 [v2] bU∧aU W w.heap.size v1 (((wd t 0 0).map (·.1)).take k)∧aU W w.heap.size v2 (((wd t 0 0).map fun p=>(p.2:Int)).take k)∧∀k,v1.ownBlock=some k->v2.ownBlock≠some k)
  (fun _ _ _=>False) (fun k A B h hr=>?hI) (fun _ _ _ _ h _=>h.elim) ⟨HB2.o,_,_,XL.o.1,VZ.o.1,XL.o.2,VZ.o.2,fun k e1 e2=>HG.o.2.1 ((Option.some.inj e1).trans (Option.some.inj e2).symm)⟩ ?a1 ?assign ?body ?done (fun _ _ _ _ _ _ h _=>h.elim)
 case hI=>
  obtain⟨hB,v1,v2,hx1,hx2,ho1,ho2,hap⟩:=h;rcases hr with ⟨n,hn,hr⟩|hb
  ·exact⟨hB.trans (hr.aQ (Nat.le_trans HS2.o hn) hB.size),v1,v2,hx1.st hr (by decide),hx2.st hr (by decide),ax.st ho1 hr (by decide),ax.st ho2 hr (by decide),hap⟩
  ·exact⟨hB.trans (hb.below HS2.o hB.size),v1,v2,hx1.bk hb,hx2.bk hb,ax.bk ho1 hb,ax.bk ho2 hb,hap⟩
 case assign=>
  intro l j hj W9 KK Ef;rw[yH]
  gi_wp2
  exact Ef
 case done=>
  rintro D W9 hD ⟨hB,v1,v2,hx1,hx2,ho1,ho2,hap⟩ hd;rw[fM,List.take_of_length_le (by simp)]at ho1 ho2;have HZ:=Hd (And.intro hB (And.intro hx1 (And.intro hx2 (And.intro ho1 (And.intro ho2 hd)))));have hDw:w.heap.size<=D:=Nat.le_trans HS2.o hD;clear hB hx1 hx2 ho1 ho2 hap;go_wp2_with (fail)
  refine dG w.heap.size ⟨⟨D,rfl,hDw,hd,by simp⟩,trivial⟩ fun w' hb=>⟨_,results_tmp rfl _ _ _,?_⟩
  obtain⟨hB,hx1,hx2,ho1,ho2,-⟩:=HZ.o;exact⟨g1,g2,v1,v2,rfl,HG.o.2.2.1,HG.o.2.2.2,hx1.bk hb,hx2.bk hb,ax.bk ho1 hb,ax.bk ho2 hb,hB.trans (hb.below nR hB.size)⟩
 case body=>
  rintro l j hj W9 ⟨hB,v1,v2,hx1,hx2,ho1,ho2,hap⟩
  obtain⟨x,d,hxd⟩:∃x d,(wd t 0 0).getD j (0,0)=(x,d):=⟨_,_,rfl⟩
  have hjl:j<(wd t 0 0).length:=by rw[fM]at hj;exact hj
  have hmem:(wd t 0 0)[j]=(x,d):=by rw[List.getD_eq_getElem?_getD,List.getElem?_eq_getElem hjl]at hxd;exact hxd
  have hx:has t x=true:=HMM.o x (QZ (i:=0) (d:=0) (by rw[←hmem];exact List.getElem_mem hjl))
  have ht1:((wd t 0 0).map (·.1)).take (j+1)=((wd t 0 0).map (·.1)).take j++[x]:=by
   rw[List.take_succ_eq_append_getElem (by rw[List.length_map];exact hjl),List.getElem_map,hmem]
  have ht2:((wd t 0 0).map fun p=>(p.2:Int)).take (j+1)=((wd t 0 0).map fun p=>(p.2:Int)).take j++[(d:Int)]:=by
   rw[List.take_succ_eq_append_getElem (by rw[List.length_map];exact hjl),List.getElem_map,hmem]
  rw[List.getD_eq_getElem?_getD]at hxd;rw[hxd];obtain⟨A1,n1,k1,rfl⟩:=ax.shape ho1;obtain⟨A2,n2,k2,rfl⟩:=ax.shape ho2
  have a2y:Hid (((wd t 0 0).map (·.1)).take (j+1)=((wd t 0 0).map (·.1)).take j++[x]∧((wd t 0 0).map fun p=>(p.2:Int)).take (j+1)=((wd t 0 0).map fun p=>(p.2:Int)).take j++[(d:Int)]):=⟨ht1,ht2⟩
  have IJ:Hid ((((wd t 0 0).map (·.1)).take j).length<=900000∧(((wd t 0 0).map fun p=>(p.2:Int)).take j).length<=900000):=by
   have:=EI.o;constructor<;>(rw[List.length_take,List.length_map];omega)
  generalize ((wd t 0 0).map (·.1)).take j=l1 at*;generalize ((wd t 0 0).map fun p=>(p.2:Int)).take j=l2 at*
  have hS:∀k,S2 g1 g2 (.slice A1 n1 k1) (.slice A2 n2 k2) k->∃cu T,W9.heap[k]?=some (Obj.cells cu T (0,0))∧(T=bU∨T=kP):=by
   rintro k (e|e|e|e)
   ·rw[e];exact⟨_,_,hx1,.inl rfl⟩
   ·rw[e];exact⟨_,_,hx2,.inl rfl⟩
   ·obtain⟨cu,hc⟩:=ax.typed ho1 e;exact⟨cu,_,hc,.inr rfl⟩
   ·obtain⟨cu,hc⟩:=ax.typed ho2 e;exact⟨cu,_,hc,.inr rfl⟩
  have NQ:=Hd hS
  have HSG:Hid (∀k,S2 g1 g2 (.slice A1 n1 k1) (.slice A2 n2 k2) k->w.heap.size<=k):=by
   rintro k (e|e|e|e)
   ·rw[e];exact HG.o.2.2.1
   ·rw[e];exact HG.o.2.2.2
   ·exact(ax.block ho1 e).1
   ·exact(ax.block ho2 e).1
  have bn:=(EX.o W9 hB x hx).blk
  have UZ:Hid (∀W',ae (S2 g1 g2 (.slice A1 n1 k1) (.slice A2 n2 k2)) (S2 g1 g2 (.slice A1 n1 k1) (.slice A2 n2 k2)) W9 W'->W'.cell? ⟨s.g x,0,none⟩=some (.int .i64 x)∧s.g x<W'.heap.size):=fun W' ht=>by
   have b':=bn.stays (ht.far _ bn.inside fun e=>by
    obtain⟨cu,T,hc,hT⟩:=hS _ e;have:=bn.symm.trans hc;simp only[Option.some.injEq,Obj.cells.injEq]at this;rcases hT with rfl|rfl
    ·exact absurd this.2.1 (by decide)
    ·exact absurd this.2.1 (by decide)).2
   exact⟨b'.blk.cell 0,b'.inside⟩
  have o5:=Hd hB
  have AY:Hid (J2 W9 w.heap.size g1 g2 (.slice A1 n1 k1) (.slice A2 n2 k2) l1 l2 x (d:Nat) false false false false false false undef undef undef undef W9.drew):=by
   have hd:bz W9 W9.drew:=bR.drew;exact⟨ae.below hd,Nat.le_trans hB.size hd.size,⟨hx1.stays (hd.block _ hx1.inside),ax.below ho1 hd,nofun,nofun⟩,⟨hx2.stays (hd.block _ hx2.inside),ax.below ho2 hd,nofun,nofun⟩,HG.o.1,hap,nofun,nofun⟩
  clear hxd hjl hmem hx ht1 ht2 hS bn hB hx1 hx2 ho1 ho2 hap hj;refine wpIn_block ?_
  refine CG.dL (ae (S2 g1 g2 (.slice A1 n1 k1) (.slice A2 n2 k2)) (S2 g1 g2 (.slice A1 n1 k1) (.slice A2 n2 k2))) (fun L V wx=>J2 W9 w.heap.size g1 g2 (.slice A1 n1 k1) (.slice A2 n2 k2) l1 l2 x (d:Nat) (L 5) (L 6) (L 9) (L 10) (L 11) (L 12) (V 32) (V 33) (V 36) (V 37) wx∧(L 11=true->L 0=true)∧(L 12=true->L 7=true)∧(L 6=true->L 5=true)∧(L 10=true->L 9=true)) [27,28,29,30,31,32,33,34,35,36,37] ag ag ag (fun _=>ae.refl _ _) (fun _ _ _ h k=>h.trans k) (fun i=>(match i with
   |0=>rV (.slice A1 n1 k1)
   |1|2|3=>rV (.pointer (some ⟨s.g x,0,none⟩))
   |4=>rV (.int .i64 x)
   |7=>rV (.slice A2 n2 k2)
   |8=>rV (.int .i64 (d:Nat))
   |_=>ra:regs.kW (ae (S2 g1 g2 (.slice A1 n1 k1) (.slice A2 n2 k2)) (S2 g1 g2 (.slice A1 n1 k1) (.slice A2 n2 k2)))).p) (fun _=>regs.kW.mono _) ag (ae.below (bR.drew)) (⟨J2.slots AY.o rfl rfl rfl rfl,nofun,nofun,nofun,nofun⟩) ⟨?_,?_,?_,?_,?_,?_,?_,?_,?_,?_,?_,?_,?_,trivial⟩ ?_
  ·refine fK fun L a w1 hh=>?_;have h3:=hh.p 3 g1 0;have e11:=cO hh.st.2.1 hh.un;have bx:=hh.st.1.one.box;rw[e11]at bx;have cb:=bx.blk.cell 0;have zb:=bx.inside;simp only[cur,cond_false,List.getElem?_cons_zero]at cb;have hJ:=hh.j;clear hh;go_simp;exact⟨_,rfl,ae.refl _ _,rfl,⟨J2.slots hJ.o.1 sn sn sn sn,aj hJ.o.2.1 (.inl (by decide)),aj hJ.o.2.2.1 (.inl (by decide)),aj hJ.o.2.2.2.1 (.inl (by decide)),aj hJ.o.2.2.2.2 (.inl (by decide))⟩⟩
  ·refine fK fun L a w1 hh=>?_;have h5:=hh.p 5 (s.g x) 0;have hJ:=hh.j;clear hh;go_simp;exact⟨_,rfl,ae.refl _ _,rfl,⟨J2.slots hJ.o.1 sn sn sn sn,aj hJ.o.2.1 (.inl (by decide)),aj hJ.o.2.2.1 (.inl (by decide)),aj hJ.o.2.2.2.1 (.inl (by decide)),aj hJ.o.2.2.2.2 (.inl (by decide))⟩⟩
  ·refine fK fun L a w1 hh=>?_;have h28:=rq (hh.d 1 28);obtain⟨cx,zx⟩:=UZ.o _ hh.rel;have hJ:=hh.j;clear hh;go_simp;exact⟨_,rfl,ae.refl _ _,rfl,⟨J2.slots hJ.o.1 sn sn sn sn,aj hJ.o.2.1 (.inl (by decide)),aj hJ.o.2.2.1 (.inl (by decide)),aj hJ.o.2.2.2.1 (.inl (by decide)),aj hJ.o.2.2.2.2 (.inl (by decide))⟩⟩
  ·refine fK fun L a w1 hh=>?_;have CW:=rq (hh.d 2 29);have hJ:=hh.j;clear hh;go_simp;exact⟨_,rfl,ae.refl _ _,rfl,⟨J2.slots hJ.o.1 sn sn sn sn,aj hJ.o.2.1 (.inl (by decide)),aj hJ.o.2.2.1 (.inl (by decide)),aj hJ.o.2.2.2.1 (.inl (by decide)),aj hJ.o.2.2.2.2 (.inl (by decide))⟩⟩
  ·refine fK fun L a w1 hh=>?_;have h30:=rq (hh.d 3 30);obtain⟨cx,zx⟩:=UZ.o _ hh.rel;have hJ:=hh.j;clear hh;go_simp;exact⟨_,rfl,ae.refl _ _,rfl,⟨J2.slots hJ.o.1 sn sn sn sn,aj hJ.o.2.1 (.inl (by decide)),aj hJ.o.2.2.1 (.inl (by decide)),aj hJ.o.2.2.2.1 (.inl (by decide)),aj hJ.o.2.2.2.2 (.inl (by decide))⟩⟩
  ·refine fK fun L a w1 hh=>?_;have h31:=rq (hh.d 4 31);have hJ:=Hd hh.st;have hsz:=Hd hh.size;have e6:=Hd (cO hJ.o.2.2.2.1 hh.un);clear hh;go_simp;exact⟨_,rfl,ae.below (bR.alloc nR _),trivial,⟨J2.slots (J2.make hJ.o.1 e6.o) (bM.bI (by rw[hsz.o];simp)) sn sn sn,aj hJ.o.2.1 (.inl (by decide)),aj hJ.o.2.2.1 (.inl (by decide)),aj hJ.o.2.2.2.1 (.inl (by decide)),aj hJ.o.2.2.2.2 (.inl (by decide))⟩⟩
  ·refine fK fun L a w1 hh=>?_;have hJ:=Hd hh.st;have hsz:=Hd hh.size;obtain⟨v9,w9,hrun,YX,lu⟩:=J2.app hJ.o.1 (hh.up 5 ag) hh.un IJ.o.1;exact yF (.tmp 27) (.tmp 32) 35 35 35 rfl rfl (hh.d 0 27) rfl hrun ⟨v9,rfl,lu,trivial,⟨J2.slots YX sn (bM.bI (by rw[hsz.o];simp)) sn sn,aj hJ.o.2.1 (.inl (by decide)),aj hJ.o.2.2.1 (.inl (by decide)),aj hJ.o.2.2.2.1 (.inr (hh.up 5 ag)),aj hJ.o.2.2.2.2 (.inl (by decide))⟩⟩
  ·refine fK fun L a w1 hh=>?_;have h4:=hh.p 4 g2 0;have e11:=cO hh.st.2.2.1 hh.un;have bx:=hh.st.1.two.box;rw[e11]at bx;have cb:=bx.blk.cell 0;have zb:=bx.inside;simp only[cur,cond_false,List.getElem?_cons_zero]at cb;have hJ:=hh.j;clear hh;go_simp;exact⟨_,rfl,ae.refl _ _,rfl,⟨J2.slots hJ.o.1 sn sn sn sn,aj hJ.o.2.1 (.inl (by decide)),aj hJ.o.2.2.1 (.inl (by decide)),aj hJ.o.2.2.2.1 (.inl (by decide)),aj hJ.o.2.2.2.2 (.inl (by decide))⟩⟩
  ·refine fK fun L a w1 hh=>?_;have h6:=hh.o 6 (v:=.int .i64 (d:Nat)) rfl;have hJ:=hh.j;clear hh;go_simp;exact⟨_,rfl,ae.refl _ _,rfl,⟨J2.slots hJ.o.1 sn sn sn sn,aj hJ.o.2.1 (.inl (by decide)),aj hJ.o.2.2.1 (.inl (by decide)),aj hJ.o.2.2.2.1 (.inl (by decide)),aj hJ.o.2.2.2.2 (.inl (by decide))⟩⟩
  ·refine fK fun L a w1 hh=>?_;have h35:=rq (hh.d 8 35);have hJ:=Hd hh.st;have hsz:=Hd hh.size;have e6:=Hd (cO hJ.o.2.2.2.2 hh.un);clear hh;go_simp;exact⟨_,rfl,ae.below (bR.alloc nR _),trivial,⟨J2.slots (J2.a1J hJ.o.1 e6.o) sn sn (bM.bI (by rw[hsz.o];simp)) sn,aj hJ.o.2.1 (.inl (by decide)),aj hJ.o.2.2.1 (.inl (by decide)),aj hJ.o.2.2.2.1 (.inl (by decide)),aj hJ.o.2.2.2.2 (.inl (by decide))⟩⟩
  ·refine fK fun L a w1 hh=>?_;have hJ:=Hd hh.st;have hsz:=Hd hh.size;obtain⟨v9,w9,hrun,YX,lu⟩:=J2.a4c hJ.o.1 (hh.up 9 ag) hh.un IJ.o.2;exact yF (.tmp 34) (.tmp 36) 35 35 35 rfl rfl (hh.d 7 34) rfl hrun ⟨v9,rfl,lu,trivial,⟨J2.slots YX sn sn sn (bM.bI (by rw[hsz.o];simp)),aj hJ.o.2.1 (.inl (by decide)),aj hJ.o.2.2.1 (.inl (by decide)),aj hJ.o.2.2.2.1 (.inl (by decide)),aj hJ.o.2.2.2.2 (.inr (hh.up 9 ag))⟩⟩
  ·refine fK fun L a w1 hh=>?_;have h3:=hh.p 3 g1 0;have h6:=hh.up 6 ag;have ho:=hh.st.1.one.own;rw[h6]at ho;obtain⟨A9,n9,c9,e33⟩:=ax.shape ho;have e33:bM.sl a 33=.slice A9 n9 c9:=e33;have VV:a.tmps[33]?.getD undef=.slice A9 n9 c9:=rq (e33);have bx:=hh.st.1.one.box;have cb:=bx.blk.cell 0;have fb:=bx.blk.free 0;have zb:=bx.inside;simp only[List.getElem?_cons_zero]at cb;have hJ:=Hd hh.st;have hP:=J2.put hh.st.1 h6;have hU:=Hd (hh.up 0 ag);rw[e33]at hP;have H1:=Hd e33;have HP:=Hd hP;clear hh h6 ho bx hP e33;go_simp
   exact⟨HP.o.2,⟨undef,trivial⟩,J2.slots HP.o.1 rfl H1.o rfl rfl,aj hJ.o.2.1 (.inr hU.o),aj hJ.o.2.2.1 (.inl (by decide)),aj hJ.o.2.2.2.1 (.inl (by decide)),aj hJ.o.2.2.2.2 (.inl (by decide))⟩
  ·refine fK fun L a w1 hh=>?_;have h4:=hh.p 4 g2 0;have h6:=hh.up 10 ag;have ho:=hh.st.1.two.own;rw[h6]at ho;obtain⟨A9,n9,c9,e33⟩:=ax.shape ho;have e33:bM.sl a 37=.slice A9 n9 c9:=e33;have h37:a.tmps[37]?.getD undef=.slice A9 n9 c9:=rq (e33);have bx:=hh.st.1.two.box;have cb:=bx.blk.cell 0;have fb:=bx.blk.free 0;have zb:=bx.inside;simp only[List.getElem?_cons_zero]at cb;have hJ:=Hd hh.st;have hP:=J2.OB hh.st.1 h6;have hU:=Hd (hh.up 7 ag);rw[e33]at hP;have H1:=Hd e33;have HP:=Hd hP;clear hh h6 ho bx hP e33;go_simp
   exact⟨HP.o.2,⟨undef,trivial⟩,J2.slots HP.o.1 rfl rfl rfl H1.o,aj hJ.o.2.1 (.inl (by decide)),aj hJ.o.2.2.1 (.inr hU.o),aj hJ.o.2.2.2.1 (.inl (by decide)),aj hJ.o.2.2.2.2 (.inl (by decide))⟩
  intro L w3 val hL hJ hR hv;obtain⟨hJ,-⟩:=hJ;have h1:=hJ.one;have h2:=hJ.two;have hap:=hJ.ap;rw[hL 6 (by decide),hL 11 (by decide)]at h1;rw[hL 10 (by decide),hL 12 (by decide)]at h2;rw[hL 6 (by decide),hL 10 (by decide)]at hap
  have hk:∀(k:Nat) (o:Obj),W9.heap[k]?=some o->(∀cu:Array Value,o≠Obj.cells cu bU (0,0)∧o≠Obj.cells cu kP (0,0))->w3.heap[k]?=some o:=fun k o hk hn=>by
   refine((hR.far k (Array.getElem?_eq_some_iff.1 hk).1 fun e=>?_).2).trans hk;obtain⟨cu,T,hc,hT⟩:=NQ.o k e;have e2:=hk.symm.trans hc
   injection e2 with e2
   rcases hT with rfl|rfl
   ·exact(hn cu).1 e2
   ·exact(hn cu).2 e2
  refine⟨fun k o h3 h4=>hk k o h3 fun cu=>⟨fun e=>(by subst e;cases h4),fun e=>(by subst e;cases h4)⟩,⟨hR.size,fun k cu ty fr h3 h4=>hk k _ h3 fun cu'=>⟨fun e=>?_,fun e=>?_⟩⟩,?_,val 33,val 37,h1.box,h2.box,?_,?_,hap⟩
  ·injection e with _ e _
   rw[e]at h4;exact absurd h4 (by decide)
  ·injection e with _ e _
   rw[e]at h4;exact absurd h4 (by decide)
  ·exact o5.o.trans (hR.aQ o5.o.size HSG.o)
  ·rw[a2y.o.1];exact h1.own
  ·rw[a2y.o.2];exact h2.own
end
end
end Go.Proofs.YthmegninhpihkaaGreat
