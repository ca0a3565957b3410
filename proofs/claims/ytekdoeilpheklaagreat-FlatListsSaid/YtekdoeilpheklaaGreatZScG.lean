import Derived.Test.YtekdoeilpheklaaGreatZScA
import Derived.Test.YtekdoeilpheklaaGreatZScF
import Derived.Deep.RegionHeld3
import Derived.BigQuiet
import Derived.Maps.OwnSet
import Derived.Maps.Ext
import Derived.LaidEqlPtr
set_option maxHeartbeats 16000000
set_option maxRecDepth 100000
open Go.Proofs.Tryz
namespace Go.Proofs.YtekdoeilpheklaaGreat
section
open Go.RowKit aB
def rcs(r:Int×Int):List Value:=[.int .i64 r.1,.int .i64 r.2]
theorem Ef(r:Int×Int):(rcs r).length=2:=rfl
theorem PG(r:Int×Int):∀u∈rcs r,u.oneCell'=true:=by
 intro u hu;simp only[rcs,List.mem_cons,List.not_mem_nil,or_false] at hu;rcases hu with rfl|rfl<;>rfl
abbrev l7(w:World)(A:Option Addr)(t:T):Prop:=aS 2 rcs w A t
theorem l7.at_{w:World}{A:Option Addr}{l:T}(h:l7 w A l){j:Nat}(hj:j<l.length):∃b off,A=some ⟨b,off,none⟩∧w.cell? ⟨b,off+j*2,none⟩=some (.int .i64 l[j].1)∧w.cell? ⟨b,off+j*2+1,none⟩=some (.int .i64 l[j].2):=by
 obtain⟨b,off,e,hc⟩:=h (by omega);exact⟨b,off,e,hc j hj 0 _ rfl,hc j hj 1 _ rfl⟩
theorem UI:(prog.info? 213).map (fun i=>(i.zero,i.size,i.bytes))=some (some (.agg #[.int .i64 0,.int .i64 0]),2,16):=by kernel_rfl
abbrev oW(w:World)(base:Nat)(v:Value)(l:T):Prop:=ai 213 2 rcs w base v l
def ic(z:Int):List Value:=[.int .i64 z]
theorem ig(z:Int):(ic z).length=1:=rfl
theorem uz(z:Int):∀u∈ic z,u.oneCell'=true:=by
 intro u hu;simp only[ic,List.mem_singleton] at hu;subst hu;rfl
abbrev aO(w:World)(base:Nat)(v:Value)(l:List Int):Prop:=ai 3 1 ic w base v l
theorem kJ:(prog.info? 3).map (fun i=>(i.zero,i.size,i.bytes))=some (some (.int .i64 0),1,8):=by kernel_rfl
theorem aO.kP{w:World}{base:Nat}{v:Value}{l:List Int}(h:aO w base v l):∃A c,v=.slice A l.length c∧l.length<=c∧c<=maxLen∧Row eI w A l:=by
 obtain⟨A,c,h1,h2,h3,h4⟩:=h.row ig;refine⟨A,c,h1,h2,h3,fun hn=>?_⟩;obtain⟨b,off,e,hc⟩:=h4 hn;refine⟨b,off,e,fun j hj=>?_⟩;have:=hc j hj 0 _ rfl;rw[Nat.mul_one,Nat.add_zero] at this;exact this
theorem OB{w:World}{base:Nat}{v:Value}{l:List Int}(h:aO w base v l)(x:Int){c:Nat}(hn:l.length<=900000000)(hbase:base<=w.heap.size) :
  ∃v' w',(Builtin.append_ #[116,116] 116 #[v,.slice (some ⟨w.heap.size,0,none⟩) 1 c]).run prog (w.alloc (.cells #[.int .i64 x] 3))=.ok v' w'∧aO w' base v' (l++[x]) ∧
   (w.alloc (.cells #[.int .i64 x] 3)).grownBy w' v.ownBlock∧(v'.ownBlock=v.ownBlock∨v'.ownBlock=some (w.heap.size+1)):=by
 obtain⟨v',w',h1,h2,h3,h4⟩:=ai.app (P:=prog) (xs:=[x]) (c:=c) (g:=w.heap.size) (o:=0) underlying116 kJ rfl (by decide) (by decide) ig uz
  (h.below (bR.alloc nR (.cells #[.int .i64 x] 3))) (fun _=>jq (enc:=ic) ig w [x] _ rfl) (by simp;omega) (by simp;omega)
 refine⟨v',w',h1,h2,h3,?_⟩
 simpa using h4
theorem nZ{w:World}{base:Nat}{v:Value}{l:T}(h:oW w base v l)(x y:Int){c:Nat}(hn:l.length<=900000000)(hbase:base<=w.heap.size) :
  ∃v' w',(Builtin.append_ #[27,27] 27 #[v,.slice (some ⟨w.heap.size,0,none⟩) 1 c]).run prog (w.alloc (.cells #[.int .i64 x,.int .i64 y] 213))=.ok v' w'∧oW w' base v' (l++[(x,y)]) ∧
   (w.alloc (.cells #[.int .i64 x,.int .i64 y] 213)).grownBy w' v.ownBlock∧(v'.ownBlock=v.ownBlock∨v'.ownBlock=some (w.heap.size+1)):=by
 obtain⟨v',w',h1,h2,h3,h4⟩:=ai.app (P:=prog) (xs:=[(x,y)]) (c:=c) (g:=w.heap.size) (o:=0) underlying27 UI rfl (by decide) (by decide) Ef PG
  (h.below (bR.alloc nR (.cells #[.int .i64 x,.int .i64 y] 213))) (fun _=>jq (enc:=rcs) Ef w [(x,y)] _ rfl) (by simp;omega) (by simp;omega)
 refine⟨v',w',h1,h2,h3,?_⟩
 simpa using h4
theorem Ij{t:T}{i:Int}{k:Nat}(h:i∉ids (t.take k))(hk:k<t.length)(e:t[k].1≠i):i∉ids (t.take (k+1)):=by
 unfold ids at *;rw[List.take_succ_eq_append_getElem hk,List.map_append,List.mem_append];rintro(h1|h1)
 ·exact h h1
 ·rw[List.map_singleton,List.mem_singleton] at h1;exact e h1.symm
theorem a05{t:T}{i:Int}{k:Nat}(hk:k<t.length)(e:t[k].1=i):i∈ids t:=bg.2 ⟨t[k].2,by rw[← e];exact List.getElem_mem hk⟩
theorem a0I{t:T}{i:Int}{k:Nat}(h:i∉ids (t.take k))(hk:k<t.length)(e:t[k].1=i):par t i=t[k].2:=by
 have h2:t=t.take k++t[k]::t.drop (k+1):=by rw[← List.drop_eq_getElem_cons hk,List.take_append_drop]
 unfold par
 have h3:t.find? (fun r=>decide (r.1=i))=some t[k]:=by
  refine(congrArg (List.find? fun r=>decide (r.1=i)) h2).trans ?_
  rw[List.find?_append,List.find?_eq_none.2 (fun r hr=>by
   simp only[decide_eq_true_eq];rintro rfl
   exact h (List.mem_map_of_mem hr)),List.find?_cons_of_pos (by simpa using e)]
  rfl
 rw[h3];rfl
theorem VO(A:Option Addr)(t:T)(c:Nat)(i:Int)(w:World)(hr:l7 w A t)(hn:t.length<=100000) :
  Calls prog 90 #[.slice A t.length c,.int .i64 i] w fun e w'=>e=.returned (.bool (has t i))∧bz w w':=by
 have HR:=Hd hr;have HN:=Hd hn;clear hr hn;by_cases h0:i=0
 ·subst h0;have HQ:Hid (has t 0=true):=ah.2 (.inl rfl);go_enter func90,ntmps90;go_wp2_with (fail);go_ret;exact⟨aC HQ.o.symm,bR⟩
 ·have q:(i==0)=false:=by simpa using h0
  have H0:=Hd h0;clear h0;go_enter func90,ntmps90;go_wp2_with (fail);clear q
  go_loopw [5] (fun x wr=>∃k:Nat,k<=t.length∧x=.int .i64 k∧Hid (i∉ids (t.take k))∧Hid (wr=w)) (fun x _=>t.length - (intOf x).toNat)
  case atStart=>exact⟨0,Nat.zero_le _,rfl,by show _∉_;simp[ids],rfl⟩
  case round=>
   obtain⟨k,hk,rfl,HK,HW⟩:=hrel;obtain rfl:=HW.o;by_cases hlt:k<t.length
   ·have t1:decide (k<t.length)=true:=by simpa using hlt
    obtain⟨b,o,rfl,k1,k2⟩:=HR.o.at_ hlt;have HS:=Hd (Ij HK.o hlt);have HT:=Hd (fun e=>a05 (i:=i) hlt e);have HB:=Hd (show k<=100000 by have:=HN.o;omega);generalize t[k]=r at *;obtain⟨x,y⟩:=r;simp only at k1 k2 HS HT;by_cases e:x=i
    ·have HT2:=Hd (HT.o e);have q:(x==i)=true:=by simpa using e
     clear HS HT e;have hkb:(k:Int)<=100000:=by have:=HB.o;omega
     go_wp2_with (fail);go_ret;exact⟨aC (ah.2 (.inr HT2.o)).symm,bR⟩
    ·have HS2:=Hd (HS.o e);have q:(x==i)=false:=by simpa using e
     clear HS HT e;have hkb:(k:Int)<=100000:=by have:=HB.o;omega
     go_wp2_with (fail)
     go_roundw
     case rel=>exact⟨k+1,by omega,by go_num,HS2,by trivial⟩
     case measure=>simp[intOf];omega
   ·obtain rfl:k=t.length:=by omega
    have HF:Hid (has t i=false):=by
     have h:=HK.o;rw[List.take_length] at h;show _=false;rw[← Bool.not_eq_true,ah];rintro(h1|h1)
     ·exact H0.o h1
     ·exact h h1
    have t1:decide (t.length<t.length)=false:=by simp
    go_wp2_with (fail);go_ret;exact⟨aC HF.o.symm,bR⟩
theorem a1e(A:Option Addr)(t:T)(c:Nat)(i:Int)(w:World)(hr:l7 w A t)(hn:t.length<=100000) :
  Calls prog 93 #[.slice A t.length c,.int .i64 i] w fun e w'=>e=.returned (.int .i64 (par t i))∧bz w w':=by
 have HR:=Hd hr;have HN:=Hd hn;clear hr hn;go_enter func93,ntmps93;go_wp2_with (fail)
 go_loopw [5] (fun x wr=>∃k:Nat,k<=t.length∧x=.int .i64 k∧Hid (i∉ids (t.take k))∧Hid (wr=w)) (fun x _=>t.length - (intOf x).toNat)
 case atStart=>exact⟨0,Nat.zero_le _,rfl,by show _∉_;simp[ids],rfl⟩
 case round=>
  obtain⟨k,hk,rfl,HK,HW⟩:=hrel;obtain rfl:=HW.o;by_cases hlt:k<t.length
  ·have t1:decide (k<t.length)=true:=by simpa using hlt
   obtain⟨b,o,rfl,k1,k2⟩:=HR.o.at_ hlt;have HS:=Hd (Ij HK.o hlt);have HT:=Hd (fun e=>a0I (i:=i) HK.o hlt e);have HB:=Hd (show k<=100000 by have:=HN.o;omega);generalize t[k]=r at *;obtain⟨x,y⟩:=r;simp only at k1 k2 HS HT;by_cases e:x=i
   ·have HT2:=Hd (HT.o e);have q:(x==i)=true:=by simpa using e
    clear HS HT e;have hkb:(k:Int)<=100000:=by have:=HB.o;omega
    go_wp2_with (fail);go_ret;exact⟨az HT2.o.symm,bR⟩
   ·have HS2:=Hd (HS.o e);have q:(x==i)=false:=by simpa using e
    clear HS HT e;have hkb:(k:Int)<=100000:=by have:=HB.o;omega
    go_wp2_with (fail)
    go_roundw
    case rel=>exact⟨k+1,by omega,by go_num,HS2,by trivial⟩
    case measure=>simp[intOf];omega
  ·obtain rfl:k=t.length:=by omega
   have HF:Hid (par t i=-1):=par_none (by have h:=HK.o;rw[List.take_length] at h;exact h);have t1:decide (t.length<t.length)=false:=by simp
   go_wp2_with (fail);go_ret;exact⟨az HF.o.symm,bR⟩
end
section
open Go.RowKit aB
theorem Qe{t:T}{p:Int}{k:Nat}(hk:k<t.length):kids (t.take (k+1)) p=if t[k].2=p then kids (t.take k) p++[t[k].1] else kids (t.take k) p:=by
 unfold kids;rw[List.take_succ_eq_append_getElem hk,List.filter_append,List.map_append];by_cases h:t[k].2=p<;>simp[h]
theorem VP{t:T}{i:Int}{k:Nat}(hk:k<t.length):del i (t.take (k+1))=if t[k].1=i then del i (t.take k) else del i (t.take k)++[t[k]]:=by
 unfold del;rw[List.take_succ_eq_append_getElem hk,List.filter_append];by_cases h:t[k].1=i<;>simp[h]
theorem fU(t:T)(p:Int):(kids t p).length<=t.length:=by
 unfold kids;rw[List.length_map];exact List.length_filter_le _ _
theorem VR(t:T)(i:Int):(del i t).length<=t.length:=List.length_filter_le _ _
def oh(l:List Int)(w:World)(e:Ending)(w':World):Prop:=∃v,e=.returned v∧aO w' w.heap.size v l∧bz w w'
def Be(t:T)(w:World)(e:Ending)(w':World):Prop:=∃v,e=.returned v∧oW w' w.heap.size v t∧bz w w'
theorem IL(A:Option Addr)(t:T)(c:Nat)(p:Int)(w:World)(hr:l7 w A t)(hn:t.length<=100000) :
  Calls prog 66 #[.slice A t.length c,.int .i64 p] w (oh (kids t p) w):=by
 unfold oh;have HR:=Hd hr;have HN:=Hd hn;clear hr hn;go_enter func66,ntmps66;go_wp2_with (fail)
 go_loopw [5,6] (fun v x wr=>∃k:Nat,k<=t.length∧x=.int .i64 k∧Hid (aO wr w.heap.size v (kids (t.take k) p))∧Hid (bz w wr)) (fun _ x _=>t.length - (intOf x).toNat)
 case atStart=>exact⟨0,Nat.zero_le _,rfl,ai.nil _ _,bR⟩
 case round=>
  obtain⟨k,hk,rfl,HO,HB⟩:=hrel;by_cases hlt:k<t.length
  ·have t1:decide (k<t.length)=true:=by simpa using hlt
   obtain⟨b,o,rA,k1,k2⟩:=l7.at_ (HR.o.below HB.o) hlt;subst rA;have HS:=Hd (Qe (p:=p) hlt)
   have HL:Hid ((kids (t.take k) p).length<=100000):=by
    have:=fU (t.take k) p;have h2:=HN.o;show _<=_;rw[List.length_take] at this;omega
   have HK:=Hd (show k<=100000 by have:=HN.o;omega)
   obtain⟨l1,hl1⟩:∃x,kids (t.take (k+1)) p=x:=⟨_,rfl⟩
   have yU:=Hd hl1;rw[hl1] at HS;clear hl1;generalize t[k]=r at *;obtain⟨x,y⟩:=r;simp only at k1 k2 HS;generalize kids (t.take k) p=l at *;by_cases e:y=p
   ·have HS2:=Hd (HS.o.trans (if_pos e));have q:(y==p)=true:=by simpa using e
    obtain⟨v',w7,hrun,kF,hgr,hat⟩:=OB HO.o x (c:=1) (by have:=HL.o;omega) HB.o.size;have sU:Hid (bz w w7):=(HB.o.alloc HB.o.size _).grown hgr (by have:=HB.o.size;simp;omega) (fun j hj=>(HO.o.block hj).1);have sZ:Hid (aO w7 w.heap.size v' l1):=by rw[HS2.o];exact kF
    have hkb:(k:Int)<=100000:=by have:=HK.o;omega
    clear HS e kF hgr hat HO HB HK;go_wp2_with (at_builtin;refine aY rfl _ _ 116 116 116 rfl rfl _ _ _ _ rfl rfl hrun ?_;clear hrun)
    go_roundw
    case rel=>exact⟨k+1,by omega,by go_num,by rw[yU.o];exact sZ,sU⟩
    case measure=>simp[intOf];omega
   ·have HS2:=Hd (HS.o.trans (if_neg e));have q:(y==p)=false:=by simpa using e
    have hkb:(k:Int)<=100000:=by have:=HK.o;omega
    have sZ:Hid (aO wr w.heap.size u5 l1):=by rw[HS2.o];exact HO.o
    clear HS e HK;go_wp2_with (fail)
    go_roundw
    case rel=>exact⟨k+1,by omega,by go_num,by rw[yU.o];exact sZ,HB⟩
    case measure=>simp[intOf];omega
  ·obtain rfl:k=t.length:=by omega
   have hO:=HO.o;rw[List.take_length] at hO;have MW:=Hd hO;clear hO HO;have t1:decide (t.length<t.length)=false:=by simp
   go_wp2_with (fail);go_ret;exact⟨_,rfl,MW.o,HB.o⟩
theorem IG(A:Option Addr)(t:T)(c:Nat)(i:Int)(w:World)(hr:l7 w A t)(hn:t.length<=100000) :
  Calls prog 119 #[.slice A t.length c,.int .i64 i] w (Be (del i t) w):=by
 unfold Be;have HR:=Hd hr;have HN:=Hd hn;clear hr hn;go_enter func119,ntmps119;go_wp2_with (fail)
 go_loopw [5,6] (fun v x wr=>∃k:Nat,k<=t.length∧x=.int .i64 k∧Hid (oW wr w.heap.size v (del i (t.take k)))∧Hid (bz w wr)) (fun _ x _=>t.length - (intOf x).toNat)
 case atStart=>exact⟨0,Nat.zero_le _,rfl,ai.nil _ _,bR⟩
 case round=>
  obtain⟨k,hk,rfl,HO,HB⟩:=hrel;by_cases hlt:k<t.length
  ·have t1:decide (k<t.length)=true:=by simpa using hlt
   obtain⟨b,o,rA,k1,k2⟩:=l7.at_ (HR.o.below HB.o) hlt;subst rA;have HS:=Hd (VP (i:=i) hlt)
   have HL:Hid ((del i (t.take k)).length<=100000):=by
    have:=VR (t.take k) i;have h2:=HN.o;show _<=_;rw[List.length_take] at this;omega
   have HK:=Hd (show k<=100000 by have:=HN.o;omega)
   obtain⟨l1,hl1⟩:∃x,del i (t.take (k+1))=x:=⟨_,rfl⟩
   have yU:=Hd hl1;rw[hl1] at HS;clear hl1;generalize t[k]=r at *;obtain⟨x,y⟩:=r;simp only at k1 k2 HS;generalize del i (t.take k)=l at *;by_cases e:x=i
   ·have HS2:=Hd (HS.o.trans (if_pos e));have q:(x != i)=false:=by simpa using e
    have hkb:(k:Int)<=100000:=by have:=HK.o;omega
    have sZ:Hid (oW wr w.heap.size u5 l1):=by rw[HS2.o];exact HO.o
    clear HS e HK;go_wp2_with (fail)
    go_roundw
    case rel=>exact⟨k+1,by omega,by go_num,by rw[yU.o];exact sZ,HB⟩
    case measure=>simp[intOf];omega
   ·have HS2:=Hd (HS.o.trans (if_neg e));have q:(x != i)=true:=by simpa using e
    obtain⟨v',w7,hrun,kF,hgr,hat⟩:=nZ HO.o x y (c:=1) (by have:=HL.o;omega) HB.o.size;have sU:Hid (bz w w7):=(HB.o.alloc HB.o.size _).grown hgr (by have:=HB.o.size;simp;omega) (fun j hj=>(HO.o.block hj).1);have sZ:Hid (oW w7 w.heap.size v' l1):=by rw[HS2.o];exact kF
    have hkb:(k:Int)<=100000:=by have:=HK.o;omega
    clear HS e kF hgr hat HO HB HK;go_wp2_with (at_builtin;refine aY rfl _ _ 27 27 27 rfl rfl _ _ _ _ rfl rfl hrun ?_;clear hrun)
    go_roundw
    case rel=>exact⟨k+1,by omega,by go_num,by rw[yU.o];exact sZ,sU⟩
    case measure=>simp[intOf];omega
  ·obtain rfl:k=t.length:=by omega
   have hO:=HO.o;rw[List.take_length] at hO;have MW:=Hd hO;clear hO HO;have t1:decide (t.length<t.length)=false:=by simp
   go_wp2_with (fail);go_ret;exact⟨_,rfl,MW.o,HB.o⟩
end
section
open Go.RowKit aB
theorem l7.in_{w:World}{A:Option Addr}{l:T}(h:l7 w A l){j:Nat}(hj:j<l.length):∃b off,A=some ⟨b,off,none⟩∧∀W,bz w W->W.cell? ⟨b,off+j*2,none⟩=some (.int .i64 l[j].1)∧W.cell? ⟨b,off+j*2+1,none⟩=some (.int .i64 l[j].2):=by
 obtain⟨b,off,e,h1,h2⟩:=h.at_ hj;exact⟨b,off,e,fun W hb=>⟨(hb.cell (World.block_lt_of_cell? w _ h1)).trans h1,(hb.cell (World.block_lt_of_cell? w _ h2)).trans h2⟩⟩
theorem Row.in_{α:Type}{enc:α->Value}{w:World}{A:Option Addr}{l:List α}(h:Row enc w A l){j:Nat}(hj:j<l.length):∃b off,A=some ⟨b,off,none⟩∧∀W,bz w W->W.cell? ⟨b,off+j,none⟩=some (enc l[j]):=by
 obtain⟨b,off,e,h1⟩:=h.at_ hj;exact⟨b,off,e,fun W hb=>(hb.cell (World.block_lt_of_cell? w _ h1)).trans h1⟩
theorem L9{t:T}{r:Int×Int}{K:Int}{k:Nat}(hk:k<t.length):aB.ahead r K (t.take (k+1))=if t[k].1=K then aB.ahead r K (t.take k)++[r]++[t[k]] else aB.ahead r K (t.take k)++[t[k]]:=by
 unfold aB.ahead;rw[List.take_succ_eq_append_getElem hk,List.flatMap_append];by_cases h:t[k].1=K<;>simp[h]
theorem Wy(r:Int×Int)(K:Int)(t:T):(aB.ahead r K t).length<=2*t.length:=by
 unfold aB.ahead
 induction t with
 | nil=>simp
 | cons x t ih=>
  rw[List.flatMap_cons,List.length_append,List.length_cons];have h:(if x.1=K then [r,x] else [x]).length<=2:=by split<;>simp
  omega
theorem UL{t:T}{K:Int}{k:Nat}(hk:k<t.length):decide (K∈ids (t.take (k+1)))=if t[k].1=K then true else decide (K∈ids (t.take k)):=by
 unfold ids;rw[List.take_succ_eq_append_getElem hk,List.map_append];by_cases h:t[k].1=K
 ·rw[if_pos h,decide_eq_true];simp[h]
 ·rw[if_neg h];simp[Ne.symm h]
theorem a1c(A:Option Addr)(t:T)(c:Nat)(i p:Int)(n:Nat)(w:World)(hr:l7 w A t)(hn:t.length<=10000)(hl:n<(kids t p).length) :
  Calls prog 118 #[.slice A t.length c,.agg #[.int .i64 i,.int .i64 p],.int .i64 n] w (Be (put (i,p) n t) w):=by
 have e:put (i,p) n t=aB.ahead (i,p) (kids t p)[n] t:=by unfold put;exact dif_pos hl
 have hin:(kids t p)[n]∈ids t:=bg.2 ⟨p,gu.1 (List.getElem_mem hl)⟩;have hlt2:=Nat.lt_of_lt_of_le hl (Nat.le_trans (fU t p) hn);rw[e];clear e;unfold Be
 obtain⟨M,hM⟩:∃M,kids t p=M:=⟨_,rfl⟩
 have HC:=Hd (fun w hr=>IL A t c p w hr (by omega));rw[hM] at HC;have hlM:n<M.length:=by rw[← hM];exact hl
 obtain⟨K,hK⟩:∃K,(kids t p)[n]=K:=⟨_,rfl⟩
 have hKM:M[n]=K:=by subst hM;exact hK
 rw[hK] at hin ⊢;have hml:M.length<=10000:=by rw[← hM];exact Nat.le_trans (fU t p) hn
 have HM:=Hd (And.intro hlM (And.intro hKM hml));have HR:=Hd hr;have HN:=Hd hn;have HI:=Hd hin;clear hr hn hin hl hK hM hKM hml;go_enter func118,ntmps118;have hw0:bz w (w.alloc (.cells #[.int .i64 i,.int .i64 p] 213)):=bR.alloc nR _;have HW0:=Hd hw0;clear hw0;go_wp2_with (fail);refine(HC.o _ (HR.o.below HW0.o)).mono ?_;rintro e w1 ⟨v,rfl,hown,hb⟩;obtain⟨vA,vc,rfl,h1,h2,hrow⟩:=hown.kP;have HB1:=Hd (HW0.o.trans (hb.mono HW0.o.size))
 have HX:Hid (ax w1 w.heap.size [.int .i64 i,.int .i64 p]):=(ay w [.int .i64 i,.int .i64 p] 213).below hb (by simp);have DY:=Hd hrow;clear hown h1 h2 hrow hb HC HW0;go_wp2_with (fail)
 go_loopw [8,9,10] (fun v f x wr=>∃k:Nat,k<=t.length∧x=.int .i64 k∧f=.bool (decide (K∈ids (t.take k)))∧Hid (oW wr w1.heap.size v (aB.ahead (i,p) K (t.take k)))∧Hid (bz w1 wr)) (fun _ _ x _=>t.length - (intOf x).toNat)
 case atStart=>exact⟨0,Nat.zero_le _,rfl,rfl,ai.nil _ _,bR⟩
 case round=>
  obtain⟨k,hk,rfl,rfl,HO,HB⟩:=hrel;by_cases hlt:k<t.length
  ·have t1:decide (k<t.length)=true:=by simpa using hlt
   have t2:decide (n<M.length)=true:=by simpa using HM.o.1
   obtain⟨b,o,rA,k12⟩:=l7.in_ (HR.o.below HB1.o) hlt;obtain⟨b2,o2,rA2,k3'⟩:=DY.o.in_ HM.o.1;rw[HM.o.2.1] at k3';unfold eI at k3';subst rA rA2;have HS:=Hd (L9 (r:=(i,p)) (K:=K) hlt);have xk:=Hd (UL (K:=K) hlt)
   have HL:Hid ((aB.ahead (i,p) K (t.take k)).length<=100000):=by
    have:=Wy (i,p) K (t.take k);have h2:=HN.o;show _<=_;rw[List.length_take] at this;omega
   have HK:=Hd (show k<=10000 by have:=HN.o;omega)
   obtain⟨l1,hl1⟩:∃x,aB.ahead (i,p) K (t.take (k+1))=x:=⟨_,rfl⟩
   obtain⟨f1,hf1⟩:∃x,decide (K∈ids (t.take (k+1)))=x:=⟨_,rfl⟩
   have yU:=Hd hl1;have HF1:=Hd hf1;rw[hl1] at HS;rw[hf1] at xk;clear hl1 hf1;generalize t[k]=r at *;obtain⟨x,y⟩:=r;simp only at k12 HS xk;have H12:=Hd k12;have k3:=k3' _ HB.o;obtain⟨k1,k2⟩:=k12 _ HB.o;clear k3' k12;generalize aB.ahead (i,p) K (t.take k)=l at *;generalize decide (K∈ids (t.take k))=f0 at *;have hnb:(n:Int)<=10000:=by have:=HM.o;omega
   by_cases e:x=K
   ·have HS2:=Hd (HS.o.trans (if_pos e));have OT:=Hd (xk.o.trans (if_pos e));have q:(x==K)=true:=by simpa using e
    have hkb:(k:Int)<=10000:=by have:=HK.o;omega
    clear HS xk e HK;go_wp2_with (fail)
    go_quiet (fail)
    have Jv:Hid (∀m,bz w1 (wr.drewN m)):=fun m=>Below.drewN' HB.o m;have Jj:Hid (∀m,oW (wr.drewN m) w1.heap.size u8 l):=fun _=>HO.o;generalize hwz:World.drewN wr _=wz at *;have jF:Hid (bz w1 wz):=by rw[← hwz];exact Jv.o _
    have Xh:Hid (oW wz w1.heap.size u8 l):=by rw[← hwz];exact Jj.o _
    have XU:Hid (ax wz w.heap.size [.int .i64 i,.int .i64 p]):=HX.o.below jF.o HX.o.inside;obtain⟨v',w7,hrun,kF,hgr,hat⟩:=nZ Xh.o i p (c:=1) (by have:=HL.o;omega) jF.o.size;have sU:Hid (bz w1 w7):=(jF.o.alloc jF.o.size _).grown hgr (by have:=jF.o.size;simp;omega) (fun j hj=>(Xh.o.block hj).1);obtain⟨v'',w8,hrun2,a2D,a2Z,YI⟩:=nZ kF x y (c:=1) (by have:=HL.o;simp;omega) sU.o.size
    have XJ:Hid (bz w1 w8):=(sU.o.alloc sU.o.size _).grown a2Z (by have:=sU.o.size;simp;omega) (fun j hj=>(kF.block hj).1);have HO8:Hid (oW w8 w1.heap.size v'' l1):=by rw[HS2.o];exact a2D
    obtain⟨g1,g2⟩:=H12.o _ sU.o;obtain⟨⟨x0,x1⟩,-,xi⟩:=XU.o.c2;clear hwz kF a2D hgr a2Z hat YI HO HB Xh jF Jv Jj k1 k2 k3;go_wp2_with (at_builtin;refine aY rfl _ _ 27 27 27 rfl rfl _ _ _ _ rfl rfl hrun ?_;clear hrun;try (have hrun:=hrun2;clear hrun2))
    go_roundw
    case rel=>exact⟨k+1,by omega,by go_num,by rw[HF1.o,OT.o],by rw[yU.o];exact HO8,XJ⟩
    case measure=>simp[intOf];omega
   ·have HS2:=Hd (HS.o.trans (if_neg e));have OT:=Hd (xk.o.trans (if_neg e));have q:(x==K)=false:=by simpa using e
    have hkb:(k:Int)<=10000:=by have:=HK.o;omega
    clear HS xk e HK;go_wp2_with (fail)
    go_quiet (fail)
    have Jv:Hid (∀m,bz w1 (wr.drewN m)):=fun m=>Below.drewN' HB.o m;have Jj:Hid (∀m,oW (wr.drewN m) w1.heap.size u8 l):=fun _=>HO.o;generalize hwz:World.drewN wr _=wz at *;have jF:Hid (bz w1 wz):=by rw[← hwz];exact Jv.o _
    have Xh:Hid (oW wz w1.heap.size u8 l):=by rw[← hwz];exact Jj.o _
    obtain⟨v',w7,hrun,kF,hgr,hat⟩:=nZ Xh.o x y (c:=1) (by have:=HL.o;omega) jF.o.size;have sU:Hid (bz w1 w7):=(jF.o.alloc jF.o.size _).grown hgr (by have:=jF.o.size;simp;omega) (fun j hj=>(Xh.o.block hj).1);have sZ:Hid (oW w7 w1.heap.size v' l1):=by rw[HS2.o];exact kF
    obtain⟨g1,g2⟩:=H12.o _ jF.o;clear hwz kF hgr hat HO HB Xh jF Jv Jj k1 k2 k3;go_wp2_with (at_builtin;refine aY rfl _ _ 27 27 27 rfl rfl _ _ _ _ rfl rfl hrun ?_;clear hrun)
    go_roundw
    case rel=>exact⟨k+1,by omega,by go_num,by rw[HF1.o,OT.o],by rw[yU.o];exact sZ,sU⟩
    case measure=>simp[intOf];omega
  ·obtain rfl:k=t.length:=by omega
   have hO:=HO.o;have hi:=decide_eq_true HI.o;rw[List.take_length] at hO ⊢;have MW:=Hd hO;have t1:decide (t.length<t.length)=false:=by simp
   rw[hi];clear hO HO hi;go_wp2_with (fail);go_ret;exact⟨_,rfl,ai.weaken MW.o HB1.o.size,HB1.o.trans (HB.o.mono HB1.o.size)⟩
end
section
open Go.RowKit aB
theorem a1b(A:Option Addr)(t:T)(c:Nat)(i p:Int)(n:Nat)(w:World)(hr:l7 w A t)(hn:t.length<=10000)(hl:¬n<(kids t p).length)(hnn:n<=10000) :
  Calls prog 118 #[.slice A t.length c,.agg #[.int .i64 i,.int .i64 p],.int .i64 n] w (Be (put (i,p) n t) w):=by
 have e:put (i,p) n t=t++[(i,p)]:=by unfold put;exact dif_neg hl
 rw[e];clear e;unfold Be
 obtain⟨M,hM⟩:∃M,kids t p=M:=⟨_,rfl⟩
 have HC:=Hd (fun w hr=>IL A t c p w hr (by omega));rw[hM] at HC hl;have HM:=Hd (And.intro hl hnn);have HR:=Hd hr;have HN:=Hd hn;clear hr hn hl hnn hM;go_enter func118,ntmps118;have hw0:bz w (w.alloc (.cells #[.int .i64 i,.int .i64 p] 213)):=bR.alloc nR _;have HW0:=Hd hw0;clear hw0;go_wp2_with (fail);refine(HC.o _ (HR.o.below HW0.o)).mono ?_;rintro e w1 ⟨v,rfl,hown,hb⟩;obtain⟨vA,vc,rfl,h1,h2,hrow⟩:=hown.kP;have HB1:=Hd (HW0.o.trans (hb.mono HW0.o.size))
 have HX:Hid (ax w1 w.heap.size [.int .i64 i,.int .i64 p]):=(ay w [.int .i64 i,.int .i64 p] 213).below hb (by simp);clear hown h1 h2 hrow hb HC HW0;go_wp2_with (fail)
 go_loopw [8,9,10] (fun v f x wr=>∃k:Nat,k<=t.length∧x=.int .i64 k∧f=.bool false∧Hid (oW wr w1.heap.size v (t.take k))∧Hid (bz w1 wr)) (fun _ _ x _=>t.length - (intOf x).toNat)
 case atStart=>exact⟨0,Nat.zero_le _,rfl,rfl,ai.nil _ _,bR⟩
 case round=>
  obtain⟨k,hk,rfl,rfl,HO,HB⟩:=hrel;by_cases hlt:k<t.length
  ·have t1:decide (k<t.length)=true:=by simpa using hlt
   have t2:decide (n<M.length)=false:=by simpa using HM.o.1
   obtain⟨b,o,rA,k12⟩:=l7.in_ (HR.o.below HB1.o) hlt;subst rA;have HS:=Hd (List.take_succ_eq_append_getElem hlt);have HL:Hid ((t.take k).length<=10000):=by have h2:=HN.o;show _<=_;rw[List.length_take];omega
   have HK:=Hd (show k<=10000 by have:=HN.o;omega)
   obtain⟨l1,hl1⟩:∃x,t.take (k+1)=x:=⟨_,rfl⟩
   have yU:=Hd hl1;rw[hl1] at HS;clear hl1;generalize t[k]=r at *;obtain⟨x,y⟩:=r;simp only at k12 HS;have H12:=Hd k12;clear k12;generalize t.take k=l at *;have hnb:(n:Int)<=10000:=by have:=HM.o;omega
   have hkb:(k:Int)<=10000:=by have:=HK.o;omega
   clear HK;go_wp2_with (fail)
   go_quiet (fail)
   have Jv:Hid (∀m,bz w1 (wr.drewN m)):=fun m=>Below.drewN' HB.o m;have Jj:Hid (∀m,oW (wr.drewN m) w1.heap.size u8 l):=fun _=>HO.o;generalize hwz:World.drewN wr _=wz at *;have jF:Hid (bz w1 wz):=by rw[← hwz];exact Jv.o _
   have Xh:Hid (oW wz w1.heap.size u8 l):=by rw[← hwz];exact Jj.o _
   obtain⟨v',w7,hrun,kF,hgr,hat⟩:=nZ Xh.o x y (c:=1) (by have:=HL.o;omega) jF.o.size;have sU:Hid (bz w1 w7):=(jF.o.alloc jF.o.size _).grown hgr (by have:=jF.o.size;simp;omega) (fun j hj=>(Xh.o.block hj).1);have sZ:Hid (oW w7 w1.heap.size v' l1):=by rw[HS.o];exact kF
   obtain⟨g1,g2⟩:=H12.o _ jF.o;clear hwz kF hgr hat HO HB Xh jF Jv Jj;go_wp2_with (at_builtin;refine aY rfl _ _ 27 27 27 rfl rfl _ _ _ _ rfl rfl hrun ?_;clear hrun)
   go_roundw
   case rel=>exact⟨k+1,by omega,by go_num,rfl,by rw[yU.o];exact sZ,sU⟩
   case measure=>simp[intOf];omega
  ·obtain rfl:k=t.length:=by omega
   have hO:=HO.o;rw[List.take_length] at hO;have t1:decide (t.length<t.length)=false:=by simp
   obtain⟨v',w7,hrun,kF,hgr,hat⟩:=nZ hO i p (c:=1) (by have:=HN.o;omega) HB.o.size;have sU:Hid (bz w1 w7):=(HB.o.alloc HB.o.size _).grown hgr (by have:=HB.o.size;simp;omega) (fun j hj=>(hO.block hj).1);have sZ:Hid (oW w7 w1.heap.size v' (t++[(i,p)])):=kF;have XU:Hid (ax wr w.heap.size [.int .i64 i,.int .i64 p]):=HX.o.below HB.o HX.o.inside;obtain⟨⟨x0,x1⟩,-,xi⟩:=XU.o.c2;clear hO HO kF hgr hat HB;go_wp2_with (at_builtin;refine aY rfl _ _ 27 27 27 rfl rfl _ _ _ _ rfl rfl hrun ?_;clear hrun);go_ret
   exact⟨_,rfl,ai.weaken sZ.o HB1.o.size,HB1.o.trans (sU.o.mono HB1.o.size)⟩
theorem a0l(A:Option Addr)(t:T)(c:Nat)(i p:Int)(n:Nat)(w:World)(hr:l7 w A t)(hn:t.length<=10000)(hnn:n<=10000) :
  Calls prog 118 #[.slice A t.length c,.agg #[.int .i64 i,.int .i64 p],.int .i64 n] w (Be (put (i,p) n t) w):=by
 by_cases hl:n<(kids t p).length
 ·exact a1c A t c i p n w hr hn hl
 ·exact a1b A t c i p n w hr hn hl hnn
theorem YO(A:Option Addr)(t:T)(c:Nat)(ok:Ok t)(hn:t.length<=10000)(o:Int)(k:Nat):∀(i:Int) (w:World),l7 w A t->depth t i<=k ->
  Calls prog 120 #[.slice A t.length c,.int .i64 i,.int .i64 o] w fun e w'=>e=.returned (.bool (within t i o))∧bz w w':=by
 have dO:=Hd ok;have HP:=Hd (fun i w hr=>a1e A t c i w hr (by omega));have HH:=Hd (fun i w hr=>VO A t c i w hr (by omega));clear ok
 have low:∀(i:Int) (w:World),l7 w A t->¬(has t i=true∧has t o=true∧i≠0)->Calls prog 120 #[.slice A t.length c,.int .i64 i,.int .i64 o] w fun e w'=>e=.returned (.bool (within t i o))∧bz w w':=by
  intro i w hr h;have HQ:Hid (within t i o=false):=by show _=_;rw[ku dO.o,if_neg h]
  have H1:=Hd (fun w hr=>HH.o i w hr);have H2:=Hd (fun w hr=>HH.o o w hr);have HR:=Hd hr;have HX:=Hd h;clear HH HP hr h;generalize has t i=b1 at *;generalize has t o=b2 at *;go_enter func120,ntmps120;go_wp2_with (fail);refine(H1.o _ HR.o).mono ?_;rintro e w1 ⟨rfl,hb1⟩;have HB1:=Hd hb1;clear hb1;cases b1 with
  | false=>
   go_wp2_with (fail);go_ret;exact⟨aC HQ.o.symm,HB1.o⟩
  | true=>
   go_wp2_with (fail);refine(H2.o _ (HR.o.below HB1.o)).mono ?_;rintro e w2 ⟨rfl,hb2⟩;have HB2:=Hd (HB1.o.trans (hb2.mono HB1.o.size));clear hb2;cases b2 with
   | false=>
    go_wp2_with (fail);go_ret;exact⟨aC HQ.o.symm,HB2.o⟩
   | true=>
    obtain rfl:i=0:=Decidable.not_not.1 fun e=>HX.o ⟨by trivial,by trivial,e⟩;clear HX;go_wp2_with (fail);go_ret;exact⟨aC HQ.o.symm,HB2.o⟩
 induction k with
 | zero=>
  intro i w hr hd;refine low i w hr ?_;rintro⟨h1,h2,h3⟩;have:=bH dO.o ((ah.1 h1).resolve_left h3);omega
 | succ k ih=>
  intro i w hr hd;by_cases h:has t i=true∧has t o=true∧i≠0
  ·obtain⟨h1,h2,h3⟩:=h;have hm:=(ah.1 h1).resolve_left h3;have hs:=bH dO.o hm;have HQ:Hid (within t i o=(decide (par t i=o)||within t (par t i) o)):=by show _=_;rw[ku dO.o,if_pos ⟨h1,h2,h3⟩]
   have HI:=Hd (fun w hr=>ih (par t i) w hr (by omega));have H1:=Hd (fun w hr=>HH.o i w hr);have H2:=Hd (fun w hr=>HH.o o w hr);have SL:=Hd (fun w hr=>HP.o i w hr);rw[h1] at H1;rw[h2] at H2;have HR:=Hd hr;have q:(i==0)=false:=by simpa using h3
   clear HH HP hr h1 h2 h3 ih low hs hm hd;generalize within t i o=R at *;generalize within t (par t i) o=R1 at *;generalize par t i=pp at *;go_enter func120,ntmps120;go_wp2_with (fail);refine(H1.o _ HR.o).mono ?_;rintro e w1 ⟨rfl,hb1⟩;have HB1:=Hd hb1;clear hb1;go_wp2_with (fail);refine(H2.o _ (HR.o.below HB1.o)).mono ?_;rintro e w2 ⟨rfl,hb2⟩;have HB2:=Hd (HB1.o.trans (hb2.mono HB1.o.size));clear hb2;go_wp2_with (fail);refine(SL.o _ (HR.o.below HB2.o)).mono ?_;rintro e w3 ⟨rfl,hb3⟩;have HB3:=Hd (HB2.o.trans (hb3.mono HB2.o.size));clear hb3;by_cases e:pp=o
   ·have jP:Hid (R=true):=by show _=_;rw[HQ.o,decide_eq_true e,Bool.true_or]
    have q2:(pp==o)=true:=by simpa using e
    clear HQ e;go_wp2_with (fail);go_ret;exact⟨aC jP.o.symm,HB3.o⟩
   ·have jP:Hid (R=R1):=by show _=_;rw[HQ.o,decide_eq_false e,Bool.false_or]
    have q2:(pp==o)=false:=by simpa using e
    clear HQ e;go_wp2_with (fail);refine(HI.o _ (HR.o.below HB3.o)).mono ?_;rintro e w4 ⟨rfl,hb4⟩;have HB4:=Hd (HB3.o.trans (hb4.mono HB3.o.size));clear hb4;go_wp2_with (fail);go_ret;exact⟨aC jP.o.symm,HB4.o⟩
  ·exact low i w hr h
end
section
open Go.RowKit aB
theorem kS{t:T}(ok:Ok t){i:Int}(hi:i=0∨i∈ids t):(aB.walk t i).length<=t.length+1:=by
 rw[← tH ok];refine dI (rH ok i) fun x hx=>jh ok |>.2 ?_
 rcases(dG ok hi).1 hx with rfl|h
 ·exact ah.2 hi
 ·exact ah.2 (.inr (bG h).1)
theorem EL{l:List Int}(f:Int->List Int)(k:Nat):((l.take k).flatMap f).length<=(l.flatMap f).length:=by
 conv=>rhs;rw[← List.take_append_drop k l]
 rw[List.flatMap_append,List.length_append];omega
theorem CP{t:T}(ok:Ok t)(i:Int):0<(aB.walk t i).length:=by rw[walk_eq ok];simp
theorem ai.base{α:Type}{T:TypeId}{k:Nat}{enc:α->List Value}{w:World}{base:Nat}{A:Option Addr}{n c:Nat}{l:List α}(h:ai T k enc w base (.slice A n c) l){b o:Nat}(e:A=some ⟨b,o,none⟩):base<=b∧b<w.heap.size:=by
 rcases h.2 with ⟨h1,_⟩|⟨g,cap,cur,h1,hg,hb,_⟩
 ·injection h1 with h1 _ _
  rw[h1] at e;cases e
 ·injection h1 with h1 _ _
  rw[h1] at e
  injection e with e
  injection e with e1 _ _
  subst e1;exact⟨hg,lt_of_block hb⟩
theorem OC{w:World}{base:Nat}{v:Value}{l:List Int}(h:aO w base v l){g o c:Nat}{xs:List Int}(hx:Row eI w (some ⟨g,o,none⟩) xs)(hn:l.length+xs.length<=900000000)(hbase:base<=w.heap.size) :
  ∃v' w',(Builtin.append_ #[116,116] 116 #[v,.slice (some ⟨g,o,none⟩) xs.length c]).run prog w=.ok v' w'∧aO w' base v' (l++xs) ∧
   w.grownBy w' v.ownBlock∧(v'.ownBlock=v.ownBlock∨v'.ownBlock=some w.heap.size):=
 ai.app (P:=prog) underlying116 kJ rfl (by decide) (by decide) ig uz h (fun _ hn=>by
  obtain⟨b,off,e,hc⟩:=hx hn;refine⟨b,off,e,fun j hj i v hv=>?_⟩;have hi:i=0:=by have:=(List.getElem?_eq_some_iff.1 hv).1;simp[ic] at this;exact this
  subst hi;rw[Nat.mul_one,Nat.add_zero,hc j hj]
  exact hv) (by omega) hbase
theorem Oe(A:Option Addr)(t:T)(c:Nat)(ok:Ok t)(hn:t.length<=10000)(k:Nat):∀(i:Int) (w:World),l7 w A t->(i=0∨i∈ids t)->t.length+1<=k+depth t i ->
  Calls prog 29 #[.slice A t.length c,.int .i64 i] w (oh (aB.walk t i) w):=by
 have dO:=Hd ok;have HP:=Hd (fun i w hr=>IL A t c i w hr (by omega));have HN:=Hd hn;clear ok hn;unfold oh
 induction k with
 | zero=>
  intro i w hr hi hd;have:=lN dO.o hi;omega
 | succ k ih=>
  intro i w hr hi hd
  have HI:Hid (∀x∈kids t i,∀w,l7 w A t->Calls prog 29 #[.slice A t.length c,.int .i64 x] w (oh (aB.walk t x) w)):=fun x hx w hr=>
   ih x w hr (.inr (dO.o.kid hx).1) (by rw[dS dO.o hx];omega)
  have HW:Hid (aB.walk t i=i::(kids t i).flatMap (aB.walk t)):=walk_eq dO.o;have HLW:Hid ((aB.walk t i).length<=10001):=by have:=kS dO.o hi;have:=HN.o;show _<=_;omega
  have HK:=Hd (fun w hr=>HP.o i w hr)
  have HXW:Hid (∀x∈kids t i,(aB.walk t x).length<=10001∧0<(aB.walk t x).length):=fun x hx=>⟨by have:=kS dO.o (.inr (dO.o.kid hx).1);have:=HN.o;omega,CP dO.o x⟩
  have yz:Hid ((kids t i).length<=10000):=Nat.le_trans (fU t i) HN.o;have HR:=Hd hr;clear ih hi hd hr HP dO HN;generalize aB.walk t i=R at *;generalize kids t i=L at *;go_enter func29,ntmps29;have hw0:bz w (w.alloc (.cells #[.int .i64 i] 3)):=bR.alloc nR _;have HW0:=Hd hw0;have HO0:Hid (aO (w.alloc (.cells #[.int .i64 i] 3)) w.heap.size (.slice (some ⟨w.heap.size,0,none⟩) 1 1) [i]):=ai.lit (enc:=ic) ig w [i] nR (by show 1<=maxLen;decide);clear hw0;go_wp2_with (fail)
  refine(HK.o _ (HR.o.below HW0.o)).mono ?_;rintro e w1 ⟨v,rfl,hown,hb⟩;obtain⟨vA,vc,rfl,h1,h2,hrow⟩:=hown.kP;have HB1:=Hd (HW0.o.trans (hb.mono HW0.o.size));have HO1:Hid (aO w1 w.heap.size (.slice (some ⟨w.heap.size,0,none⟩) 1 1) [i]):=ai.below HO0.o hb;have DY:=Hd hrow
  have Zz:Hid (∀b o,vA=some ⟨b,o,none⟩->b≠w.heap.size∧b<w1.heap.size):=fun b o e=>by
   have:=ai.base hown e;simp only[World.size_alloc] at this;omega
  clear hown h1 h2 hrow hb HW0 HO0 HK;go_wp2_with (fail)
  go_loopw [5,7] (fun v x wr=>∃k:Nat,k<=L.length∧x=.int .i64 k∧Hid (aO wr w.heap.size v (i::(L.take k).flatMap (aB.walk t)))∧Hid (bz w wr)∧Hid (w1.heap.size<=wr.heap.size∧(∀g,g<w1.heap.size->g≠w.heap.size->wr.heap[g]?=w1.heap[g]?)∧(∀g,v.ownBlock=some g->g=w.heap.size∨w1.heap.size<=g))) (fun _ x _=>L.length - (intOf x).toNat)
  case atStart=>exact⟨0,Nat.zero_le _,rfl,HO1.o,HB1.o,nR,fun _ _ _=>rfl,fun g hg=>.inl (Option.some.inj (show some w.heap.size=some g from hg)).symm⟩
  case round=>
   obtain⟨k,hk,rfl,HO,HB,HG⟩:=hrel;by_cases hlt:k<L.length
   ·have t1:decide (k<L.length)=true:=by simpa using hlt
    obtain⟨b,o,rA,k1⟩:=DY.o.at_ hlt;have hbb:=Zz.o b o rA;subst rA;have hcell:wr.cell? ⟨b,o+k,none⟩=w1.cell? ⟨b,o+k,none⟩:=by simp only[World.cell?,HG.o.2.1 b hbb.2 hbb.1]
    rw[← hcell] at k1;clear hcell hbb;unfold eI at k1
    have HS:Hid (i::(L.take (k+1)).flatMap (aB.walk t)=(i::(L.take k).flatMap (aB.walk t))++aB.walk t L[k]):=by
     show _=_;rw[List.take_succ_eq_append_getElem hlt,List.flatMap_append];simp
    have HL:Hid ((i::(L.take k).flatMap (aB.walk t)).length<=10001):=by
     have h1:=EL (l:=L) (aB.walk t) k;have h2:=HLW.o;rw[HW.o] at h2;show _<=_;rw[List.length_cons] at h2 ⊢;omega
    have HKB:=Hd (show k<=10000 by have:=yz.o;omega);have HIX:=Hd (fun w hr=>HI.o _ (List.getElem_mem hlt) w hr);have HXL:=Hd (HXW.o _ (List.getElem_mem hlt))
    obtain⟨l1,hl1⟩:∃x,i::(L.take (k+1)).flatMap (aB.walk t)=x:=⟨_,rfl⟩
    have yU:=Hd hl1;rw[hl1] at HS;clear hl1;generalize aB.walk t L[k]=wk at *;generalize L[k]=x at *;generalize i::(L.take k).flatMap (aB.walk t)=l at *;have hkb:(k:Int)<=10000:=by have:=HKB.o;omega
    go_wp2_with (fail);refine(HIX.o _ (HR.o.below HB.o)).mono ?_;rintro e w2 ⟨v,rfl,hown,hb⟩;obtain⟨vA,vc2,rfl,h1,h2,hrow⟩:=hown.kP;obtain⟨b3,o3,rfl,-⟩:=hrow.at_ HXL.o.2;have HB2:=Hd (HB.o.trans (hb.mono HB.o.size));obtain⟨v',w7,hrun,kF,hgr,hat⟩:=OC (c:=vc2) (ai.below HO.o hb) hrow (by have:=HL.o;have:=HXL.o.1;omega) HB2.o.size;have sU:Hid (bz w w7):=HB2.o.grown hgr HB2.o.size (fun j hj=>(ai.block HO.o hj).1)
    have HG7:Hid (w1.heap.size<=w7.heap.size∧(∀g,g<w1.heap.size->g≠w.heap.size->w7.heap[g]?=w1.heap[g]?)∧(∀g,v'.ownBlock=some g->g=w.heap.size∨w1.heap.size<=g)):=by
     obtain⟨q1,q2,q3⟩:=HG.o;have q4:=hb.size;have q5:=hgr.size;refine⟨by omega,fun g h1 h2=>?_,fun g hg=>?_⟩
     ·rw[hgr.block g (by omega) (fun e=>by have:=q3 g e.symm;omega),hb.block g (by omega)];exact q2 g h1 h2
     ·rcases hat with h|h
      ·exact q3 g (h ▸ hg)
      ·rw[h] at hg
       injection hg with hg
       omega
    have sZ:Hid (aO w7 w.heap.size v' l1):=by rw[HS.o];exact kF
    clear kF hgr hat HO HB HG h1 h2 hown hb hrow HB2;go_wp2_with (at_builtin;refine aY rfl _ _ 116 116 116 rfl rfl _ _ _ _ rfl rfl hrun ?_;clear hrun)
    go_roundw
    case rel=>exact⟨k+1,by omega,by go_num,by rw[yU.o];exact sZ,sU,HG7⟩
    case measure=>simp[intOf];omega
   ·obtain rfl:k=L.length:=by omega
    have hO:=HO.o;rw[List.take_length,← HW.o] at hO;have MW:=Hd hO;have t1:decide (L.length<L.length)=false:=by simp
    clear hO HO;go_wp2_with (fail);go_ret;exact⟨_,rfl,MW.o,HB.o⟩
end
section
open Go.RowKit aB
def Bf(w:World)(A:Option Addr):Prop:=∀a,A=some a->∃cs fz,w.heap[a.block]?=some (.cells cs 213 fz)
theorem Bf.below{w w':World}{A:Option Addr}(h:Bf w A)(hb:bz w w'):Bf w' A:=fun a e=>by
 obtain⟨cs,fz,h1⟩:=h a e;exact⟨cs,fz,(hb.block _ (lt_of_block h1)).trans h1⟩
def aK(w:World)(v:Value)(t:T):Prop:=∃A c,v=.slice A t.length c∧l7 w A t∧Bf w A
theorem aK.below{w w':World}{v:Value}{t:T}(h:aK w v t)(hb:bz w w'):aK w' v t:=by
 obtain⟨A,c,e,hr,hy⟩:=h;exact⟨A,c,e,aS.below hr hb,hy.below hb⟩
theorem aK.Ep{w:World}{base:Nat}{v:Value}{t:T}(h:oW w base v t):aK w v t:=by
 obtain⟨A,c,e,_,_,hr⟩:=ai.row h Ef;refine⟨A,c,e,hr,fun a ea=>?_⟩;rcases h.2 with ⟨e2,_⟩|⟨g,cap,cur,e2,_,hb,_⟩
 ·have e3:=e.symm.trans e2
  injection e3 with e4 _ _
  rw[ea] at e4;cases e4
 ·have e3:=e.symm.trans e2
  injection e3 with e4 _ _
  rw[ea] at e4
  injection e4 with e4
  rw[e4];exact⟨cur,_,hb⟩
def a0a(r:T×Int)(w:World)(e:Ending)(w':World):Prop:=∃v,e=.returned (.tuple #[v,.int .i64 r.2])∧aK w' v r.1∧bz w w'
theorem a5l(tv:Value)(t:T)(i p n:Int)(w:World)(hv:aK w tv t)(hn:t.length<=1000) :
  Calls prog 87 #[tv,.int .i64 i,.int .i64 p,.int .i64 n] w (a0a (gJ t i p n) w):=by
 unfold a0a;obtain⟨A,c,rfl,hr,hy⟩:=hv;have HR:=Hd hr;have HY:=Hd hy;clear hy;have HH:=Hd (fun i w hr=>VO A t c i w hr (by omega));have HK:=Hd (fun i w hr=>IL A t c i w hr (by omega));have HW:=Hd (fun n w hr hn=>a0l A t c i p n w hr (by omega) hn);have yz:Hid ((kids t p).length<=1000):=Nat.le_trans (fU t p) hn
 obtain⟨R,hR⟩:∃R,gJ t i p n=R:=⟨_,rfl⟩
 have HQ:=Hd hR;rw[hR];clear hr hn hR;unfold gJ at HQ;by_cases h1:i<1
 ·have t1:decide (i<1)=true:=decide_eq_true h1;have jP:=Hd (HQ.o.symm.trans (if_pos (.inl h1)));clear h1 HQ HH HK HW yz;go_enter func87,ntmps87;go_wp2_with (fail);go_ret2;rw[jP.o];exact⟨_,rfl,⟨_,_,rfl,HR.o,HY.o⟩,bR⟩
 by_cases h2:65535<i
 ·have t1:decide (i<1)=false:=decide_eq_false h1;have t2:decide (65535<i)=true:=decide_eq_true h2;have jP:=Hd (HQ.o.symm.trans (if_pos (.inr h2)));clear h1 h2 HQ HH HK HW yz;go_enter func87,ntmps87;go_wp2_with (fail);go_ret2;rw[jP.o];exact⟨_,rfl,⟨_,_,rfl,HR.o,HY.o⟩,bR⟩
 have sW:=Hd (HQ.o.symm.trans (if_neg (show ¬(i<1∨65535<i) by omega)));have t1:decide (i<1)=false:=decide_eq_false h1;have t2:decide (65535<i)=false:=decide_eq_false h2;clear h1 h2 HQ;have H1:=Hd (HH.o i);have H2:=Hd (HH.o p);have H3:=Hd (HK.o p);clear HH HK;generalize has t i=b1 at *;generalize has t p=b2 at *;generalize kids t p=L at *;go_enter func87,ntmps87;go_wp2_with (fail);refine(H1.o _ HR.o).mono ?_;rintro e w1 ⟨rfl,hb1⟩;have HB1:=Hd hb1;clear hb1 t1 t2 H1;cases b1 with
 | true=>
  have jP:=Hd (sW.o.trans (if_pos rfl));clear sW;go_wp2_with (fail);go_ret2;rw[jP.o];exact⟨_,rfl,⟨_,_,rfl,aS.below HR.o HB1.o,HY.o.below HB1.o⟩,HB1.o⟩
 | false=>
  have jP:=Hd (sW.o.trans (if_neg (by decide)));clear sW;go_wp2_with (fail);refine(H2.o _ (aS.below HR.o HB1.o)).mono ?_;rintro e w2 ⟨rfl,hb2⟩;have HB2:=Hd (HB1.o.trans (hb2.mono HB1.o.size));clear hb2 HB1 H2;cases b2 with
  | false=>
   have o8:=Hd (jP.o.trans (if_pos rfl));clear jP;go_wp2_with (fail);go_ret2;rw[o8.o];exact⟨_,rfl,⟨_,_,rfl,aS.below HR.o HB2.o,HY.o.below HB2.o⟩,HB2.o⟩
  | true=>
   have o8:=Hd (jP.o.trans (if_neg (by decide)));clear jP;by_cases h3:n<0
   ·have t3:decide (n<0)=true:=decide_eq_true h3;have qp:=Hd (o8.o.trans (if_pos (.inl h3)));clear h3 o8 HW H3;go_wp2_with (fail);go_ret2;rw[qp.o];exact⟨_,rfl,⟨_,_,rfl,aS.below HR.o HB2.o,HY.o.below HB2.o⟩,HB2.o⟩
   have t3:decide (n<0)=false:=decide_eq_false h3
   obtain⟨m,rfl⟩:∃m:Nat,n=m:=⟨n.toNat,by omega⟩
   clear h3;go_wp2_with (fail);refine(H3.o _ (aS.below HR.o HB2.o)).mono ?_;rintro e w3 ⟨v,rfl,hown,hb3⟩;obtain⟨vA,vc,rfl,_,_,hrow⟩:=hown.kP;have HB3:=Hd (HB2.o.trans (hb3.mono HB2.o.size));clear hb3 H3 HB2 hown hrow t3;by_cases h4:L.length<m
   ·have t4:decide (L.length<m)=true:=decide_eq_true h4;have qp:=Hd (o8.o.trans (if_pos (.inr (by omega))));clear h4 o8 HW;go_wp2_with (fail);go_ret2;rw[qp.o];exact⟨_,rfl,⟨_,_,rfl,aS.below HR.o HB3.o,HY.o.below HB3.o⟩,HB3.o⟩
   ·have t4:decide (L.length<m)=false:=decide_eq_false h4;have qp:=Hd (o8.o.trans (if_neg (by omega)));have HWW:=Hd (fun w hr=>HW.o m w hr (by have:=yz.o;omega));clear h4 o8 HW;go_wp2_with (fail);refine(HWW.o _ (aS.below HR.o HB3.o)).mono ?_;rintro e w4 ⟨v,rfl,hown,hb4⟩;have HB4:=Hd (HB3.o.trans (hb4.mono HB3.o.size));have HO:=Hd (aK.Ep hown);clear hb4 hown HWW;go_wp2_with (fail);go_ret2;rw[qp.o];exact⟨_,rfl,HO.o,HB4.o⟩
end
section
open Go.RowKit aB
theorem a3k(tv:Value)(t:T)(i p n:Int)(w:World)(ok:Ok t)(hv:aK w tv t)(hn:t.length<=1000) :
  Calls prog 89 #[tv,.int .i64 i,.int .i64 p,.int .i64 n] w (a0a (jT t i p n) w):=by
 unfold a0a;obtain⟨A,c,rfl,hr,hy⟩:=hv;have HR:=Hd hr;have HY:=Hd hy;clear hy;have HH:=Hd (fun i w hr=>VO A t c i w hr (by omega));have MK:=Hd (fun w hr=>YO A t c ok (by omega) i _ p w hr nR);have RQ:=Hd (fun w hr=>IG A t c i w hr (by omega));have hdl:=VR t i;have HK:=Hd (fun A c w hr=>IL A (del i t) c p w hr (by omega));have HW:=Hd (fun A c n w hr hn=>a0l A (del i t) c i p n w hr (by omega) hn);have yz:Hid ((kids (del i t) p).length<=1000):=Nat.le_trans (fU _ p) (by omega)
 obtain⟨R,hR⟩:∃R,jT t i p n=R:=⟨_,rfl⟩
 have HQ:=Hd hR;rw[hR];clear hr hn hR ok hdl;unfold jT aB.move at HQ;rw[← uq] at HQ;generalize del i t=u at *;by_cases h1:i=0
 ·have t1:(i==0)=true:=by simpa using h1
  have jP:=Hd (HQ.o.symm.trans (if_pos h1));clear h1 HQ HH HK HW yz MK RQ;go_enter func89,ntmps89;go_wp2_with (fail);go_ret2;rw[jP.o];exact⟨_,rfl,⟨_,_,rfl,HR.o,HY.o⟩,bR⟩
 have sW:=Hd (HQ.o.symm.trans (if_neg h1));have t1:(i==0)=false:=by simpa using h1
 clear h1 HQ;have H1:=Hd (HH.o i);have H2:=Hd (HH.o p);clear HH;generalize has t i=b1 at *;generalize has t p=b2 at *;generalize within t p i=b3 at *;generalize kids u p=L at *;go_enter func89,ntmps89;go_wp2_with (fail);refine(H1.o _ HR.o).mono ?_;rintro e w1 ⟨rfl,hb1⟩;have HB1:=Hd hb1;clear hb1 t1 H1;cases b1 with
 | false=>
  have jP:=Hd (sW.o.trans (if_pos rfl));clear sW;go_wp2_with (fail);go_ret2;rw[jP.o];exact⟨_,rfl,⟨_,_,rfl,aS.below HR.o HB1.o,HY.o.below HB1.o⟩,HB1.o⟩
 | true=>
  have jP:=Hd (sW.o.trans (if_neg (by decide)));clear sW;go_wp2_with (fail);refine(H2.o _ (aS.below HR.o HB1.o)).mono ?_;rintro e w2 ⟨rfl,hb2⟩;have HB2:=Hd (HB1.o.trans (hb2.mono HB1.o.size));clear hb2 HB1 H2;cases b2 with
  | false=>
   have o8:=Hd (jP.o.trans (if_pos rfl));clear jP;go_wp2_with (fail);go_ret2;rw[o8.o];exact⟨_,rfl,⟨_,_,rfl,aS.below HR.o HB2.o,HY.o.below HB2.o⟩,HB2.o⟩
  | true=>
   have o8:=Hd (jP.o.trans (if_neg (by decide)));clear jP;by_cases h3:p=i
   ·have t3:(p==i)=true:=by simpa using h3
    have qp:=Hd (o8.o.trans (if_pos (.inl h3)));clear h3 o8 HW MK RQ HK;go_wp2_with (fail);go_ret2;rw[qp.o];exact⟨_,rfl,⟨_,_,rfl,aS.below HR.o HB2.o,HY.o.below HB2.o⟩,HB2.o⟩
   have t3:(p==i)=false:=by simpa using h3
   have H3:=Hd h3;clear h3;go_wp2_with (fail);refine(MK.o _ (aS.below HR.o HB2.o)).mono ?_;rintro e w3 ⟨rfl,hb3⟩;have HB3:=Hd (HB2.o.trans (hb3.mono HB2.o.size));clear hb3 HB2 MK t3;cases b3 with
   | true=>
    have qp:=Hd (o8.o.trans (if_pos (.inr rfl)));clear o8 HW RQ HK H3;go_wp2_with (fail);go_ret2;rw[qp.o];exact⟨_,rfl,⟨_,_,rfl,aS.below HR.o HB3.o,HY.o.below HB3.o⟩,HB3.o⟩
   | false=>
    have qp:=Hd (o8.o.trans (if_neg (by rintro(h|h);exact H3.o h;cases h)));clear o8 H3;go_wp2_with (fail);refine(RQ.o _ (aS.below HR.o HB3.o)).mono ?_;rintro e w4 ⟨v,rfl,hown,hb4⟩;have HB4:=Hd (HB3.o.trans (hb4.mono HB3.o.size));obtain⟨uA,uc,rfl,hur,-⟩:=aK.Ep hown;have HU:=Hd hur;clear hb4 hown hur RQ HB3;by_cases h5:n<0
    ·have t5:decide (n<0)=true:=decide_eq_true h5;have OU:=Hd (qp.o.trans (if_pos (.inl h5)));clear h5 qp HW HK;go_wp2_with (fail);go_ret2;rw[OU.o];exact⟨_,rfl,⟨_,_,rfl,aS.below HR.o HB4.o,HY.o.below HB4.o⟩,HB4.o⟩
    have t5:decide (n<0)=false:=decide_eq_false h5
    obtain⟨m,rfl⟩:∃m:Nat,n=m:=⟨n.toNat,by omega⟩
    clear h5;go_wp2_with (fail);refine(HK.o _ _ _ HU.o).mono ?_;rintro e w5 ⟨v,rfl,hown,hb5⟩;obtain⟨vA,vc,rfl,_,_,hrow⟩:=hown.kP;have gz:=Hd (HB4.o.trans (hb5.mono HB4.o.size));have Cj:Hid (l7 w5 uA u):=aS.below HU.o hb5;clear hb5 HK HB4 hown hrow t5 HU;by_cases h6:L.length<m
    ·have t6:decide (L.length<m)=true:=decide_eq_true h6;have OU:=Hd (qp.o.trans (if_pos (.inr (by omega))));clear h6 qp HW;go_wp2_with (fail);go_ret2;rw[OU.o];exact⟨_,rfl,⟨_,_,rfl,aS.below HR.o gz.o,HY.o.below gz.o⟩,gz.o⟩
    ·have t6:decide (L.length<m)=false:=decide_eq_false h6;have OU:=Hd (qp.o.trans (if_neg (by omega)));have HWW:=Hd (fun A c w hr=>HW.o A c m w hr (by have:=yz.o;omega));clear h6 qp HW;go_wp2_with (fail);refine(HWW.o _ _ _ Cj.o).mono ?_;rintro e w6 ⟨v,rfl,hown,hb6⟩;have uZ:=Hd (gz.o.trans (hb6.mono gz.o.size));have HO:=Hd (aK.Ep hown);clear hb6 hown HWW;go_wp2_with (fail);go_ret2;rw[OU.o];exact⟨_,rfl,HO.o,uZ.o⟩
def a3z(r:T×List Int×Int)(w:World)(e:Ending)(w':World):Prop:=∃v u,e=.returned (.tuple #[v,u,.int .i64 r.2.2])∧aK w' v r.1∧aO w' w.heap.size u r.2.1∧bz w w'
theorem a5k(tv:Value)(t:T)(i:Int)(w:World)(ok:Ok t)(hv:aK w tv t)(hn:t.length<=1000) :
  Calls prog 88 #[tv,.int .i64 i] w (a3z (jy t i) w):=by
 unfold a3z;obtain⟨A,c,rfl,hr,hy⟩:=hv;have HR:=Hd hr;have HY:=Hd hy;clear hy
 obtain⟨R,hR⟩:∃R,jy t i=R:=⟨_,rfl⟩
 have HQ:=Hd hR;rw[hR];have HN:=Hd hn;have dO:=Hd ok;clear hr hR ok hn;unfold jy at HQ;by_cases h1:i=0
 ·have t1:(i==0)=true:=by simpa using h1
  have jP:=Hd (HQ.o.symm.trans (if_pos h1));clear h1 HQ;go_enter func88,ntmps88;go_wp2_with (fail)
  go_ret3
  rw[jP.o];exact⟨_,_,rfl,⟨_,_,rfl,HR.o,HY.o⟩,ai.nil _ _,bR⟩
 have sW:=Hd (HQ.o.symm.trans (if_neg h1));have t1:(i==0)=false:=by simpa using h1
 have H0:=Hd h1;clear h1 HQ;have H1:=Hd (fun w hr=>VO A t c i w hr (by have:=HN.o;omega))
 obtain⟨b1,hb1⟩:∃b1,has t i=b1:=⟨_,rfl⟩
 have HB:=Hd hb1;rw[hb1] at H1 sW;clear hb1;go_enter func88,ntmps88;go_wp2_with (fail);refine(H1.o _ HR.o).mono ?_;rintro e w1 ⟨rfl,hb1⟩;have HB1:=Hd hb1;clear hb1 t1 H1;cases b1 with
 | false=>
  have jP:=Hd (sW.o.trans (if_pos rfl));clear sW;go_wp2_with (fail)
  go_ret3
  rw[jP.o];exact⟨_,_,rfl,⟨_,_,rfl,aS.below HR.o HB1.o,HY.o.below HB1.o⟩,ai.nil _ _,HB1.o⟩
 | true=>
  have jP:=Hd (sW.o.trans (if_neg (by decide)));have hi:i∈ids t:=(ah.1 HB.o).resolve_left H0.o;have HW:=Hd (fun w hr=>Oe A t c dO.o (by have:=HN.o;omega) (t.length+1) i w hr (.inr hi) (by omega));have HL:Hid ((aB.walk t i).length<=1001):=by have:=kS dO.o (.inr hi);have:=HN.o;show _<=_;omega
  rw[← wK] at jP;clear sW hi HB H0 dO;generalize aB.walk t i=G at *;go_wp2_with (fail);refine(HW.o _ (aS.below HR.o HB1.o)).mono ?_;rintro e w2 ⟨v,rfl,hown,hb2⟩;obtain⟨vA,vc,rfl,_,_,hrow⟩:=hown.kP;have HB2:=Hd (HB1.o.trans (hb2.mono HB1.o.size));have HG:=Hd hrow;have HOW:=Hd (ai.weaken hown HB1.o.size);clear hb2 HB1 hown hrow HW;go_wp2_with (fail)
  go_loopw [0,8] (fun v x wr=>∃k:Nat,k<=G.length∧x=.int .i64 k∧Hid (aK wr v ((G.take k).foldl (fun u g=>del g u) t))∧Hid (bz w2 wr)) (fun _ x _=>G.length - (intOf x).toNat)
  case atStart=>exact⟨0,Nat.zero_le _,rfl,⟨_,_,rfl,aS.below HR.o HB2.o,HY.o.below HB2.o⟩,bR⟩
  case round=>
   obtain⟨k,hk,rfl,HD,HB⟩:=hrel;by_cases hlt:k<G.length
   ·have t1:decide (k<G.length)=true:=by simpa using hlt
    obtain⟨b,o,rA,k1'⟩:=HG.o.in_ hlt;subst rA;have k1:=k1' _ HB.o;clear k1';unfold eI at k1
    have HS:Hid ((G.take (k+1)).foldl (fun u g=>del g u) t=del G[k] ((G.take k).foldl (fun u g=>del g u) t)):=by
     show _=_;rw[List.take_succ_eq_append_getElem hlt,List.foldl_append];rfl
    have HTL:Hid (((G.take k).foldl (fun u g=>del g u) t).length<=1000):=by
     rw[wK];exact Nat.le_trans (List.length_filter_le _ _) HN.o
    obtain⟨t1',ht1⟩:∃x,(G.take (k+1)).foldl (fun u g=>del g u) t=x:=⟨_,rfl⟩
    have HT1:=Hd ht1;rw[ht1] at HS;clear ht1;generalize (G.take k).foldl (fun u g=>del g u) t=tk at *;generalize G[k]=x at *;obtain⟨dA,dc,rfl,hdr,-⟩:=HD.o;have HC:=Hd (IG dA tk dc x wr hdr (by have:=HTL.o;omega));have hkb:(k:Int)<=10000:=by have:=HL.o;omega
    clear hdr HD;go_wp2_with (fail);refine HC.o.mono ?_;rintro e w3 ⟨v,rfl,hown,hb3⟩;have HB3:Hid (bz w2 w3):=HB.o.trans (hb3.mono HB.o.size);have HD3:Hid (aK w3 v t1'):=by rw[HS.o];exact aK.Ep hown
    clear hown hb3 HC;go_wp2_with (fail)
    go_roundw
    case rel=>exact⟨k+1,by omega,by go_num,by rw[HT1.o];exact HD3,HB3⟩
    case measure=>simp[intOf];omega
   ·obtain rfl:k=G.length:=by omega
    have hD:=HD.o;rw[List.take_length] at hD;have HD2:=Hd hD;have t1:decide (G.length<G.length)=false:=by simp
    clear hD HD;go_wp2_with (fail)
    go_ret3
    rw[jP.o];exact⟨_,_,rfl,HD2.o,ai.below HOW.o HB.o,HB2.o.trans (HB.o.mono HB2.o.size)⟩
end
section
open Go.RowKit Go.Maps omap Go.WideShapes
abbrev lt:Int->Int->Bool:=fun a b=>decide (a<b)
theorem ord:omap.Ord lt where
 irr a:=by simp
 tr a b c h1 h2:=by
  simp only[decide_eq_true_eq] at *;omega
 tot a b h1 h2:=by
  simp only[decide_eq_false_iff_not] at *;omega
def mO:Value->Option (DataW Unit×List MemPlace)
 | .pointer (some ⟨g,0,none⟩)=>some (.lit (.int .i64 (g:Int)),[])
 | .pointer none=>some (.nil,[])
 | _=>none
theorem Ei(g:Nat):mO (.pointer (some ⟨g,0,none⟩))=some (.lit (.int .i64 (g:Int)),[]):=rfl
theorem GZ{v:Value}{g:Nat}{ps:List MemPlace}(h:mO v=some (.lit (.int .i64 (g:Int)),ps)):v=.pointer (some ⟨g,0,none⟩):=by
 unfold mO at h;split at h
 ·simp only[Option.some.injEq,Prod.mk.injEq,DataW.lit.injEq,Lit.int.injEq,true_and] at h;have:=h.1
  congr
  omega
 ·simp at h
 ·cases h
theorem GY{v:Value}{ps:List MemPlace}(h:mO v=some (.nil,ps)):v=.pointer none:=by
 unfold mO at h;split at h
 ·simp at h
 ·rfl
 ·cases h
abbrev L:=List (Int×Nat)
def enc1(x:Int×Nat):Lit×DataW Unit:=(.int .i64 x.1,.lit (.int .i64 (x.2:Int)))
def mapOf(l:L):DataW Unit:=.map (l.map enc1)
theorem zu(l:L):Maps.size (mapOf l)=l.length:=by simp[mapOf,Maps.size]
theorem xG(x:Int×Nat)(k:Int):(enc1 x).1.sameKey (.int .i64 k)=decide (x.1=k):=by
 simp only[enc1,Lit.sameKey];exact Bool.eq_iff_iff.2 (by simp)
theorem uH(l:L)(k:Int):(l.map enc1).filter (fun p=>!p.1.sameKey (.int .i64 k))=(del k l).map enc1:=by
 unfold del;rw[List.filter_map]
 congr 1
 refine List.filter_congr fun x _=>?_;simp[xG]
theorem uu(k:Int)(g:Nat):∀l:L,DataW.insert (enc1 (k,g)) (l.map enc1)=(ins lt k g l).map enc1
 | []=>rfl
 | y::l=>by
  unfold ins;rw[List.map_cons,DataW.insert];have:(enc1 (k,g)).1.before (enc1 y).1=lt k y.1:=rfl;rw[this];split
  ·rfl
  ·rw[uu k g l,List.map_cons]
theorem QR(l:L)(k:Int):(mapOf l).del (.int .i64 k)=mapOf (del k l):=by
 unfold mapOf DataW.del;simp only[uH]
theorem PI(l:L)(k:Int)(g:Nat):(mapOf l).put (.int .i64 k) (.lit (.int .i64 (g:Int)))=mapOf (put lt k g l):=by
 unfold mapOf DataW.put;simp only[uH];rw[show((Lit.int .i64 k,DataW.lit (Lit.int IntKind.i64 (g:Int))):Lit×DataW Unit)=enc1 (k,g) from rfl,uu];rfl
theorem I4(l:L)(k:Int):(mapOf l).atKey (.int .i64 k) .nil=match omap.look l k with|some g=>.lit (.int .i64 (g:Int))|none=>.nil:=by
 induction l with
 | nil=>rfl
 | cons x l ih=>
  unfold mapOf DataW.atKey at ih ⊢;rw[dQ];simp only[List.map_cons,List.find?_cons,xG] at ih ⊢;by_cases h:x.1=k
  ·simp[h,enc1]
  ·simp only[h,decide_false,if_false];exact ih
structure MapAt(w:World)(m:Nat)(l:L):Prop where
 rises:mZ lt l
 own:w.ownsMap prog 3 mO m l.length (mapOf l)
 few:l.length<=1073741824
theorem oM:Keyed prog 3:=int_keyed underlying3
theorem Nr(w:World):(zeroValue 183).run prog w=.ok (.pointer none) w:=by kernel_rfl
def ptrTo:Option Nat->Value
 | some g=>.pointer (some ⟨g,0,none⟩)
 | none=>.pointer none
section
variable {w w':World}{m:Nat}{l:L}
theorem MapAt.inside(h:MapAt w m l):m<w.heap.size:=h.own.lt
theorem MapAt.stays(h:MapAt w m l)(hb:w'.heap[m]?=w.heap[m]?):MapAt w' m l:=by
 obtain⟨es,clock,h1,h2⟩:=h.own;exact⟨h.rises,⟨es,clock,hb.trans h1,h2⟩,h.few⟩
theorem rZ{i:Int}(hi:I64 i):keyOf prog 3 (.int .i64 i)=some (.int .i64 i):=Go.Maps.keyOf_int_mk underlying3 (by
 obtain⟨h1,h2⟩:=hi;simp only[Lit.wf];rw[Bool.and_eq_true,decide_eq_true_eq,decide_eq_true_eq]
 exact⟨h1,h2⟩)
theorem MapAt.lookup(h:MapAt w m l){i:Int}(hs:I64 i) :
  (Instr.lookup 187 (.map (some m)) (.int .i64 i) false).run prog w=.ok (ptrTo (omap.look l i)) w:=by
 obtain⟨v,ps,hrun,hv⟩:=h.own.lookup oM underlying187 (Nr w) (zd:=.nil) (zp:=[]) rfl (rZ hs);rw[hrun];rw[I4] at hv;cases hl:omap.look l i with
 | none=>rw[hl] at hv;rw[GY hv];rfl
 | some g=>rw[hl] at hv;rw[GZ hv];rfl
theorem MapAt.len(h:MapAt w m l)(ty:TypeId):(Builtin.len_ #[187] ty #[.map (some m)]).run prog w=.ok (.int .i64 (l.length:Nat)) w:=by
 rw[h.own.len underlying187 ty,zu]
theorem again{w:World}{m n:Nat}{l:L}(h:w.ownsMap prog 3 mO m n (mapOf l)):w.ownsMap prog 3 mO m l.length (mapOf l):=by
 obtain⟨es,clock,h1,h2,_,h4⟩:=h;refine⟨es,clock,h1,h2,?_,h4⟩;have e:Maps.size (mapOf l)=es.size:=by rw[h4];simp[Maps.size,length_sorted]
 rw[zu] at e;omega
theorem MapAt.store(h:MapAt w m l){i:Int}(hs:I64 i)(g:Nat)(hn:(put lt i g l).length<=1073741824) :
  ∃w',(Instr.mapUpdate 187 (.map (some m)) (.int .i64 i) (.pointer (some ⟨g,0,none⟩))).run prog w=.ok () w'∧MapAt w' m (put lt i g l)∧w.grownBy w' (some m):=by
 obtain⟨w',hrun,ho,hg⟩:=h.own.update oM underlying187 (by have:=h.few;unfold maxLen;omega) (rZ hs) (Ei g);rw[PI] at ho;exact⟨w',hrun,⟨Df ord h.rises,again ho,hn⟩,hg⟩
theorem MapAt.drop(h:MapAt w m l){i:Int}(hs:I64 i)(ty:TypeId) :
  ∃w',(Builtin.delete_ #[187,3] ty #[.map (some m),.int .i64 i]).run prog w=.ok (.tuple #[]) w'∧MapAt w' m (del i l)∧w.grownBy w' (some m):=by
 obtain⟨w',hrun,ho,hg⟩:=h.own.drop oM underlying187 (rZ hs) ty;rw[QR] at ho;exact⟨w',hrun,⟨vO h.rises,again ho,Nat.le_trans (List.length_filter_le _ _) h.few⟩,hg.grown⟩
end
theorem Kw(w:World):MapAt (w.alloc (.map #[] 0)) w.heap.size []:=
 ⟨List.Pairwise.nil,World.ownsMap_made _ _ _ _,by simp⟩
end
section
open Go.RowKit aB
abbrev bF:=Nat->Prop
structure ae(S S':bF)(w w':World):Prop where
 os:w'.os=w.os
 tape:w'.tape=w.tape
 output:w'.output=w.output
 size:w.heap.size<=w'.heap.size
 far:∀k,k<w.heap.size->¬S k->¬S' k∧w'.heap[k]?=w.heap[k]?
theorem ae.refl(S:bF)(w:World):ae S S w w:=⟨rfl,rfl,rfl,nR,fun _ _ h=>⟨h,rfl⟩⟩
theorem ae.trans{S S' S'':bF}{w w' w'':World}(h:ae S S' w w')(k:ae S' S'' w' w''):ae S S'' w w'':=
 ⟨k.os.trans h.os,k.tape.trans h.tape,k.output.trans h.output,Nat.le_trans h.size k.size,fun j hj hn=>by
  obtain⟨h1,h2⟩:=h.far j hj hn;obtain⟨k1,k2⟩:=k.far j (Nat.lt_of_lt_of_le hj h.size) h1
  exact⟨k1,k2.trans h2⟩⟩
theorem ae.below{S:bF}{w w':World}(hb:bz w w'):ae S S w w':=⟨hb.os,hb.tape,hb.output,hb.size,fun k hk hn=>⟨hn,hb.block k hk⟩⟩
theorem ae.aP{S S':bF}{w w':World}{B:Nat}(h:ae S S' w w')(hB:B<=w.heap.size)(hS:∀g,S g->B<=g):Below B w w':=
 ⟨h.os,h.tape,h.output,h.size,fun k hk=>(h.far k (by omega) (fun e=>by have:=hS k e;omega)).2⟩
theorem ae.set{S:bF}{w:World}{a:Addr}(h:S a.block)(u:Value):ae S S w (w.setCell a u):=
 ⟨rfl,rfl,rfl,by simp[World.setCell],fun k _ hn=>⟨hn,heap_setCell_other _ _ _ _ (fun e=>hn (e ▸ h))⟩⟩
theorem ae.grown{S:bF}{w w':World}{row:Option Nat}(hg:w.grownBy w' row)(hr:∀k,row=some k->S k):ae S S w w':=
 ⟨hg.os,hg.tape,hg.output,hg.size,fun k hk hn=>⟨hn,hg.block k hk (fun e=>hn (hr k e.symm))⟩⟩
theorem ae.sub{S S' S2:bF}{w w':World}(h:ae S S' w w')(hs:∀k,S2 k->S' k∨(w.heap.size<=k)):ae S S2 w w':=
 ⟨h.os,h.tape,h.output,h.size,fun k hk hn=>⟨fun e=>by
  rcases hs k e with h1|h1
  ·exact(h.far k hk hn).1 h1
  ·omega,(h.far k hk hn).2⟩⟩
theorem ae.more{S S' S2:bF}{w w':World}(h:ae S S' w w')(hs:∀k,S k->S2 k):ae S2 (fun k=>S2 k∨S' k) w w':=
 ⟨h.os,h.tape,h.output,h.size,fun k hk hn=>by
  have h1:=h.far k hk (fun e=>hn (hs k e))
  exact⟨fun e=>e.elim hn h1.1,h1.2⟩⟩
def ak(w:World)(g:Nat)(cs:List Value)(T:TypeId):Prop:=w.heap[g]?=some (.cells cs.toArray T (0,0))
section
variable {w w':World}{g:Nat}{cs:List Value}{T:TypeId}
theorem ak.blk(h:ak w g cs T):ax w g cs:=⟨T,h⟩
theorem ak.inside(h:ak w g cs T):g<w.heap.size:=lt_of_block h
theorem ak.stays(h:ak w g cs T)(hb:w'.heap[g]?=w.heap[g]?):ak w' g cs T:=hb.trans h
theorem ak.new(w:World)(cs:List Value)(T:TypeId):ak (w.alloc (.cells cs.toArray T)) w.heap.size cs T:=heap_alloc_new w _
theorem ak.set(h:ak w g cs T)(i:Nat)(u:Value):ak (w.setCell ⟨g,i,none⟩ u) g (cs.set i u) T:=by
 obtain⟨T',h'⟩:=h.blk.set i u;have hlt:=h.inside;have e:w.heap[g]=.cells cs.toArray T (0,0):=by simpa[ak,Array.getElem?_eq_getElem hlt] using h
 show(w.heap.modify g _)[g]?=_;rw[Array.getElem?_eq_getElem (by simpa using hlt),Array.getElem_modify_self,e];simp
end
abbrev mM:TypeId:=186
abbrev iY:TypeId:=183
abbrev zk:TypeId:=189
def kc(o:Option Nat):List Value:=[ptrTo o]
theorem UD(o:Option Nat):(kc o).length=1:=rfl
theorem UC(o:Option Nat):∀u∈kc o,u.oneCell'=true:=by
 intro u hu;simp only[kc,List.mem_singleton] at hu;subst hu;cases o<;>rfl
theorem Ob(l:List (Option Nat)):l.flatMap kc=l.map ptrTo:=by
 induction l with
 | nil=>rfl
 | cons x l ih=>rw[List.flatMap_cons,ih,List.map_cons];rfl
abbrev oq(w:World)(v:Value)(l:List (Option Nat)):Prop:=ai iY 1 kc w 0 v l
theorem oq.typed{w:World}{v:Value}{l:List (Option Nat)}(h:oq w v l){g:Nat}(hg:v.ownBlock=some g):∃cur fr,w.heap[g]?=some (.cells cur iY fr):=by
 rcases h.2 with ⟨rfl,h0⟩|⟨g',cap,cur,rfl,_,hb,_⟩
 ·cases hg
 ·obtain rfl:g'=g:=Option.some.inj hg;exact⟨cur,_,hb⟩
theorem oq.dP{w:World}{v:Value}{l:List (Option Nat)}(h:oq w v l){g:Nat}(hg:v.ownBlock=some g){cs:List Value}{T:TypeId}(hb:ak w g cs T)(hT:T≠iY):False:=by
 obtain⟨cur,fr,h1⟩:=h.typed hg;have:=hb.symm.trans h1;simp only[Option.some.injEq,Obj.cells.injEq] at this;exact hT this.2.1
theorem MapAt.dP{w:World}{m:Nat}{es:L}(h:MapAt w m es){cs:List Value}{T:TypeId}(hb:ak w m cs T):False:=by
 obtain⟨es',clock,h1,_⟩:=h.own;have:=hb.symm.trans h1;cases this
theorem MapAt.Es{w:World}{m:Nat}{es:L}(h:MapAt w m es){v:Value}{l:List (Option Nat)}(hk:oq w v l)(hg:v.ownBlock=some m):False:=by
 obtain⟨es',clock,h1,_⟩:=h.own;obtain⟨cur,fr,h2⟩:=hk.typed hg;have:=h2.symm.trans h1;cases this
structure Sh where
 m:Nat
 g:Int->Nat
 v:Int->Value
def ks(s:Sh)(l:List Int):List (Option Nat):=l.map fun k=>some (s.g k)
structure qj(w:World)(g:Nat)(i:Int)(p:Option Nat)(v:Value)(l:List (Option Nat)):Prop where
 blk:ak w g [.int .i64 i,ptrTo p,v] mM
 own:oq w v l
def jG(b:Nat)(s:Sh)(H:Int->Prop):bF:=fun k=>k=b∨k=s.m∨∃i,H i∧(k=s.g i∨(s.v i).ownBlock=some k)
structure Raw(w:World)(b:Nat)(s:Sh)(H:Int->Prop)(P:Int->Option Int)(K:Int->List Int):Prop where
 blk:ak w b [.map (some s.m)] zk
 map:∃es,MapAt w s.m es∧∀i g,omap.look es i=some g↔H i∧s.g i=g
 node:∀i,H i->qj w (s.g i) i ((P i).map s.g) (s.v i) (ks s (K i))
 inj:∀i j,H i->H j->s.g i=s.g j->i=j
 apart:∀i j k,H i->H j->(s.v i).ownBlock=some k->(s.v j).ownBlock=some k->i=j
section
variable {w w':World}{b:Nat}{s:Sh}{H:Int->Prop}{P:Int->Option Int}{K:Int->List Int}
theorem qj.stays{g:Nat}{i:Int}{p:Option Nat}{v:Value}{l:List (Option Nat)}(h:qj w g i p v l)(h1:w'.heap[g]?=w.heap[g]?)(h2:∀k,v.ownBlock=some k->w'.heap[k]?=w.heap[k]?):qj w' g i p v l:=
 ⟨h.blk.stays h1,h.own.stays h2⟩
theorem Raw.inside(h:Raw w b s H P K):∀k,jG b s H k->k<w.heap.size:=by
 rintro k (rfl|rfl|⟨i,hi,rfl|hk⟩)
 ·exact h.blk.inside
 ·obtain⟨es,hm,_⟩:=h.map;exact hm.inside
 ·exact(h.node i hi).blk.inside
 ·exact(ai.block (h.node i hi).own hk).2
theorem Raw.stays(h:Raw w b s H P K)(hb:∀k,jG b s H k->w'.heap[k]?=w.heap[k]?):Raw w' b s H P K:=by
 refine⟨h.blk.stays (hb _ (.inl rfl)),?_,fun i hi=>(h.node i hi).stays (hb _ (.inr (.inr ⟨i,hi,.inl rfl⟩))) fun k hk=>hb _ (.inr (.inr ⟨i,hi,.inr hk⟩)),h.inj,h.apart⟩;obtain⟨es,hm,hl⟩:=h.map;exact⟨es,hm.stays (hb _ (.inr (.inl rfl))),hl⟩
theorem Raw.below(h:Raw w b s H P K)(hb:bz w w'):Raw w' b s H P K:=h.stays fun k hk=>hb.block k (h.inside k hk)
theorem Raw.look(h:Raw w b s H P K){i:Int}(hi:I64 i) :
  ∃o:Option Nat,(Instr.lookup 187 (.map (some s.m)) (.int .i64 i) false).run prog w=.ok (ptrTo o) w∧(∀g,o=some g↔H i∧s.g i=g):=by
 obtain⟨es,hm,hl⟩:=h.map;exact⟨_,hm.lookup hi,hl i⟩
theorem Raw.gW(h:Raw w b s H P K){i:Int}(hi:I64 i)(hh:H i) :
  (Instr.lookup 187 (.map (some s.m)) (.int .i64 i) false).run prog w=.ok (.pointer (some ⟨s.g i,0,none⟩)) w:=by
 obtain⟨o,h1,h2⟩:=h.look hi;rw[(h2 (s.g i)).2 ⟨hh,rfl⟩] at h1;exact h1
theorem Raw.eY(h:Raw w b s H P K){i:Int}(hi:I64 i)(hh:¬H i) :
  (Instr.lookup 187 (.map (some s.m)) (.int .i64 i) false).run prog w=.ok (.pointer none) w:=by
 obtain⟨o,h1,h2⟩:=h.look hi;cases o with
 | none=>exact h1
 | some g=>exact absurd ((h2 g).1 rfl).1 hh
theorem Raw.cells(h:Raw w b s H P K){i:Int}(hi:H i):(w.cell? ⟨s.g i,0,none⟩=some (.int .i64 i)∧w.cell? ⟨s.g i,1,none⟩=some (ptrTo ((P i).map s.g))∧w.cell? ⟨s.g i,2,none⟩=some (s.v i)) ∧
  (w.frozen? ⟨s.g i,0,none⟩=false∧w.frozen? ⟨s.g i,1,none⟩=false∧w.frozen? ⟨s.g i,2,none⟩=false)∧s.g i<w.heap.size:=by
 have:=(h.node i hi).blk.blk;exact⟨⟨this.cell 0,this.cell 1,this.cell 2⟩,⟨this.free 0,this.free 1,this.free 2⟩,this.inside⟩
theorem Raw.top(h:Raw w b s H P K):w.cell? ⟨b,0,none⟩=some (.map (some s.m))∧b<w.heap.size:=⟨h.blk.blk.cell 0,h.blk.inside⟩
end
def BM(t:T)(i:Int):Option Int:=if i=0 then none else some (par t i)
abbrev dZ(t:T):Int->Prop:=fun i=>has t i=true
abbrev a3A(w:World)(b:Nat)(s:Sh)(t:T):Prop:=Raw w b s (dZ t) (BM t) (kids t)
structure aX(w:World)(b:Nat)(s:Sh)(t:T):Prop where
 raw:a3A w b s t
 ok:Ok t
abbrev fP(b:Nat)(s:Sh)(t:T):bF:=jG b s (dZ t)
theorem aX.below{w w':World}{b:Nat}{s:Sh}{t:T}(h:aX w b s t)(hb:bz w w'):aX w' b s t:=⟨h.raw.below hb,h.ok⟩
theorem aX.stays{w w':World}{b:Nat}{s:Sh}{t:T}(h:aX w b s t)(hb:∀k,fP b s t k->w'.heap[k]?=w.heap[k]?):aX w' b s t:=⟨h.raw.stays hb,h.ok⟩
theorem qF{t:T}(ok:Ok t){i:Int}(h:¬has t i=true):kids t i=[]:=by
 have h1:=yJ h;rw[List.eq_nil_iff_forall_not_mem];intro k hk;have:=ok.pin _ (gu.1 hk);simp only at this;exact this.elim h1.1 h1.2
end
section
open Go.RowKit aB
theorem Wv{l:List Int}{P:Int->Bool}{k:Nat}(hk:k<l.length)(h:(l.take k).all P=true)(h1:P l[k]=true):(l.take (k+1)).all P=true:=by
 rw[List.take_succ_eq_append_getElem hk,List.all_append,h];simp[h1]
theorem Y7{l:List Int}{P:Int->Bool}{k:Nat}(hk:k<l.length)(h1:P l[k]=false):l.all P=false:=by
 rw[List.all_eq_false];exact⟨l[k],List.getElem_mem hk,by simp[h1]⟩
section
variable {w:World}{b:Nat}{s:Sh}{t:T}
theorem a0B(h:aX w b s t)(A:Option Addr)(l:List Int)(c:Nat)(hr:Row eI w A l)(hi:∀x∈l,I64 x)(hn:l.length<=100000) :
  Calls prog 191 #[.pointer (some ⟨b,0,none⟩),.slice A l.length c] w fun e w'=>e=.returned (.bool (l.all (has t)))∧bz w w':=by
 obtain⟨c0,bi⟩:=h.raw.top;have HRW:=Hd h.raw;have HR:=Hd hr;have HI:=Hd hi;have HN:=Hd hn;clear h hr hi hn;go_enter func191,ntmps191;go_wp2_with (fail)
 go_loopw [9] (fun x wr=>∃k:Nat,k<=l.length∧x=.int .i64 k∧Hid ((l.take k).all (has t)=true)∧Hid (wr=w)) (fun x _=>l.length - (intOf x).toNat)
 case atStart=>exact⟨0,Nat.zero_le _,rfl,by show _=_;simp,rfl⟩
 case round=>
  obtain⟨k,hk,rfl,HK,HW⟩:=hrel;obtain rfl:=HW.o;by_cases hlt:k<l.length
  ·have t1:decide (k<l.length)=true:=by simpa using hlt
   obtain⟨b2,o2,rfl,k1⟩:=HR.o.at_ hlt;have HS:=Hd (Wv (P:=has t) hlt HK.o);have HT:=Hd (Y7 (P:=has t) hlt);have hix:=HI.o _ (List.getElem_mem hlt);have HB:=Hd (show k<=100000 by have:=HN.o;omega);generalize l[k]=x at *;unfold eI at k1;by_cases hx:has t x=true
   ·have hlk:=HRW.o.gW hix hx;have HS2:=Hd (HS.o hx);have hkb:(k:Int)<=100000:=by have:=HB.o;omega
    clear HS HT hx hix HB;go_wp2_with (fail)
    go_roundw
    case rel=>exact⟨k+1,by omega,by go_num,HS2,by trivial⟩
    case measure=>simp[intOf];omega
   ·have hlk:=HRW.o.eY hix hx;have HT2:=Hd (HT.o (by simpa using hx));have hkb:(k:Int)<=100000:=by have:=HB.o;omega
    clear HS HT hx hix HB;go_wp2_with (fail);go_ret;exact⟨aC HT2.o.symm,bR⟩
  ·obtain rfl:k=l.length:=by omega
   have HF:Hid (l.all (has t)=true):=by have h:=HK.o;rw[List.take_length] at h;exact h
   have t1:decide (l.length<l.length)=false:=by simp
   go_wp2_with (fail);go_ret;exact⟨aC HF.o.symm,bR⟩
theorem fH{i:Int}(h0:i≠0):BM t i=some (par t i):=if_neg h0
theorem y8:BM t 0=none:=rfl
theorem TY(ok:Ok t):par t 0=-1:=par_none fun h=>ok.vV h rfl
theorem yG(h:aX w b s t)(i:Int)(hi:I64 i) :
  Calls prog 194 #[.pointer (some ⟨b,0,none⟩),.int .i64 i] w fun e w'=>e=.returned (.int .i64 (par t i))∧bz w w':=by
 obtain⟨c0,bi⟩:=h.raw.top;by_cases hx:has t i=true
 ·have hlk:=h.raw.gW hi hx;obtain⟨⟨n0,n1,n2⟩,-,ni⟩:=h.raw.cells (i:=i) hx;by_cases h0:i=0
  ·subst h0;have HQ:=Hd (TY h.ok);rw[y8] at n1;simp only[Option.map_none,ptrTo] at n1;clear h hi hx n0 n2;go_enter func194,ntmps194;go_wp2_with (fail);go_ret;exact⟨az HQ.o.symm,bR⟩
  ·rw[fH h0] at n1;have hp:dZ t (par t i):=ah.2 (h.ok.eX ((ah.1 hx).resolve_left h0));obtain⟨⟨m0,-,-⟩,-,mi⟩:=h.raw.cells hp;simp only[Option.map_some,ptrTo] at n1;clear h hi hx n0 n2 h0 hp;go_enter func194,ntmps194;go_wp2_with (fail);go_ret;exact⟨rfl,bR⟩
 ·have hlk:=h.raw.eY hi hx;have HQ:=Hd (par_none (yJ hx).2);clear h hi hx;go_enter func194,ntmps194;go_wp2_with (fail);go_ret;exact⟨az HQ.o.symm,bR⟩
end
end
section
open Go.RowKit aB
theorem Hy(z:Value)(n:Nat)(hz:z.cells=#[z]):madeCells z.cells n=(List.replicate n z).toArray:=by
 rw[hz];apply Array.ext
 ·rw[size_madeCells];simp
 ·intro i h1 h2;simp[madeCells,Nat.mod_one]
theorem Us(w:World)(n:Nat)(hn:n<=20000000):(Instr.makeSlice 116 (.int .i64 (n:Nat)) (.int .i64 (n:Nat))).run prog w=.ok (.slice (some ⟨w.heap.size,0,none⟩) n n) (w.alloc (.cells ((List.replicate n 0).map eI).toArray 3)):=by
 obtain⟨i,hi,hz,hsize,hby⟩:=info_parts kJ;have h:=run_make (P:=prog) w 116 3 i (.int .i64 0) underlying116 hi hz .i64 .i64 n n (by omega) (by omega) (by rw[hby];omega) (by omega);rw[hsize,Int.toNat_natCast,Nat.mul_one,Hy _ _ rfl] at h;rw[List.map_replicate];exact h
def uI{α:Type}(z:α)(L:List α)(k:Nat):List α:=L.take k++List.replicate (L.length - k) z
theorem QE{α:Type}(z:α)(L:List α):uI z L L.length=L:=by simp[uI]
theorem QD{α:Type}(z:α)(L:List α){k:Nat}(hk:k<L.length):(uI z L k).set k L[k]=uI z L (k+1):=by
 unfold uI;rw[List.set_append_right _ _ (by rw[List.length_take];omega),List.length_take,Nat.min_eq_left (Nat.le_of_lt hk),Nat.sub_self,show L.length - k=(L.length - (k+1))+1 by omega,List.replicate_succ,List.set_cons_zero,List.take_succ_eq_append_getElem hk,List.append_assoc];rfl
theorem aO.a0M{w:World}{base g:Nat}{l:List Int}(h:ak w g (l.map eI) 3)(hb:base<=g)(hm:l.length<=100000):aO w base (.slice (some ⟨g,0,none⟩) l.length l.length) l:=by
 have e:∀l:List Int,l.flatMap ic=l.map eI:=fun l=>by
  induction l with
  | nil=>rfl
  | cons x l ih=>rw[List.flatMap_cons,ih,List.map_cons];rfl
 show World.ownsRow _ _ _ _ _ _ _;rw[e];refine⟨by simp,.inr ⟨g,l.length,_,rfl,hb,h,nR,by unfold maxLen;omega,by simp,?_⟩⟩;simp[List.take_of_length_le]
section
variable {w:World}{b:Nat}{s:Sh}{t:T}
theorem oq.at_{v:Value}{l:List (Option Nat)}(h:oq w v l):∃A c,v=.slice A l.length c∧l.length<=c∧c<=maxLen∧∀j (hj:j<l.length),∃g,A=some ⟨g,0,none⟩∧v.ownBlock=some g∧w.cell? ⟨g,j,none⟩=some (ptrTo l[j]):=by
 obtain⟨A,c,e,h1,h2,hr⟩:=ai.row h UD;refine⟨A,c,e,h1,h2,fun j hj=>?_⟩;subst e;rcases h.2 with ⟨e,_⟩|⟨g',cap,cur,e,hg,hb,_⟩
 ·injection e with e1 e2 _
  omega
 ·injection e with e1 _ _
  subst e1;obtain⟨g,off,e,hc⟩:=hr (by omega)
  injection e with e
  injection e with e2 e3 _
  subst e2 e3;have:=hc j hj 0 _ rfl;rw[Nat.mul_one,Nat.add_zero,Nat.zero_add] at this;exact⟨_,rfl,rfl,this⟩
theorem KG(s:Sh)(l:List Int){j:Nat}(hj:j<(ks s l).length):(ks s l)[j]=some (s.g (l[j]'(by unfold ks at hj;simpa using hj))):=by
 simp[ks]
theorem jU(s:Sh)(l:List Int):(ks s l).length=l.length:=List.length_map _
theorem Tu(h:aX w b s t)(hn:t.length<=10000)(i:Int)(hi:I64 i) :
  Calls prog 192 #[.pointer (some ⟨b,0,none⟩),.int .i64 i] w (oh (kids t i) w):=by
 unfold oh;obtain⟨c0,bi⟩:=h.raw.top;by_cases hx:has t i=true
 ·have hlk:=h.raw.gW hi hx;obtain⟨⟨n0,n1,n2⟩,-,ni⟩:=h.raw.cells (i:=i) hx;obtain⟨A,c,hv,hc1,hc2,hat⟩:=(h.raw.node i hx).own.at_;rw[jU] at hv hc1;rw[hv] at n2
  have HAT:Hid (∀j (hj:j<(kids t i).length),∃g,A=some ⟨g,0,none⟩∧∀W,bz w W->W.cell? ⟨g,j,none⟩=some (.pointer (some ⟨s.g (kids t i)[j],0,none⟩))∧W.cell? ⟨s.g (kids t i)[j],0,none⟩=some (.int .i64 (kids t i)[j])∧s.g (kids t i)[j]<W.heap.size):=by
   intro j hj;obtain⟨g,e,-,hcell⟩:=hat j (by rw[jU];exact hj);rw[KG] at hcell;have hk:dZ t (kids t i)[j]:=ah.2 (.inr (h.ok.kid (List.getElem_mem hj)).1);obtain⟨⟨m0,-,-⟩,-,mi⟩:=h.raw.cells hk;refine⟨g,e,fun W hb=>⟨?_,?_,Nat.lt_of_lt_of_le mi hb.size⟩⟩
   ·exact(hb.cell (World.block_lt_of_cell? w ⟨g,j,none⟩ hcell)).trans hcell
   ·exact(hb.cell (World.block_lt_of_cell? w ⟨_,0,none⟩ m0)).trans m0
  have HL:Hid ((kids t i).length<=10000):=Nat.le_trans (fU t i) hn
  obtain⟨L,hL⟩:∃L,kids t i=L:=⟨_,rfl⟩
  have hB:∀o,w.cell? ⟨s.g i,2,none⟩=some o->∀W,bz w W->W.cell? ⟨s.g i,2,none⟩=some o:=fun o e W hb=>(hb.cell (World.block_lt_of_cell? w ⟨_,2,none⟩ n2)).trans e;rw[hL] at n2 HAT HL ⊢;have hmk:=Us w L.length (by have:=HL.o;omega);have hw0:bz w (w.alloc (.cells ((List.replicate L.length 0).map eI).toArray 3)):=bR.alloc nR _;have HB0:=Hd hw0;have HF0:Hid (ak (w.alloc (.cells ((List.replicate L.length 0).map eI).toArray 3)) w.heap.size ((uI 0 L 0).map eI) 3):=ak.new w _ _
  generalize hz:((List.replicate L.length 0).map eI).toArray=zs at hmk hw0 HB0 HF0;have n2':=hB _ n2 _ HB0.o;have ni':s.g i<(w.alloc (.cells zs 3)).heap.size:=Nat.lt_of_lt_of_le ni hw0.size;clear h hi hx n0 n1 hv hc1 hc2 hat hL hw0 hz hB hn;go_enter func192,ntmps192;go_wp2_with (fail)
  go_loopw [28] (fun x wr=>∃k:Nat,k<=L.length∧x=.int .i64 k∧Hid (ak wr w.heap.size ((uI 0 L k).map eI) 3)∧Hid (bz w wr)) (fun x _=>L.length - (intOf x).toNat)
  case atStart=>exact⟨0,Nat.zero_le _,rfl,HF0,HB0⟩
  case round=>
   obtain⟨k,hk,rfl,HF,HB⟩:=hrel;by_cases hlt:k<L.length
   ·have t1:decide (k<L.length)=true:=by simpa using hlt
    obtain⟨g,rfl,hall⟩:=HAT.o k hlt;obtain⟨k1,k2,k3⟩:=hall _ HB.o;have fr:=HF.o.blk.free k;have hsz:=HF.o.inside
    have hcc:wr.cell? ⟨w.heap.size,k,none⟩=some (.int .i64 0):=by
     rw[HF.o.blk.cell k,List.getElem?_map];unfold uI;rw[List.getElem?_append_right (by rw[List.length_take];omega),List.length_take,Nat.min_eq_left hk,Nat.sub_self,List.getElem?_replicate,if_pos (by omega)];rfl
    have HF1:Hid (ak (wr.setCell ⟨w.heap.size,k,none⟩ (.int .i64 L[k])) w.heap.size ((uI 0 L (k+1)).map eI) 3):=by
     have:=HF.o.set k (.int .i64 L[k]);rw[← QD 0 L hlt,List.map_set];exact this
    have HB1:Hid (bz w (wr.setCell ⟨w.heap.size,k,none⟩ (.int .i64 L[k]))):=dF HB.o nR;have hkb:(k:Int)<=10000:=by have:=HL.o;omega
    generalize L[k]=x at *;clear hall HF HB;go_wp2_with (fail)
    go_roundw
    case rel=>exact⟨k+1,by omega,by go_num,HF1,HB1⟩
    case measure=>simp[intOf];omega
   ·obtain rfl:k=L.length:=by omega
    have t1:decide (L.length<L.length)=false:=by simp
    have hF:=HF.o;rw[QE] at hF;have HF2:=Hd (aO.a0M hF nR (by have:=HL.o;omega));clear hF HF;go_wp2_with (fail);go_ret;exact⟨_,rfl,HF2.o,HB.o⟩
 ·have hlk:=h.raw.eY hi hx;have HQ:=Hd (qF h.ok hx);clear h hi hx;go_enter func192,ntmps192;go_wp2_with (fail);go_ret;rw[HQ.o];exact⟨_,rfl,ai.nil _ _,bR⟩
end
end
section
open Go.RowKit aB
section
variable {w:World}{b:Nat}{s:Sh}{t:T}
theorem Dk:(prog.info? 186).map (fun i=>(i.zero,i.size,i.bytes))=some (some (.agg #[.int .i64 0,.pointer none,.slice none 0 0]),3,40):=by kernel_rfl
theorem uf(w:World)(a:Nat):(binOp .eql 183 (.pointer (some ⟨a,0,none⟩)) (.pointer (some ⟨a,0,none⟩))).run prog w=.ok (.bool true) w:=by
 obtain⟨i,hi,hz,hsize,hby⟩:=info_parts Dk;exact run_eql_ptr_same w _ underlying183 hi
theorem qB{w:World}{a b:Nat}{ca cb:List Value}{ta tb:TypeId}(ha:ak w a ca ta)(hb:ak w b cb tb)(hne:a≠b):(binOp .eql 183 (.pointer (some ⟨a,0,none⟩)) (.pointer (some ⟨b,0,none⟩))).run prog w=.ok (.bool false) w:=by
 obtain⟨i,hi,hz,hsize,hby⟩:=info_parts Dk;exact run_eql_ptr_other w underlying183 hi (by rw[hsize];decide) (fun e=>hne (by injection e)) ha hb
theorem es_len{es:L}(hr:omap.mZ lt es)(ok:Ok t)(hl:∀i g,omap.look es i=some g↔dZ t i∧s.g i=g):es.length=t.length+1:=by
 have n1:(es.map (·.1)).Nodup:=by
  rw[List.Nodup,List.pairwise_map]
  exact hr.imp fun h e=>by
   simp only[decide_eq_true_eq] at h;omega
 have n2:(0::ids t).Nodup:=List.nodup_cons.2 ⟨fun h=>ok.vV h rfl,ok.nd⟩
 have m1:∀x∈es.map (·.1),x∈(0::ids t:List Int):=by
  intro x hx;obtain⟨⟨a,g⟩,hm,rfl⟩:=List.mem_map.1 hx;have:=(hl a g).1 (omap.mZ.xK ord hr hm);exact List.mem_cons.2 (ah.1 this.1)
 have m2:∀x∈(0::ids t:List Int),x∈es.map (·.1):=by
  intro x hx;have:=(hl x (s.g x)).2 ⟨ah.2 (List.mem_cons.1 hx),rfl⟩;exact List.mem_map.2 ⟨_,omap.Uu this,rfl⟩
 have h1:=dI n1 m1;have h2:=dI n2 m2;rw[List.length_map] at h1 h2;unfold ids at h1 h2;rw[List.length_cons,List.length_map] at h1 h2;omega
theorem aX.maplen(h:aX w b s t)(ty:TypeId):(Builtin.len_ #[187] ty #[.map (some s.m)]).run prog w=.ok (.int .i64 ((t.length+1:Nat):Int)) w:=by
 obtain⟨es,hm,hl⟩:=h.raw.map;rw[hm.len ty,es_len hm.rises h.ok hl]
theorem a4O(h:aX w b s t):Calls prog 193 #[.pointer (some ⟨b,0,none⟩)] w fun e w'=>e=.returned (.int .i64 ((t.length+1:Nat):Int))∧bz w w':=by
 obtain⟨c0,bi⟩:=h.raw.top;have hl:=h.maplen;clear h;generalize t.length+1=n at *;go_enter func193,ntmps193;go_wp2_with (fail);go_ret;exact⟨rfl,bR⟩
def Qg(t:T)(i:Int):Int:=if i=0 then 33 else if has t i=false then 30 else 0
def UB(s:Sh)(t:T)(i:Int):Value:=if Qg t i=0 then .pointer (some ⟨s.g i,0,none⟩) else .pointer none
theorem a2r(h:aX w b s t)(i:Int)(hi:I64 i) :
  Calls prog 143 #[.pointer (some ⟨b,0,none⟩),.int .i64 i] w fun e w'=>e=.returned (.tuple #[UB s t i,.int .i64 (Qg t i)])∧w'=w:=by
 obtain⟨c0,bi⟩:=h.raw.top
 obtain⟨V,hV⟩:∃V,UB s t i=V:=⟨_,rfl⟩
 obtain⟨C,hC⟩:∃C,Qg t i=C:=⟨_,rfl⟩
 have HV:=Hd hV;rw[hV,hC];clear hV;unfold UB at HV;rw[hC] at HV;unfold Qg at hC;by_cases h0:i=0
 ·rw[if_pos h0] at hC;subst hC;have HQ:=Hd (HV.o.symm.trans (if_neg (by decide)));have t1:(i==0)=true:=by simpa using h0
  clear h hi h0 HV;go_enter func143,ntmps143;go_wp2_with (fail);go_ret2;rw[HQ.o];exact⟨rfl,rfl⟩
 have t1:(i==0)=false:=by simpa using h0
 rw[if_neg h0] at hC;by_cases hx:has t i=true
 ·have hlk:=h.raw.gW hi hx;rw[if_neg (by simp[hx])] at hC;subst hC;have HQ:=Hd (HV.o.symm.trans (if_pos rfl));clear h hi h0 hx HV;go_enter func143,ntmps143;go_wp2_with (fail);go_ret2;rw[HQ.o];exact⟨rfl,rfl⟩
 ·have hlk:=h.raw.eY hi hx;rw[if_pos (by simpa using hx)] at hC;subst hC;have HQ:=Hd (HV.o.symm.trans (if_neg (by decide)));clear h hi h0 hx HV;go_enter func143,ntmps143;go_wp2_with (fail);go_ret2;rw[HQ.o];exact⟨rfl,rfl⟩
end
section
variable {w:World}{b:Nat}{s:Sh}{t:T}
theorem Yq(h:aX w b s t)(hn:t.length<=10000){i p:Int}(hi:i∈ids t)(hp:has t p=true) :
  Calls prog 148 #[.pointer (some ⟨s.g p,0,none⟩),.pointer (some ⟨s.g i,0,none⟩)] w fun e w'=>e=.returned (.int .i64 (((kids t p).filter fun k=>decide (k≠i)).length:Nat))∧w'=w:=by
 have h0:=h.ok.vV hi;obtain⟨⟨-,n1,-⟩,-,ni⟩:=h.raw.cells (i:=i) (ah.2 (.inr hi));obtain⟨⟨-,-,p2⟩,-,pi⟩:=h.raw.cells (i:=p) hp;obtain⟨A,c,hv,hc1,hc2,hat⟩:=(h.raw.node p hp).own.at_;rw[jU] at hv;rw[hv] at p2;have hlen:(kids t p).length<=10000:=Nat.le_trans (fU t p) hn;have hpi:=ah.2 (h.ok.eX hi);have hnd:=eG h.ok.nd p;rw[fH h0] at n1;simp only[Option.map_some,ptrTo] at n1;by_cases e:par t i=p
 ·subst e;have hm:=jC hi
  have hl:((kids t (par t i)).filter fun k=>decide (k≠i)).length+1=(kids t (par t i)).length:=by
   have:=List.length_erase_of_mem hm;rw[hnd.erase_eq_filter] at this;have h2:=List.length_pos_of_mem hm;have e:(kids t (par t i)).filter (fun k=>decide (k≠i))=(kids t (par t i)).filter (fun k=>k != i):=List.filter_congr fun x _=>by by_cases h:x=i<;>simp[h]
   rw[e];omega
  generalize ((kids t (par t i)).filter fun k=>decide (k≠i)).length=m at *;generalize (kids t (par t i)).length=n at *;obtain rfl:=hl;clear h hi h0 hc1 hc2 hat hv hn hm hnd hpi;have hpe:=uf w (s.g (par t i));have hq:wrap64 (((m+1:Nat):Int) - 1)=(m:Nat):=by rw[IntWalk.wrap64_in _ (by omega)];omega
  go_enter func148,ntmps148;go_wp2_with (fail);go_ret;exact⟨rfl,rfl⟩
 ·have hni:i∉kids t p:=fun h'=>e (h.ok.kid h').2
  have hl:((kids t p).filter fun k=>decide (k≠i))=kids t p:=List.filter_eq_self.2 fun x hx=>by
   rw[decide_eq_true_eq];rintro rfl;exact hni hx
  rw[hl];have hne:¬s.g (par t i)=s.g p:=fun h'=>e (h.raw.inj _ _ hpi hp h');have hpe:=qB (h.raw.node _ hpi).blk (h.raw.node _ hp).blk hne;generalize (kids t p).length=n at *;generalize s.g (par t i)=ga at *;generalize s.g p=gp at *;generalize s.g i=gi at *;clear h hi h0 hc1 hc2 hat hv hn hnd hpi hl hni e hlen hp;go_enter func148,ntmps148;go_wp2_with (fail);go_ret;exact⟨rfl,rfl⟩
def upB(t:T)(o:Int):Option Int->Bool
 | none=>false
 | some j=>decide (j=o)||within t j o
def upN(t:T):Option Int->Nat
 | none=>0
 | some j=>depth t j+1
theorem yY(ok:Ok t){i o:Int}(hi:has t i=true)(ho:has t o=true):within t i o=upB t o (BM t i):=by
 rw[ku ok];by_cases h0:i=0
 ·subst h0;rw[if_neg (by simp),y8];rfl
 ·rw[if_pos ⟨hi,ho,h0⟩,fH h0];rfl
theorem a0z(ok:Ok t){i:Int}(hi:has t i=true):upN t (BM t i)<upN t (some i):=by
 by_cases h0:i=0
 ·subst h0;rw[y8];show 0<_+1;omega
 ·rw[fH h0];show depth t (par t i)+1<depth t i+1;have:=bH ok ((ah.1 hi).resolve_left h0);omega
theorem D8(ok:Ok t){i j:Int}(hi:has t i=true)(h:BM t i=some j):has t j=true:=by
 by_cases h0:i=0
 ·subst h0;cases h
 ·rw[fH h0] at h
  injection h with h
  subst h;exact ah.2 (ok.eX ((ah.1 hi).resolve_left h0))
def upM(s:Sh)(t:T):Value->Nat
 | .pointer (some a)=>match (0::ids t).find? fun j=>decide (s.g j=a.block) with
  | some j=>depth t j+1
  | none=>0
 | _=>0
theorem Gv(h:aX w b s t){j:Int}(hj:has t j=true):upM s t (.pointer (some ⟨s.g j,0,none⟩))=upN t (some j):=by
 unfold upM;simp only;cases hf:(0::ids t).find? fun k=>decide (s.g k=s.g j) with
 | none=>
  have:=List.find?_eq_none.1 hf j (List.mem_cons.2 (ah.1 hj));simp at this
 | some k=>
  have h1:=List.find?_some hf;have h2:=List.mem_of_find?_eq_some hf;simp only[decide_eq_true_eq] at h1;rw[h.raw.inj k j (ah.2 (List.mem_cons.1 h2)) hj h1];rfl
theorem X9(h:aX w b s t){u:Option Int}(hu:∀j,u=some j->has t j=true):upM s t (ptrTo (u.map s.g))=upN t u:=by
 cases u with
 | none=>rfl
 | some j=>exact Gv h (hu j rfl)
theorem Yp(h:aX w b s t){i o:Int}(hi:has t i=true)(ho:has t o=true) :
  Calls prog 147 #[.pointer (some ⟨s.g i,0,none⟩),.pointer (some ⟨s.g o,0,none⟩)] w fun e w'=>e=.returned (.bool (within t i o))∧w'=w:=by
 obtain⟨⟨-,n1,-⟩,-,ni⟩:=h.raw.cells (i:=i) hi;have HT:=Hd h;have HO:=Hd ho;have HUP:=Hd (fun j=>D8 (j:=j) h.ok hi);rw[yY h.ok hi ho];clear h hi ho;generalize BM t i=u at *
 obtain⟨pv,hpv⟩:∃pv,ptrTo (u.map s.g)=pv:=⟨_,rfl⟩
 have HPV:=Hd hpv;rw[hpv] at n1;clear hpv
 obtain⟨R,hR⟩:∃R,upB t o u=R:=⟨_,rfl⟩
 have HQ:=Hd hR;rw[hR];clear hR;go_enter func147,ntmps147;go_wp2_with (fail)
 go_loopw [5] (fun x wr=>∃u:Option Int,x=ptrTo (u.map s.g)∧Hid (upB t o u=R)∧Hid (∀j,u=some j->has t j=true)∧Hid (wr=w)) (fun x _=>upM s t x)
 case atStart=>exact⟨u,HPV.o.symm,HQ,fun j e=>HUP.o j e,rfl⟩
 case round=>
  obtain⟨u1,rfl,HB,HH,HW⟩:=hrel;obtain rfl:=HW.o;cases u1 with
  | none=>
   have HF:Hid (R=false):=HB.o.symm;simp only[Option.map_none,ptrTo];go_wp2_with (fail);go_ret;exact⟨aC HF.o.symm,rfl⟩
  | some j=>
   have hj:=HH.o j rfl;obtain⟨⟨-,j1,-⟩,-,ji⟩:=HT.o.raw.cells (i:=j) hj;simp only[Option.map_some,ptrTo];by_cases e:j=o
   ·subst e;have hpe:=uf wr (s.g j);have HF:Hid (R=true):=by rw[← HB.o];show _=_;simp[upB]
    clear hj;go_wp2_with (fail);go_ret;exact⟨aC HF.o.symm,rfl⟩
   ·have hpe:=qB (HT.o.raw.node _ hj).blk (HT.o.raw.node _ HO.o).blk (fun h'=>e (HT.o.raw.inj _ _ hj HO.o h'))
    have HB2:Hid (upB t o (BM t j)=R):=by
     rw[← HB.o];show _=(decide (j=o)||within t j o);rw[decide_eq_false e,Bool.false_or];exact(yY HT.o.ok hj HO.o).symm
    have HH2:=Hd (fun k=>D8 (j:=k) HT.o.ok hj)
    have Zu:Hid (upM s t (ptrTo ((BM t j).map s.g))<upM s t (.pointer (some ⟨s.g j,0,none⟩))):=by
     show _<_;rw[Gv HT.o hj,X9 HT.o (fun k=>D8 (j:=k) HT.o.ok hj)];exact a0z HT.o.ok hj
    clear hj e HB HH;generalize BM t j=u2 at *
    obtain⟨pw,hpw⟩:∃pw,ptrTo (u2.map s.g)=pw:=⟨_,rfl⟩
    have HPW:=Hd hpw;rw[hpw] at j1 Zu;clear hpw;go_wp2_with (fail)
    go_roundw
    case rel=>exact⟨u2,HPW.o.symm,HB2,HH2,by trivial⟩
    case measure=>exact Zu.o
end
end
section
open Go.RowKit aB
section
variable {w:World}{b:Nat}{s:Sh}{t:T}
theorem aX.drewN(h:aX w b s t)(n:Nat):aX (w.drewN n) b s t:=h.below (Below.drewN' bR n)
end
end
end Go.Proofs.YtekdoeilpheklaaGreat
