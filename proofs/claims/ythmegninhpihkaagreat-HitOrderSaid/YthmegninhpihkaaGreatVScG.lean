import Derived.Test.YthmegninhpihkaaGreatVScA
import Derived.Test.YthmegninhpihkaaGreatVScF
import Derived.Deep.RegionHeld3
import Derived.BigQuiet
import Derived.Maps.OwnSet
import Derived.Maps.Ext
import Derived.LaidEqlPtr
set_option maxHeartbeats 16000000
set_option maxRecDepth 100000
open Go.Proofs.Tryz
namespace Go.Proofs.YthmegninhpihkaaGreat
section
open Go.RowKit aF
def rcs(r:Int×Int):List Value:=[.int .i64 r.1,.int .i64 r.2]
theorem DV(r:Int×Int):(rcs r).length=2:=rfl
theorem Oy(r:Int×Int):∀u∈rcs r,u.oneCell'=true:=by
 intro u hu;simp only[rcs,List.mem_cons,List.not_mem_nil,or_false]at hu;rcases hu with rfl|rfl<;>rfl
abbrev l7(w:World)(A:Option Addr)(t:T):Prop:=aV 2 rcs w A t
theorem l7.at_{w:World}{A:Option Addr}{l:T}(h:l7 w A l){j:Nat}(hj:j<l.length):∃b off,A=some ⟨b,off,none⟩∧w.cell? ⟨b,off+j*2,none⟩=some (.int .i64 l[j].1)∧w.cell? ⟨b,off+j*2+1,none⟩=some (.int .i64 l[j].2):=by
 obtain⟨b,off,e,hc⟩:=h (by omega);exact⟨b,off,e,hc j hj 0 _ rfl,hc j hj 1 _ rfl⟩
theorem Td:(prog.info? 128).map (fun i=>(i.zero,i.size,i.bytes))=some (some (.agg #[.int .i64 0,.int .i64 0]),2,16):=by kernel_rfl
abbrev oQ(w:World)(base:Nat)(v:Value)(l:T):Prop:=ax 128 2 rcs w base v l
def ic(z:Int):List Value:=[.int .i64 z]
theorem iR(z:Int):(ic z).length=1:=rfl
theorem zA(z:Int):∀u∈ic z,u.oneCell'=true:=by
 intro u hu;simp only[ic,List.mem_singleton]at hu;subst hu;rfl
abbrev aU(w:World)(base:Nat)(v:Value)(l:List Int):Prop:=ax 3 1 ic w base v l
theorem lN:(prog.info? 3).map (fun i=>(i.zero,i.size,i.bytes))=some (some (.int .i64 0),1,8):=by kernel_rfl
theorem aU.lM{w:World}{base:Nat}{v:Value}{l:List Int}(h:aU w base v l):∃A c,v=.slice A l.length c∧l.length<=c∧c<=maxLen∧Row eI w A l:=by
 obtain⟨A,c,h1,h2,h3,h4⟩:=h.row iR;refine⟨A,c,h1,h2,h3,fun hn=>?_⟩;obtain⟨b,off,e,hc⟩:=h4 hn;refine⟨b,off,e,fun j hj=>?_⟩;have:=hc j hj 0 _ rfl;rw[Nat.mul_one,Nat.add_zero]at this;exact this
theorem ND{w:World}{base:Nat}{v:Value}{l:List Int}(h:aU w base v l)(x:Int){c:Nat}(hn:l.length<=900000000)(hbase:base<=w.heap.size) :
  ∃v' w',(Builtin.append_ #[35,35] 35 #[v,.slice (some ⟨w.heap.size,0,none⟩) 1 c]).run prog (w.alloc (.cells #[.int .i64 x] 3))=.ok v' w'∧aU w' base v' (l++[x]) ∧
   (w.alloc (.cells #[.int .i64 x] 3)).grownBy w' v.ownBlock∧(v'.ownBlock=v.ownBlock∨v'.ownBlock=some (w.heap.size+1)):=by
 obtain⟨v',w',h1,h2,h3,h4⟩:=ax.app (P:=prog) (xs:=[x]) (c:=c) (g:=w.heap.size) (o:=0) underlying35 lN rfl (by decide) (by decide) iR zA
  (h.below (bR.alloc nR (.cells #[.int .i64 x] 3))) (fun _=>jA (enc:=ic) iR w [x] _ rfl) (by simp;omega) (by simp;omega)
 refine⟨v',w',h1,h2,h3,?_⟩
 simpa using h4
theorem nS{w:World}{base:Nat}{v:Value}{l:T}(h:oQ w base v l)(x y:Int){c:Nat}(hn:l.length<=900000000)(hbase:base<=w.heap.size) :
  ∃v' w',(Builtin.append_ #[27,27] 27 #[v,.slice (some ⟨w.heap.size,0,none⟩) 1 c]).run prog (w.alloc (.cells #[.int .i64 x,.int .i64 y] 128))=.ok v' w'∧oQ w' base v' (l++[(x,y)]) ∧
   (w.alloc (.cells #[.int .i64 x,.int .i64 y] 128)).grownBy w' v.ownBlock∧(v'.ownBlock=v.ownBlock∨v'.ownBlock=some (w.heap.size+1)):=by
 obtain⟨v',w',h1,h2,h3,h4⟩:=ax.app (P:=prog) (xs:=[(x,y)]) (c:=c) (g:=w.heap.size) (o:=0) underlying27 Td rfl (by decide) (by decide) DV Oy
  (h.below (bR.alloc nR (.cells #[.int .i64 x,.int .i64 y] 128))) (fun _=>jA (enc:=rcs) DV w [(x,y)] _ rfl) (by simp;omega) (by simp;omega)
 refine⟨v',w',h1,h2,h3,?_⟩
 simpa using h4
theorem GU{t:T}{i:Int}{k:Nat}(h:i∉ids (t.take k))(hk:k<t.length)(e:t[k].1≠i):i∉ids (t.take (k+1)):=by
 unfold ids at*;rw[List.take_succ_eq_append_getElem hk,List.map_append,List.mem_append];rintro(h1|h1)
 ·exact h h1
 ·rw[List.map_singleton,List.mem_singleton]at h1;exact e h1.symm
theorem a0m{t:T}{i:Int}{k:Nat}(hk:k<t.length)(e:t[k].1=i):i∈ids t:=bg.2 ⟨t[k].2,by rw[←e];exact List.getElem_mem hk⟩
theorem ZM{t:T}{i:Int}{k:Nat}(h:i∉ids (t.take k))(hk:k<t.length)(e:t[k].1=i):par t i=t[k].2:=by
 have h2:t=t.take k++t[k]::t.drop (k+1):=by rw[←List.drop_eq_getElem_cons hk,List.take_append_drop]
 unfold par
 have h3:t.find? (fun r=>decide (r.1=i))=some t[k]:=by
  refine(congrArg (List.find? fun r=>decide (r.1=i)) h2).trans ?_
  rw[List.find?_append,List.find?_eq_none.2 (fun r hr=>by
   simp only[decide_eq_true_eq];rintro rfl
   exact h (List.mem_map_of_mem hr)),List.find?_cons_of_pos (by simpa using e)]
  rfl
 rw[h3];rfl
theorem TV(A:Option Addr)(t:T)(c:Nat)(i:Int)(w:World)(hr:l7 w A t)(hn:t.length<=100000) :
  Calls prog 16 #[.slice A t.length c,.int .i64 i] w (aZ (.bool (has t i)) w):=by
 have HR:=Hd hr;have HN:=Hd hn;clear hr hn;by_cases h0:i=0
 ·subst h0;have HQ:Hid (has t 0=true):=ah.2 (.inl rfl);go_enter func16,ntmps16;go_wp2_with (fail);go_ret;exact⟨aI HQ.o.symm,bR⟩
 ·have q:(i==0)=false:=by simpa using h0
  have H0:=Hd h0;clear h0;go_enter func16,ntmps16;go_wp2_with (fail);clear q
  go_loopw [5] (fun x wr=>∃k:Nat,k<=t.length∧x=.int .i64 k∧Hid (i∉ids (t.take k))∧Hid (wr=w)) (fun x _=>t.length - (intOf x).toNat)
  case atStart=>exact⟨0,Nat.zero_le _,rfl,by show _∉_;simp[ids],rfl⟩
  case round=>
   obtain⟨k,hk,rfl,HK,HW⟩:=hrel;obtain rfl:=HW.o;by_cases hlt:k<t.length
   ·have t1:decide (k<t.length)=true:=by simpa using hlt
    obtain⟨b,o,rfl,k1,k2⟩:=HR.o.at_ hlt;have HS:=Hd (GU HK.o hlt);have HT:=Hd (fun e=>a0m (i:=i) hlt e);have HB:=Hd (show k<=100000 by have:=HN.o;omega);generalize t[k]=r at*;obtain⟨x,y⟩:=r;simp only at k1 k2 HS HT;by_cases e:x=i
    ·have HT2:=Hd (HT.o e);have q:(x==i)=true:=by simpa using e
     clear HS HT e;have hkb:(k:Int)<=100000:=by have:=HB.o;omega
     go_wp2_with (fail);go_ret;exact⟨aI (ah.2 (.inr HT2.o)).symm,bR⟩
    ·have HS2:=Hd (HS.o e);have q:(x==i)=false:=by simpa using e
     clear HS HT e;have hkb:(k:Int)<=100000:=by have:=HB.o;omega
     go_wp2_with (fail)
     go_roundw
     case rel=>exact⟨k+1,by omega,by go_num,HS2,by trivial⟩
     case measure=>simp[intOf];omega
   ·obtain rfl:k=t.length:=by omega
    have HF:Hid (has t i=false):=by
     have h:=HK.o;rw[List.take_length]at h;show _=false;rw[←Bool.not_eq_true,ah];rintro(h1|h1)
     ·exact H0.o h1
     ·exact h h1
    have t1:decide (t.length<t.length)=false:=by simp
    go_wp2_with (fail);go_ret;exact⟨aI HF.o.symm,bR⟩
theorem a2c(A:Option Addr)(t:T)(c:Nat)(i:Int)(w:World)(hr:l7 w A t)(hn:t.length<=100000) :
  Calls prog 40 #[.slice A t.length c,.int .i64 i] w (aZ (.int .i64 (par t i)) w):=by
 have HR:=Hd hr;have HN:=Hd hn;clear hr hn;go_enter func40,ntmps40;go_wp2_with (fail)
 go_loopw [5] (fun x wr=>∃k:Nat,k<=t.length∧x=.int .i64 k∧Hid (i∉ids (t.take k))∧Hid (wr=w)) (fun x _=>t.length - (intOf x).toNat)
 case atStart=>exact⟨0,Nat.zero_le _,rfl,by show _∉_;simp[ids],rfl⟩
 case round=>
  obtain⟨k,hk,rfl,HK,HW⟩:=hrel;obtain rfl:=HW.o;by_cases hlt:k<t.length
  ·have t1:decide (k<t.length)=true:=by simpa using hlt
   obtain⟨b,o,rfl,k1,k2⟩:=HR.o.at_ hlt;have HS:=Hd (GU HK.o hlt);have HT:=Hd (fun e=>ZM (i:=i) HK.o hlt e);have HB:=Hd (show k<=100000 by have:=HN.o;omega);generalize t[k]=r at*;obtain⟨x,y⟩:=r;simp only at k1 k2 HS HT;by_cases e:x=i
   ·have HT2:=Hd (HT.o e);have q:(x==i)=true:=by simpa using e
    clear HS HT e;have hkb:(k:Int)<=100000:=by have:=HB.o;omega
    go_wp2_with (fail);go_ret;exact⟨aB HT2.o.symm,bR⟩
   ·have HS2:=Hd (HS.o e);have q:(x==i)=false:=by simpa using e
    clear HS HT e;have hkb:(k:Int)<=100000:=by have:=HB.o;omega
    go_wp2_with (fail)
    go_roundw
    case rel=>exact⟨k+1,by omega,by go_num,HS2,by trivial⟩
    case measure=>simp[intOf];omega
  ·obtain rfl:k=t.length:=by omega
   have HF:Hid (par t i=-1):=par_none (by have h:=HK.o;rw[List.take_length]at h;exact h);have t1:decide (t.length<t.length)=false:=by simp
   go_wp2_with (fail);go_ret;exact⟨aB HF.o.symm,bR⟩
end
section
open Go.RowKit aF
theorem OZ{t:T}{p:Int}{k:Nat}(hk:k<t.length):kids (t.take (k+1)) p=if t[k].2=p then kids (t.take k) p++[t[k].1] else kids (t.take k) p:=by
 unfold kids;rw[List.take_succ_eq_append_getElem hk,List.filter_append,List.map_append];by_cases h:t[k].2=p<;>simp[h]
theorem TW{t:T}{i:Int}{k:Nat}(hk:k<t.length):del i (t.take (k+1))=if t[k].1=i then del i (t.take k) else del i (t.take k)++[t[k]]:=by
 unfold del;rw[List.take_succ_eq_append_getElem hk,List.filter_append];by_cases h:t[k].1=i<;>simp[h]
theorem gy(t:T)(p:Int):(kids t p).length<=t.length:=by
 unfold kids;rw[List.length_map];exact List.length_filter_le _ _
theorem TZ(t:T)(i:Int):(del i t).length<=t.length:=List.length_filter_le _ _
def nU(l:List Int)(w:World)(e:Ending)(w':World):Prop:=∃v,e=.returned v∧aU w' w.heap.size v l∧bz w w'
def Az(t:T)(w:World)(e:Ending)(w':World):Prop:=∃v,e=.returned v∧oQ w' w.heap.size v t∧bz w w'
theorem Hr(A:Option Addr)(t:T)(c:Nat)(p:Int)(w:World)(hr:l7 w A t)(hn:t.length<=100000) :
  Calls prog 57 #[.slice A t.length c,.int .i64 p] w (nU (kids t p) w):=by
 unfold nU;have HR:=Hd hr;have HN:=Hd hn;clear hr hn;go_enter func57,ntmps57;go_wp2_with (fail)
 go_loopw [5,6] (fun v x wr=>∃k:Nat,k<=t.length∧x=.int .i64 k∧Hid (aU wr w.heap.size v (kids (t.take k) p))∧Hid (bz w wr)) (fun _ x _=>t.length - (intOf x).toNat)
 case atStart=>exact⟨0,Nat.zero_le _,rfl,ax.nil _ _,bR⟩
 case round=>
  obtain⟨k,hk,rfl,HO,HB⟩:=hrel;by_cases hlt:k<t.length
  ·have t1:decide (k<t.length)=true:=by simpa using hlt
   obtain⟨b,o,rA,k1,k2⟩:=l7.at_ (HR.o.below HB.o) hlt;subst rA;have HS:=Hd (OZ (p:=p) hlt)
   have HL:Hid ((kids (t.take k) p).length<=100000):=by
    have:=gy (t.take k) p;have h2:=HN.o;show _<=_;rw[List.length_take]at this;omega
   have HK:=Hd (show k<=100000 by have:=HN.o;omega)
   obtain⟨l1,hl1⟩:∃x,kids (t.take (k+1)) p=x:=⟨_,rfl⟩
   have IJ:=Hd hl1;rw[hl1]at HS;clear hl1;generalize t[k]=r at*;obtain⟨x,y⟩:=r;simp only at k1 k2 HS;generalize kids (t.take k) p=l at*;by_cases e:y=p
   ·have HS2:=Hd (HS.o.trans (if_pos e));have q:(y==p)=true:=by simpa using e
    obtain⟨v',w7,hrun,iQ,hgr,hat⟩:=ND HO.o x (c:=1) (by have:=HL.o;omega) HB.o.size;have sN:Hid (bz w w7):=(HB.o.alloc HB.o.size _).grown hgr (by have:=HB.o.size;simp;omega) (fun j hj=>(HO.o.block hj).1);have wJ:Hid (aU w7 w.heap.size v' l1):=by rw[HS2.o];exact iQ
    have hkb:(k:Int)<=100000:=by have:=HK.o;omega
    clear HS e iQ hgr hat HO HB HK;go_wp2_with (at_builtin;refine bG rfl _ _ 35 35 35 rfl rfl _ _ _ _ rfl rfl hrun ?_;clear hrun)
    go_roundw
    case rel=>exact⟨k+1,by omega,by go_num,by rw[IJ.o];exact wJ,sN⟩
    case measure=>simp[intOf];omega
   ·have HS2:=Hd (HS.o.trans (if_neg e));have q:(y==p)=false:=by simpa using e
    have hkb:(k:Int)<=100000:=by have:=HK.o;omega
    have wJ:Hid (aU wr w.heap.size u5 l1):=by rw[HS2.o];exact HO.o
    clear HS e HK;go_wp2_with (fail)
    go_roundw
    case rel=>exact⟨k+1,by omega,by go_num,by rw[IJ.o];exact wJ,HB⟩
    case measure=>simp[intOf];omega
  ·obtain rfl:k=t.length:=by omega
   have hO:=HO.o;rw[List.take_length]at hO;have Lj:=Hd hO;clear hO HO;have t1:decide (t.length<t.length)=false:=by simp
   go_wp2_with (fail);go_ret;exact⟨_,rfl,Lj.o,HB.o⟩
theorem Hl(A:Option Addr)(t:T)(c:Nat)(i:Int)(w:World)(hr:l7 w A t)(hn:t.length<=100000) :
  Calls prog 104 #[.slice A t.length c,.int .i64 i] w (Az (del i t) w):=by
 unfold Az;have HR:=Hd hr;have HN:=Hd hn;clear hr hn;go_enter func104,ntmps104;go_wp2_with (fail)
 go_loopw [5,6] (fun v x wr=>∃k:Nat,k<=t.length∧x=.int .i64 k∧Hid (oQ wr w.heap.size v (del i (t.take k)))∧Hid (bz w wr)) (fun _ x _=>t.length - (intOf x).toNat)
 case atStart=>exact⟨0,Nat.zero_le _,rfl,ax.nil _ _,bR⟩
 case round=>
  obtain⟨k,hk,rfl,HO,HB⟩:=hrel;by_cases hlt:k<t.length
  ·have t1:decide (k<t.length)=true:=by simpa using hlt
   obtain⟨b,o,rA,k1,k2⟩:=l7.at_ (HR.o.below HB.o) hlt;subst rA;have HS:=Hd (TW (i:=i) hlt)
   have HL:Hid ((del i (t.take k)).length<=100000):=by
    have:=TZ (t.take k) i;have h2:=HN.o;show _<=_;rw[List.length_take]at this;omega
   have HK:=Hd (show k<=100000 by have:=HN.o;omega)
   obtain⟨l1,hl1⟩:∃x,del i (t.take (k+1))=x:=⟨_,rfl⟩
   have IJ:=Hd hl1;rw[hl1]at HS;clear hl1;generalize t[k]=r at*;obtain⟨x,y⟩:=r;simp only at k1 k2 HS;generalize del i (t.take k)=l at*;by_cases e:x=i
   ·have HS2:=Hd (HS.o.trans (if_pos e));have q:(x != i)=false:=by simpa using e
    have hkb:(k:Int)<=100000:=by have:=HK.o;omega
    have wJ:Hid (oQ wr w.heap.size u5 l1):=by rw[HS2.o];exact HO.o
    clear HS e HK;go_wp2_with (fail)
    go_roundw
    case rel=>exact⟨k+1,by omega,by go_num,by rw[IJ.o];exact wJ,HB⟩
    case measure=>simp[intOf];omega
   ·have HS2:=Hd (HS.o.trans (if_neg e));have q:(x != i)=true:=by simpa using e
    obtain⟨v',w7,hrun,iQ,hgr,hat⟩:=nS HO.o x y (c:=1) (by have:=HL.o;omega) HB.o.size;have sN:Hid (bz w w7):=(HB.o.alloc HB.o.size _).grown hgr (by have:=HB.o.size;simp;omega) (fun j hj=>(HO.o.block hj).1);have wJ:Hid (oQ w7 w.heap.size v' l1):=by rw[HS2.o];exact iQ
    have hkb:(k:Int)<=100000:=by have:=HK.o;omega
    clear HS e iQ hgr hat HO HB HK;go_wp2_with (at_builtin;refine bG rfl _ _ 27 27 27 rfl rfl _ _ _ _ rfl rfl hrun ?_;clear hrun)
    go_roundw
    case rel=>exact⟨k+1,by omega,by go_num,by rw[IJ.o];exact wJ,sN⟩
    case measure=>simp[intOf];omega
  ·obtain rfl:k=t.length:=by omega
   have hO:=HO.o;rw[List.take_length]at hO;have Lj:=Hd hO;clear hO HO;have t1:decide (t.length<t.length)=false:=by simp
   go_wp2_with (fail);go_ret;exact⟨_,rfl,Lj.o,HB.o⟩
end
section
open Go.RowKit aF
theorem l7.in_{w:World}{A:Option Addr}{l:T}(h:l7 w A l){j:Nat}(hj:j<l.length):∃b off,A=some ⟨b,off,none⟩∧∀W,bz w W->W.cell? ⟨b,off+j*2,none⟩=some (.int .i64 l[j].1)∧W.cell? ⟨b,off+j*2+1,none⟩=some (.int .i64 l[j].2):=by
 obtain⟨b,off,e,h1,h2⟩:=h.at_ hj;exact⟨b,off,e,fun W hb=>⟨(hb.cell (World.block_lt_of_cell? w _ h1)).trans h1,(hb.cell (World.block_lt_of_cell? w _ h2)).trans h2⟩⟩
theorem Row.in_{α:Type}{enc:α->Value}{w:World}{A:Option Addr}{l:List α}(h:Row enc w A l){j:Nat}(hj:j<l.length):∃b off,A=some ⟨b,off,none⟩∧∀W,bz w W->W.cell? ⟨b,off+j,none⟩=some (enc l[j]):=by
 obtain⟨b,off,e,h1⟩:=h.at_ hj;exact⟨b,off,e,fun W hb=>(hb.cell (World.block_lt_of_cell? w _ h1)).trans h1⟩
theorem KJ{t:T}{r:Int×Int}{K:Int}{k:Nat}(hk:k<t.length):aF.ahead r K (t.take (k+1))=if t[k].1=K then aF.ahead r K (t.take k)++[r]++[t[k]] else aF.ahead r K (t.take k)++[t[k]]:=by
 unfold aF.ahead;rw[List.take_succ_eq_append_getElem hk,List.flatMap_append];by_cases h:t[k].1=K<;>simp[h]
theorem Uu(r:Int×Int)(K:Int)(t:T):(aF.ahead r K t).length<=2*t.length:=by
 unfold aF.ahead
 induction t with
 |nil=>simp
 |cons x t ih=>
  rw[List.flatMap_cons,List.length_append,List.length_cons];have h:(if x.1=K then [r,x] else [x]).length<=2:=by split<;>simp
  omega
theorem Ti{t:T}{K:Int}{k:Nat}(hk:k<t.length):decide (K∈ids (t.take (k+1)))=if t[k].1=K then true else decide (K∈ids (t.take k)):=by
 unfold ids;rw[List.take_succ_eq_append_getElem hk,List.map_append];by_cases h:t[k].1=K
 ·rw[if_pos h,decide_eq_true];simp[h]
 ·rw[if_neg h];simp[Ne.symm h]
theorem a0p(A:Option Addr)(t:T)(c:Nat)(i p:Int)(n:Nat)(w:World)(hr:l7 w A t)(hn:t.length<=10000)(hl:n<(kids t p).length) :
  Calls prog 103 #[.slice A t.length c,.agg #[.int .i64 i,.int .i64 p],.int .i64 n] w (Az (put (i,p) n t) w):=by
 have e:put (i,p) n t=aF.ahead (i,p) (kids t p)[n] t:=by unfold put;exact dif_pos hl
 have hin:(kids t p)[n]∈ids t:=bg.2 ⟨p,fU.1 (List.getElem_mem hl)⟩;have hlt2:=Nat.lt_of_lt_of_le hl (Nat.le_trans (gy t p) hn);rw[e];clear e;unfold Az
 obtain⟨M,hM⟩:=aC (kids t p)
 have HC:=Hd (fun w hr=>Hr A t c p w hr (by omega));rw[hM]at HC;have hlM:n<M.length:=by rw[←hM];exact hl
 obtain⟨K,hK⟩:=aC ((kids t p)[n])
 have hKM:M[n]=K:=by subst hM;exact hK
 rw[hK]at hin ⊢;have hml:M.length<=10000:=by rw[←hM];exact Nat.le_trans (gy t p) hn
 have HM:=Hd (And.intro hlM (And.intro hKM hml));have HR:=Hd hr;have HN:=Hd hn;have HI:=Hd hin;clear hr hn hin hl hK hM hKM hml;go_enter func103,ntmps103;have hw0:bz w (w.alloc (.cells #[.int .i64 i,.int .i64 p] 128)):=bR.alloc nR _;have HW0:=Hd hw0;clear hw0;go_wp2_with (fail);refine(HC.o _ (HR.o.below HW0.o)).mono ?_;rintro e w1 ⟨v,rfl,hown,hb⟩;obtain⟨vA,vc,rfl,h1,h2,hrow⟩:=hown.lM;have HB1:=Hd (HW0.o.trans (hb.mono HW0.o.size))
 have HX:Hid (az w1 w.heap.size [.int .i64 i,.int .i64 p]):=(aA w [.int .i64 i,.int .i64 p] 128).below hb (by simp);have Dx:=Hd hrow;clear hown h1 h2 hrow hb HC HW0;go_wp2_with (fail)
 go_loopw [8,9,10] (fun v f x wr=>∃k:Nat,k<=t.length∧x=.int .i64 k∧f=.bool (decide (K∈ids (t.take k)))∧Hid (oQ wr w1.heap.size v (aF.ahead (i,p) K (t.take k)))∧Hid (bz w1 wr)) (fun _ _ x _=>t.length - (intOf x).toNat)
 case atStart=>exact⟨0,Nat.zero_le _,rfl,rfl,ax.nil _ _,bR⟩
 case round=>
  obtain⟨k,hk,rfl,rfl,HO,HB⟩:=hrel;by_cases hlt:k<t.length
  ·have t1:decide (k<t.length)=true:=by simpa using hlt
   have t2:decide (n<M.length)=true:=by simpa using HM.o.1
   obtain⟨b,o,rA,k12⟩:=l7.in_ (HR.o.below HB1.o) hlt;obtain⟨b2,o2,rA2,k3'⟩:=Dx.o.in_ HM.o.1;rw[HM.o.2.1]at k3';unfold eI at k3';subst rA rA2;have HS:=Hd (KJ (r:=(i,p)) (K:=K) hlt);have qO:=Hd (Ti (K:=K) hlt)
   have HL:Hid ((aF.ahead (i,p) K (t.take k)).length<=100000):=by
    have:=Uu (i,p) K (t.take k);have h2:=HN.o;show _<=_;rw[List.length_take]at this;omega
   have HK:=Hd (show k<=10000 by have:=HN.o;omega)
   obtain⟨l1,hl1⟩:∃x,aF.ahead (i,p) K (t.take (k+1))=x:=⟨_,rfl⟩
   obtain⟨f1,hf1⟩:∃x,decide (K∈ids (t.take (k+1)))=x:=⟨_,rfl⟩
   have IJ:=Hd hl1;have Zu:=Hd hf1;rw[hl1]at HS;rw[hf1]at qO;clear hl1 hf1;generalize t[k]=r at*;obtain⟨x,y⟩:=r;simp only at k12 HS qO;have H12:=Hd k12;have k3:=k3' _ HB.o;obtain⟨k1,k2⟩:=k12 _ HB.o;clear k3' k12;generalize aF.ahead (i,p) K (t.take k)=l at*;generalize decide (K∈ids (t.take k))=f0 at*;have hnb:(n:Int)<=10000:=by have:=HM.o;omega
   by_cases e:x=K
   ·have HS2:=Hd (HS.o.trans (if_pos e));have NS:=Hd (qO.o.trans (if_pos e));have q:(x==K)=true:=by simpa using e
    have hkb:(k:Int)<=10000:=by have:=HK.o;omega
    clear HS qO e HK;go_wp2_with (fail)
    go_quiet (fail)
    have IU:Hid (∀m,bz w1 (wr.drewN m)):=fun m=>Below.drewN' HB.o m;have Iy:Hid (∀m,oQ (wr.drewN m) w1.heap.size u8 l):=fun _=>HO.o;generalize hwz:World.drewN wr _=wz at*;have iD:Hid (bz w1 wz):=by rw[←hwz];exact IU.o _
    have UX:Hid (oQ wz w1.heap.size u8 l):=by rw[←hwz];exact Iy.o _
    have VZ:Hid (az wz w.heap.size [.int .i64 i,.int .i64 p]):=HX.o.below iD.o HX.o.inside;obtain⟨v',w7,hrun,iQ,hgr,hat⟩:=nS UX.o i p (c:=1) (by have:=HL.o;omega) iD.o.size;have sN:Hid (bz w1 w7):=(iD.o.alloc iD.o.size _).grown hgr (by have:=iD.o.size;simp;omega) (fun j hj=>(UX.o.block hj).1);obtain⟨v'',w8,hrun2,a1E,a1Y,Xk⟩:=nS iQ x y (c:=1) (by have:=HL.o;simp;omega) sN.o.size
    have Zz:Hid (bz w1 w8):=(sN.o.alloc sN.o.size _).grown a1Y (by have:=sN.o.size;simp;omega) (fun j hj=>(iQ.block hj).1);have HO8:Hid (oQ w8 w1.heap.size v'' l1):=by rw[HS2.o];exact a1E
    obtain⟨g1,g2⟩:=H12.o _ sN.o;obtain⟨⟨x0,x1⟩,-,xi⟩:=VZ.o.c2;clear hwz iQ a1E hgr a1Y hat Xk HO HB UX iD IU Iy k1 k2 k3;go_wp2_with (at_builtin;refine bG rfl _ _ 27 27 27 rfl rfl _ _ _ _ rfl rfl hrun ?_;clear hrun;try (have hrun:=hrun2;clear hrun2))
    go_roundw
    case rel=>exact⟨k+1,by omega,by go_num,by rw[Zu.o,NS.o],by rw[IJ.o];exact HO8,Zz⟩
    case measure=>simp[intOf];omega
   ·have HS2:=Hd (HS.o.trans (if_neg e));have NS:=Hd (qO.o.trans (if_neg e));have q:(x==K)=false:=by simpa using e
    have hkb:(k:Int)<=10000:=by have:=HK.o;omega
    clear HS qO e HK;go_wp2_with (fail)
    go_quiet (fail)
    have IU:Hid (∀m,bz w1 (wr.drewN m)):=fun m=>Below.drewN' HB.o m;have Iy:Hid (∀m,oQ (wr.drewN m) w1.heap.size u8 l):=fun _=>HO.o;generalize hwz:World.drewN wr _=wz at*;have iD:Hid (bz w1 wz):=by rw[←hwz];exact IU.o _
    have UX:Hid (oQ wz w1.heap.size u8 l):=by rw[←hwz];exact Iy.o _
    obtain⟨v',w7,hrun,iQ,hgr,hat⟩:=nS UX.o x y (c:=1) (by have:=HL.o;omega) iD.o.size;have sN:Hid (bz w1 w7):=(iD.o.alloc iD.o.size _).grown hgr (by have:=iD.o.size;simp;omega) (fun j hj=>(UX.o.block hj).1);have wJ:Hid (oQ w7 w1.heap.size v' l1):=by rw[HS2.o];exact iQ
    obtain⟨g1,g2⟩:=H12.o _ iD.o;clear hwz iQ hgr hat HO HB UX iD IU Iy k1 k2 k3;go_wp2_with (at_builtin;refine bG rfl _ _ 27 27 27 rfl rfl _ _ _ _ rfl rfl hrun ?_;clear hrun)
    go_roundw
    case rel=>exact⟨k+1,by omega,by go_num,by rw[Zu.o,NS.o],by rw[IJ.o];exact wJ,sN⟩
    case measure=>simp[intOf];omega
  ·obtain rfl:k=t.length:=by omega
   have hO:=HO.o;have hi:=decide_eq_true HI.o;rw[List.take_length]at hO ⊢;have Lj:=Hd hO;have t1:decide (t.length<t.length)=false:=by simp
   rw[hi];clear hO HO hi;go_wp2_with (fail);go_ret;exact⟨_,rfl,ax.weaken Lj.o HB1.o.size,HB1.o.trans (HB.o.mono HB1.o.size)⟩
end
section
open Go.RowKit aF
theorem a0o(A:Option Addr)(t:T)(c:Nat)(i p:Int)(n:Nat)(w:World)(hr:l7 w A t)(hn:t.length<=10000)(hl:¬n<(kids t p).length)(hnn:n<=10000) :
  Calls prog 103 #[.slice A t.length c,.agg #[.int .i64 i,.int .i64 p],.int .i64 n] w (Az (put (i,p) n t) w):=by
 have e:put (i,p) n t=t++[(i,p)]:=by unfold put;exact dif_neg hl
 rw[e];clear e;unfold Az
 obtain⟨M,hM⟩:=aC (kids t p)
 have HC:=Hd (fun w hr=>Hr A t c p w hr (by omega));rw[hM]at HC hl;have HM:=Hd (And.intro hl hnn);have HR:=Hd hr;have HN:=Hd hn;clear hr hn hl hnn hM;go_enter func103,ntmps103;have hw0:bz w (w.alloc (.cells #[.int .i64 i,.int .i64 p] 128)):=bR.alloc nR _;have HW0:=Hd hw0;clear hw0;go_wp2_with (fail);refine(HC.o _ (HR.o.below HW0.o)).mono ?_;rintro e w1 ⟨v,rfl,hown,hb⟩;obtain⟨vA,vc,rfl,h1,h2,hrow⟩:=hown.lM;have HB1:=Hd (HW0.o.trans (hb.mono HW0.o.size))
 have HX:Hid (az w1 w.heap.size [.int .i64 i,.int .i64 p]):=(aA w [.int .i64 i,.int .i64 p] 128).below hb (by simp);clear hown h1 h2 hrow hb HC HW0;go_wp2_with (fail)
 go_loopw [8,9,10] (fun v f x wr=>∃k:Nat,k<=t.length∧x=.int .i64 k∧f=.bool false∧Hid (oQ wr w1.heap.size v (t.take k))∧Hid (bz w1 wr)) (fun _ _ x _=>t.length - (intOf x).toNat)
 case atStart=>exact⟨0,Nat.zero_le _,rfl,rfl,ax.nil _ _,bR⟩
 case round=>
  obtain⟨k,hk,rfl,rfl,HO,HB⟩:=hrel;by_cases hlt:k<t.length
  ·have t1:decide (k<t.length)=true:=by simpa using hlt
   have t2:decide (n<M.length)=false:=by simpa using HM.o.1
   obtain⟨b,o,rA,k12⟩:=l7.in_ (HR.o.below HB1.o) hlt;subst rA;have HS:=Hd (List.take_succ_eq_append_getElem hlt);have HL:Hid ((t.take k).length<=10000):=by have h2:=HN.o;show _<=_;rw[List.length_take];omega
   have HK:=Hd (show k<=10000 by have:=HN.o;omega)
   obtain⟨l1,hl1⟩:∃x,t.take (k+1)=x:=⟨_,rfl⟩
   have IJ:=Hd hl1;rw[hl1]at HS;clear hl1;generalize t[k]=r at*;obtain⟨x,y⟩:=r;simp only at k12 HS;have H12:=Hd k12;clear k12;generalize t.take k=l at*;have hnb:(n:Int)<=10000:=by have:=HM.o;omega
   have hkb:(k:Int)<=10000:=by have:=HK.o;omega
   clear HK;go_wp2_with (fail)
   go_quiet (fail)
   have IU:Hid (∀m,bz w1 (wr.drewN m)):=fun m=>Below.drewN' HB.o m;have Iy:Hid (∀m,oQ (wr.drewN m) w1.heap.size u8 l):=fun _=>HO.o;generalize hwz:World.drewN wr _=wz at*;have iD:Hid (bz w1 wz):=by rw[←hwz];exact IU.o _
   have UX:Hid (oQ wz w1.heap.size u8 l):=by rw[←hwz];exact Iy.o _
   obtain⟨v',w7,hrun,iQ,hgr,hat⟩:=nS UX.o x y (c:=1) (by have:=HL.o;omega) iD.o.size;have sN:Hid (bz w1 w7):=(iD.o.alloc iD.o.size _).grown hgr (by have:=iD.o.size;simp;omega) (fun j hj=>(UX.o.block hj).1);have wJ:Hid (oQ w7 w1.heap.size v' l1):=by rw[HS.o];exact iQ
   obtain⟨g1,g2⟩:=H12.o _ iD.o;clear hwz iQ hgr hat HO HB UX iD IU Iy;go_wp2_with (at_builtin;refine bG rfl _ _ 27 27 27 rfl rfl _ _ _ _ rfl rfl hrun ?_;clear hrun)
   go_roundw
   case rel=>exact⟨k+1,by omega,by go_num,rfl,by rw[IJ.o];exact wJ,sN⟩
   case measure=>simp[intOf];omega
  ·obtain rfl:k=t.length:=by omega
   have hO:=HO.o;rw[List.take_length]at hO;have t1:decide (t.length<t.length)=false:=by simp
   obtain⟨v',w7,hrun,iQ,hgr,hat⟩:=nS hO i p (c:=1) (by have:=HN.o;omega) HB.o.size;have sN:Hid (bz w1 w7):=(HB.o.alloc HB.o.size _).grown hgr (by have:=HB.o.size;simp;omega) (fun j hj=>(hO.block hj).1);have wJ:Hid (oQ w7 w1.heap.size v' (t++[(i,p)])):=iQ;have VZ:Hid (az wr w.heap.size [.int .i64 i,.int .i64 p]):=HX.o.below HB.o HX.o.inside;obtain⟨⟨x0,x1⟩,-,xi⟩:=VZ.o.c2;clear hO HO iQ hgr hat HB;go_wp2_with (at_builtin;refine bG rfl _ _ 27 27 27 rfl rfl _ _ _ _ rfl rfl hrun ?_;clear hrun);go_ret
   exact⟨_,rfl,ax.weaken wJ.o HB1.o.size,HB1.o.trans (sN.o.mono HB1.o.size)⟩
theorem Y4(A:Option Addr)(t:T)(c:Nat)(i p:Int)(n:Nat)(w:World)(hr:l7 w A t)(hn:t.length<=10000)(hnn:n<=10000) :
  Calls prog 103 #[.slice A t.length c,.agg #[.int .i64 i,.int .i64 p],.int .i64 n] w (Az (put (i,p) n t) w):=by
 by_cases hl:n<(kids t p).length
 ·exact a0p A t c i p n w hr hn hl
 ·exact a0o A t c i p n w hr hn hl hnn
theorem Xr(A:Option Addr)(t:T)(c:Nat)(ok:Ok t)(hn:t.length<=10000)(o:Int)(k:Nat):∀(i:Int) (w:World),l7 w A t->depth t i<=k ->
  Calls prog 105 #[.slice A t.length c,.int .i64 i,.int .i64 o] w (aZ (.bool (within t i o)) w):=by
 have dY:=Hd ok;have HP:=Hd (fun i w hr=>a2c A t c i w hr (by omega));have HH:=Hd (fun i w hr=>TV A t c i w hr (by omega));clear ok
 have low:∀(i:Int) (w:World),l7 w A t->¬(has t i=true∧has t o=true∧i≠0)->Calls prog 105 #[.slice A t.length c,.int .i64 i,.int .i64 o] w (aZ (.bool (within t i o)) w):=by
  intro i w hr h;have HQ:Hid (within t i o=false):=by show _=_;rw[ku dY.o,if_neg h]
  have H1:=Hd (fun w hr=>HH.o i w hr);have H2:=Hd (fun w hr=>HH.o o w hr);have HR:=Hd hr;have HX:=Hd h;clear HH HP hr h;generalize has t i=b1 at*;generalize has t o=b2 at*;go_enter func105,ntmps105;go_wp2_with (fail);refine(H1.o _ HR.o).mono ?_;rintro e w1 ⟨rfl,hb1⟩;have HB1:=Hd hb1;clear hb1;cases b1 with
  |false=>
   go_wp2_with (fail);go_ret;exact⟨aI HQ.o.symm,HB1.o⟩
  |true=>
   go_wp2_with (fail);refine(H2.o _ (HR.o.below HB1.o)).mono ?_;rintro e w2 ⟨rfl,hb2⟩;have HB2:=Hd (HB1.o.trans (hb2.mono HB1.o.size));clear hb2;cases b2 with
   |false=>
    go_wp2_with (fail);go_ret;exact⟨aI HQ.o.symm,HB2.o⟩
   |true=>
    obtain rfl:i=0:=Decidable.not_not.1 fun e=>HX.o ⟨by trivial,by trivial,e⟩;clear HX;go_wp2_with (fail);go_ret;exact⟨aI HQ.o.symm,HB2.o⟩
 induction k with
 |zero=>
  intro i w hr hd;refine low i w hr ?_;rintro⟨h1,h2,h3⟩;have:=bP dY.o ((ah.1 h1).resolve_left h3);omega
 |succ k ih=>
  intro i w hr hd;by_cases h:has t i=true∧has t o=true∧i≠0
  ·obtain⟨h1,h2,h3⟩:=h;have hm:=(ah.1 h1).resolve_left h3;have hs:=bP dY.o hm;have HQ:Hid (within t i o=(decide (par t i=o)||within t (par t i) o)):=by show _=_;rw[ku dY.o,if_pos ⟨h1,h2,h3⟩]
   have HI:=Hd (fun w hr=>ih (par t i) w hr (by omega));have H1:=Hd (fun w hr=>HH.o i w hr);have H2:=Hd (fun w hr=>HH.o o w hr);have EG:=Hd (fun w hr=>HP.o i w hr);rw[h1]at H1;rw[h2]at H2;have HR:=Hd hr;have q:(i==0)=false:=by simpa using h3
   clear HH HP hr h1 h2 h3 ih low hs hm hd;generalize within t i o=R at*;generalize within t (par t i) o=R1 at*;generalize par t i=pp at*;go_enter func105,ntmps105;go_wp2_with (fail);refine(H1.o _ HR.o).mono ?_;rintro e w1 ⟨rfl,hb1⟩;have HB1:=Hd hb1;clear hb1;go_wp2_with (fail);refine(H2.o _ (HR.o.below HB1.o)).mono ?_;rintro e w2 ⟨rfl,hb2⟩;have HB2:=Hd (HB1.o.trans (hb2.mono HB1.o.size));clear hb2;go_wp2_with (fail);refine(EG.o _ (HR.o.below HB2.o)).mono ?_;rintro e w3 ⟨rfl,hb3⟩;have HB3:=Hd (HB2.o.trans (hb3.mono HB2.o.size));clear hb3;by_cases e:pp=o
   ·have jP:Hid (R=true):=by show _=_;rw[HQ.o,decide_eq_true e,Bool.true_or]
    have q2:(pp==o)=true:=by simpa using e
    clear HQ e;go_wp2_with (fail);go_ret;exact⟨aI jP.o.symm,HB3.o⟩
   ·have jP:Hid (R=R1):=by show _=_;rw[HQ.o,decide_eq_false e,Bool.false_or]
    have q2:(pp==o)=false:=by simpa using e
    clear HQ e;go_wp2_with (fail);refine(HI.o _ (HR.o.below HB3.o)).mono ?_;rintro e w4 ⟨rfl,hb4⟩;have HB4:=Hd (HB3.o.trans (hb4.mono HB3.o.size));clear hb4;go_wp2_with (fail);go_ret;exact⟨aI jP.o.symm,HB4.o⟩
  ·exact low i w hr h
end
section
open Go.RowKit aF
theorem kN{t:T}(ok:Ok t){i:Int}(hi:i=0∨i∈ids t):(aF.walk t i).length<=t.length+1:=by
 rw[←sO ok];refine dK (rC ok i) fun x hx=>jw ok |>.2 ?_
 rcases(dI ok hi).1 hx with rfl|h
 ·exact ah.2 hi
 ·exact ah.2 (.inr (bH h).1)
theorem Ei{l:List Int}(f:Int->List Int)(k:Nat):((l.take k).flatMap f).length<=(l.flatMap f).length:=by
 conv=>rhs;rw[←List.take_append_drop k l]
 rw[List.flatMap_append,List.length_append];omega
theorem BU{t:T}(ok:Ok t)(i:Int):0<(aF.walk t i).length:=by rw[walk_eq ok];simp
theorem ax.base{α:Type}{T:TypeId}{k:Nat}{enc:α->List Value}{w:World}{base:Nat}{A:Option Addr}{n c:Nat}{l:List α}(h:ax T k enc w base (.slice A n c) l){b o:Nat}(e:A=some ⟨b,o,none⟩):base<=b∧b<w.heap.size:=by
 rcases h.2 with ⟨h1,_⟩|⟨g,cap,cur,h1,hg,hb,_⟩
 ·injection h1 with h1 _ _
  rw[h1]at e;cases e
 ·injection h1 with h1 _ _
  rw[h1]at e
  injection e with e
  injection e with e1 _ _
  subst e1;exact⟨hg,lt_of_block hb⟩
theorem Eu{w:World}{base:Nat}{v:Value}{l:List Int}(h:aU w base v l){g o c:Nat}{xs:List Int}(hx:Row eI w (some ⟨g,o,none⟩) xs)(hn:l.length+xs.length<=900000000)(hbase:base<=w.heap.size) :
  ∃v' w',(Builtin.append_ #[35,35] 35 #[v,.slice (some ⟨g,o,none⟩) xs.length c]).run prog w=.ok v' w'∧aU w' base v' (l++xs) ∧
   w.grownBy w' v.ownBlock∧(v'.ownBlock=v.ownBlock∨v'.ownBlock=some w.heap.size):=
 ax.app (P:=prog) underlying35 lN rfl (by decide) (by decide) iR zA h (fun _ hn=>by
  obtain⟨b,off,e,hc⟩:=hx hn;refine⟨b,off,e,fun j hj i v hv=>?_⟩;have hi:i=0:=by have:=(List.getElem?_eq_some_iff.1 hv).1;simp[ic]at this;exact this
  subst hi;rw[Nat.mul_one,Nat.add_zero,hc j hj]
  exact hv) (by omega) hbase
theorem TP(A:Option Addr)(t:T)(c:Nat)(ok:Ok t)(hn:t.length<=10000)(k:Nat):∀(i:Int) (w:World),l7 w A t->(i=0∨i∈ids t)->t.length+1<=k+depth t i ->
  Calls prog 28 #[.slice A t.length c,.int .i64 i] w (nU (aF.walk t i) w):=by
 have dY:=Hd ok;have HP:=Hd (fun i w hr=>Hr A t c i w hr (by omega));have HN:=Hd hn;clear ok hn;unfold nU
 induction k with
 |zero=>
  intro i w hr hi hd;have:=nN dY.o hi;omega
 |succ k ih=>
  intro i w hr hi hd
  have HI:Hid (∀x∈kids t i,∀w,l7 w A t->Calls prog 28 #[.slice A t.length c,.int .i64 x] w (nU (aF.walk t x) w)):=fun x hx w hr=>
   ih x w hr (.inr (dY.o.kid hx).1) (by rw[dU dY.o hx];omega)
  have HW:Hid (aF.walk t i=i::(kids t i).flatMap (aF.walk t)):=walk_eq dY.o;have HLW:Hid ((aF.walk t i).length<=10001):=by have:=kN dY.o hi;have:=HN.o;show _<=_;omega
  have HK:=Hd (fun w hr=>HP.o i w hr)
  have HXW:Hid (∀x∈kids t i,(aF.walk t x).length<=10001∧0<(aF.walk t x).length):=fun x hx=>⟨by have:=kN dY.o (.inr (dY.o.kid hx).1);have:=HN.o;omega,BU dY.o x⟩
  have xO:Hid ((kids t i).length<=10000):=Nat.le_trans (gy t i) HN.o;have HR:=Hd hr;clear ih hi hd hr HP dY HN;generalize aF.walk t i=R at*;generalize kids t i=L at*;go_enter func28,ntmps28;have hw0:bz w (w.alloc (.cells #[.int .i64 i] 3)):=bR.alloc nR _;have HW0:=Hd hw0;have HO0:Hid (aU (w.alloc (.cells #[.int .i64 i] 3)) w.heap.size (.slice (some ⟨w.heap.size,0,none⟩) 1 1) [i]):=ax.lit (enc:=ic) iR w [i] nR (by show 1<=maxLen;decide);clear hw0;go_wp2_with (fail)
  refine(HK.o _ (HR.o.below HW0.o)).mono ?_;rintro e w1 ⟨v,rfl,hown,hb⟩;obtain⟨vA,vc,rfl,h1,h2,hrow⟩:=hown.lM;have HB1:=Hd (HW0.o.trans (hb.mono HW0.o.size));have UY:Hid (aU w1 w.heap.size (.slice (some ⟨w.heap.size,0,none⟩) 1 1) [i]):=ax.below HO0.o hb;have Dx:=Hd hrow
  have Yg:Hid (∀b o,vA=some ⟨b,o,none⟩->b≠w.heap.size∧b<w1.heap.size):=fun b o e=>by
   have:=ax.base hown e;simp only[World.size_alloc]at this;omega
  clear hown h1 h2 hrow hb HW0 HO0 HK;go_wp2_with (fail)
  go_loopw [5,7] (fun v x wr=>∃k:Nat,k<=L.length∧x=.int .i64 k∧Hid (aU wr w.heap.size v (i::(L.take k).flatMap (aF.walk t)))∧Hid (bz w wr)∧Hid (w1.heap.size<=wr.heap.size∧(∀g,g<w1.heap.size->g≠w.heap.size->wr.heap[g]?=w1.heap[g]?)∧(∀g,v.ownBlock=some g->g=w.heap.size∨w1.heap.size<=g))) (fun _ x _=>L.length - (intOf x).toNat)
  case atStart=>exact⟨0,Nat.zero_le _,rfl,UY.o,HB1.o,nR,fun _ _ _=>rfl,fun g hg=>.inl (Option.some.inj (show some w.heap.size=some g from hg)).symm⟩
  case round=>
   obtain⟨k,hk,rfl,HO,HB,HG⟩:=hrel;by_cases hlt:k<L.length
   ·have t1:decide (k<L.length)=true:=by simpa using hlt
    obtain⟨b,o,rA,k1⟩:=Dx.o.at_ hlt;have hbb:=Yg.o b o rA;subst rA;have hcell:wr.cell? ⟨b,o+k,none⟩=w1.cell? ⟨b,o+k,none⟩:=by simp only[World.cell?,HG.o.2.1 b hbb.2 hbb.1]
    rw[←hcell]at k1;clear hcell hbb;unfold eI at k1
    have HS:Hid (i::(L.take (k+1)).flatMap (aF.walk t)=(i::(L.take k).flatMap (aF.walk t))++aF.walk t L[k]):=by
     show _=_;rw[List.take_succ_eq_append_getElem hlt,List.flatMap_append];simp
    have HL:Hid ((i::(L.take k).flatMap (aF.walk t)).length<=10001):=by
     have h1:=Ei (l:=L) (aF.walk t) k;have h2:=HLW.o;rw[HW.o]at h2;show _<=_;rw[List.length_cons]at h2 ⊢;omega
    have HKB:=Hd (show k<=10000 by have:=xO.o;omega);have HIX:=Hd (fun w hr=>HI.o _ (List.getElem_mem hlt) w hr);have Ze:=Hd (HXW.o _ (List.getElem_mem hlt))
    obtain⟨l1,hl1⟩:∃x,i::(L.take (k+1)).flatMap (aF.walk t)=x:=⟨_,rfl⟩
    have IJ:=Hd hl1;rw[hl1]at HS;clear hl1;generalize aF.walk t L[k]=wk at*;generalize L[k]=x at*;generalize i::(L.take k).flatMap (aF.walk t)=l at*;have hkb:(k:Int)<=10000:=by have:=HKB.o;omega
    go_wp2_with (fail);refine(HIX.o _ (HR.o.below HB.o)).mono ?_;rintro e w2 ⟨v,rfl,hown,hb⟩;obtain⟨vA,vc2,rfl,h1,h2,hrow⟩:=hown.lM;obtain⟨b3,o3,rfl,-⟩:=hrow.at_ Ze.o.2;have HB2:=Hd (HB.o.trans (hb.mono HB.o.size));obtain⟨v',w7,hrun,iQ,hgr,hat⟩:=Eu (c:=vc2) (ax.below HO.o hb) hrow (by have:=HL.o;have:=Ze.o.1;omega) HB2.o.size;have sN:Hid (bz w w7):=HB2.o.grown hgr HB2.o.size (fun j hj=>(ax.block HO.o hj).1)
    have HG7:Hid (w1.heap.size<=w7.heap.size∧(∀g,g<w1.heap.size->g≠w.heap.size->w7.heap[g]?=w1.heap[g]?)∧(∀g,v'.ownBlock=some g->g=w.heap.size∨w1.heap.size<=g)):=by
     obtain⟨q1,q2,q3⟩:=HG.o;have q4:=hb.size;have q5:=hgr.size;refine⟨by omega,fun g h1 h2=>?_,fun g hg=>?_⟩
     ·rw[hgr.block g (by omega) (fun e=>by have:=q3 g e.symm;omega),hb.block g (by omega)];exact q2 g h1 h2
     ·rcases hat with h|h
      ·exact q3 g (h ▸ hg)
      ·rw[h]at hg
       injection hg with hg
       omega
    have wJ:Hid (aU w7 w.heap.size v' l1):=by rw[HS.o];exact iQ
    clear iQ hgr hat HO HB HG h1 h2 hown hb hrow HB2;go_wp2_with (at_builtin;refine bG rfl _ _ 35 35 35 rfl rfl _ _ _ _ rfl rfl hrun ?_;clear hrun)
    go_roundw
    case rel=>exact⟨k+1,by omega,by go_num,by rw[IJ.o];exact wJ,sN,HG7⟩
    case measure=>simp[intOf];omega
   ·obtain rfl:k=L.length:=by omega
    have hO:=HO.o;rw[List.take_length,←HW.o]at hO;have Lj:=Hd hO;have t1:decide (L.length<L.length)=false:=by simp
    clear hO HO;go_wp2_with (fail);go_ret;exact⟨_,rfl,Lj.o,HB.o⟩
end
section
open Go.RowKit aF
def AA(w:World)(A:Option Addr):Prop:=∀a,A=some a->∃cs fz,w.heap[a.block]?=some (.cells cs 128 fz)
theorem AA.below{w w':World}{A:Option Addr}(h:AA w A)(hb:bz w w'):AA w' A:=fun a e=>by
 obtain⟨cs,fz,h1⟩:=h a e;exact⟨cs,fz,(hb.block _ (lt_of_block h1)).trans h1⟩
def aP(w:World)(v:Value)(t:T):Prop:=∃A c,v=.slice A t.length c∧l7 w A t∧AA w A
theorem aP.below{w w':World}{v:Value}{t:T}(h:aP w v t)(hb:bz w w'):aP w' v t:=by
 obtain⟨A,c,e,hr,hy⟩:=h;exact⟨A,c,e,aV.below hr hb,hy.below hb⟩
theorem aP.D5{w:World}{base:Nat}{v:Value}{t:T}(h:oQ w base v t):aP w v t:=by
 obtain⟨A,c,e,_,_,hr⟩:=ax.row h DV;refine⟨A,c,e,hr,fun a ea=>?_⟩;rcases h.2 with ⟨e2,_⟩|⟨g,cap,cur,e2,_,hb,_⟩
 ·have e3:=e.symm.trans e2
  injection e3 with e4 _ _
  rw[ea]at e4;cases e4
 ·have e3:=e.symm.trans e2
  injection e3 with e4 _ _
  rw[ea]at e4
  injection e4 with e4
  rw[e4];exact⟨cur,_,hb⟩
def YE(r:T×Int)(w:World)(e:Ending)(w':World):Prop:=∃v,e=.returned (.tuple #[v,.int .i64 r.2])∧aP w' v r.1∧bz w w'
theorem a3Z(tv:Value)(t:T)(i p n:Int)(w:World)(hv:aP w tv t)(hn:t.length<=1000) :
  Calls prog 80 #[tv,.int .i64 i,.int .i64 p,.int .i64 n] w (YE (gJ t i p n) w):=by
 unfold YE;obtain⟨A,c,rfl,hr,hy⟩:=hv;have HR:=Hd hr;have HY:=Hd hy;clear hy;have HH:=Hd (fun i w hr=>TV A t c i w hr (by omega));have HK:=Hd (fun i w hr=>Hr A t c i w hr (by omega));have HW:=Hd (fun n w hr hn=>Y4 A t c i p n w hr (by omega) hn);have xO:Hid ((kids t p).length<=1000):=Nat.le_trans (gy t p) hn
 obtain⟨R,hR⟩:=aC (gJ t i p n)
 have HQ:=Hd hR;rw[hR];clear hr hn hR;unfold gJ at HQ;by_cases h1:i<1
 ·have t1:decide (i<1)=true:=decide_eq_true h1;have jP:=Hd (HQ.o.symm.trans (if_pos (.inl h1)));clear h1 HQ HH HK HW xO;go_enter func80,ntmps80;go_wp2_with (fail);go_ret2;rw[jP.o];exact⟨_,rfl,⟨_,_,rfl,HR.o,HY.o⟩,bR⟩
 by_cases h2:65535<i
 ·have t1:decide (i<1)=false:=decide_eq_false h1;have t2:decide (65535<i)=true:=decide_eq_true h2;have jP:=Hd (HQ.o.symm.trans (if_pos (.inr h2)));clear h1 h2 HQ HH HK HW xO;go_enter func80,ntmps80;go_wp2_with (fail);go_ret2;rw[jP.o];exact⟨_,rfl,⟨_,_,rfl,HR.o,HY.o⟩,bR⟩
 have sH:=Hd (HQ.o.symm.trans (if_neg (show ¬(i<1∨65535<i) by omega)));have t1:decide (i<1)=false:=decide_eq_false h1;have t2:decide (65535<i)=false:=decide_eq_false h2;clear h1 h2 HQ;have H1:=Hd (HH.o i);have H2:=Hd (HH.o p);have H3:=Hd (HK.o p);clear HH HK;generalize has t i=b1 at*;generalize has t p=b2 at*;generalize kids t p=L at*;go_enter func80,ntmps80;go_wp2_with (fail);refine(H1.o _ HR.o).mono ?_;rintro e w1 ⟨rfl,hb1⟩;have HB1:=Hd hb1;clear hb1 t1 t2 H1;cases b1 with
 |true=>
  have jP:=Hd (sH.o.trans (if_pos rfl));clear sH;go_wp2_with (fail);go_ret2;rw[jP.o];exact⟨_,rfl,⟨_,_,rfl,aV.below HR.o HB1.o,HY.o.below HB1.o⟩,HB1.o⟩
 |false=>
  have jP:=Hd (sH.o.trans (if_neg (by decide)));clear sH;go_wp2_with (fail);refine(H2.o _ (aV.below HR.o HB1.o)).mono ?_;rintro e w2 ⟨rfl,hb2⟩;have HB2:=Hd (HB1.o.trans (hb2.mono HB1.o.size));clear hb2 HB1 H2;cases b2 with
  |false=>
   have ny:=Hd (jP.o.trans (if_pos rfl));clear jP;go_wp2_with (fail);go_ret2;rw[ny.o];exact⟨_,rfl,⟨_,_,rfl,aV.below HR.o HB2.o,HY.o.below HB2.o⟩,HB2.o⟩
  |true=>
   have ny:=Hd (jP.o.trans (if_neg (by decide)));clear jP;by_cases h3:n<0
   ·have t3:decide (n<0)=true:=decide_eq_true h3;have qj:=Hd (ny.o.trans (if_pos (.inl h3)));clear h3 ny HW H3;go_wp2_with (fail);go_ret2;rw[qj.o];exact⟨_,rfl,⟨_,_,rfl,aV.below HR.o HB2.o,HY.o.below HB2.o⟩,HB2.o⟩
   have t3:decide (n<0)=false:=decide_eq_false h3
   obtain⟨m,rfl⟩:∃m:Nat,n=m:=⟨n.toNat,by omega⟩
   clear h3;go_wp2_with (fail);refine(H3.o _ (aV.below HR.o HB2.o)).mono ?_;rintro e w3 ⟨v,rfl,hown,hb3⟩;obtain⟨vA,vc,rfl,_,_,hrow⟩:=hown.lM;have HB3:=Hd (HB2.o.trans (hb3.mono HB2.o.size));clear hb3 H3 HB2 hown hrow t3;by_cases h4:L.length<m
   ·have t4:decide (L.length<m)=true:=decide_eq_true h4;have qj:=Hd (ny.o.trans (if_pos (.inr (by omega))));clear h4 ny HW;go_wp2_with (fail);go_ret2;rw[qj.o];exact⟨_,rfl,⟨_,_,rfl,aV.below HR.o HB3.o,HY.o.below HB3.o⟩,HB3.o⟩
   ·have t4:decide (L.length<m)=false:=decide_eq_false h4;have qj:=Hd (ny.o.trans (if_neg (by omega)));have HWW:=Hd (fun w hr=>HW.o m w hr (by have:=xO.o;omega));clear h4 ny HW;go_wp2_with (fail);refine(HWW.o _ (aV.below HR.o HB3.o)).mono ?_;rintro e w4 ⟨v,rfl,hown,hb4⟩;have HB4:=Hd (HB3.o.trans (hb4.mono HB3.o.size));have HO:=Hd (aP.D5 hown);clear hb4 hown HWW;go_wp2_with (fail);go_ret2;rw[qj.o];exact⟨_,rfl,HO.o,HB4.o⟩
end
section
open Go.RowKit aF
theorem a2e(tv:Value)(t:T)(i p n:Int)(w:World)(ok:Ok t)(hv:aP w tv t)(hn:t.length<=1000) :
  Calls prog 82 #[tv,.int .i64 i,.int .i64 p,.int .i64 n] w (YE (jT t i p n) w):=by
 unfold YE;obtain⟨A,c,rfl,hr,hy⟩:=hv;have HR:=Hd hr;have HY:=Hd hy;clear hy;have HH:=Hd (fun i w hr=>TV A t c i w hr (by omega));have UH:=Hd (fun w hr=>Xr A t c ok (by omega) i _ p w hr nR);have Wj:=Hd (fun w hr=>Hl A t c i w hr (by omega));have hdl:=TZ t i;have HK:=Hd (fun A c w hr=>Hr A (del i t) c p w hr (by omega));have HW:=Hd (fun A c n w hr hn=>Y4 A (del i t) c i p n w hr (by omega) hn);have xO:Hid ((kids (del i t) p).length<=1000):=Nat.le_trans (gy _ p) (by omega)
 obtain⟨R,hR⟩:=aC (jT t i p n)
 have HQ:=Hd hR;rw[hR];clear hr hn hR ok hdl;unfold jT aF.move at HQ;rw[←tZ]at HQ;generalize del i t=u at*;by_cases h1:i=0
 ·have t1:(i==0)=true:=by simpa using h1
  have jP:=Hd (HQ.o.symm.trans (if_pos h1));clear h1 HQ HH HK HW xO UH Wj;go_enter func82,ntmps82;go_wp2_with (fail);go_ret2;rw[jP.o];exact⟨_,rfl,⟨_,_,rfl,HR.o,HY.o⟩,bR⟩
 have sH:=Hd (HQ.o.symm.trans (if_neg h1));have t1:(i==0)=false:=by simpa using h1
 clear h1 HQ;have H1:=Hd (HH.o i);have H2:=Hd (HH.o p);clear HH;generalize has t i=b1 at*;generalize has t p=b2 at*;generalize within t p i=b3 at*;generalize kids u p=L at*;go_enter func82,ntmps82;go_wp2_with (fail);refine(H1.o _ HR.o).mono ?_;rintro e w1 ⟨rfl,hb1⟩;have HB1:=Hd hb1;clear hb1 t1 H1;cases b1 with
 |false=>
  have jP:=Hd (sH.o.trans (if_pos rfl));clear sH;go_wp2_with (fail);go_ret2;rw[jP.o];exact⟨_,rfl,⟨_,_,rfl,aV.below HR.o HB1.o,HY.o.below HB1.o⟩,HB1.o⟩
 |true=>
  have jP:=Hd (sH.o.trans (if_neg (by decide)));clear sH;go_wp2_with (fail);refine(H2.o _ (aV.below HR.o HB1.o)).mono ?_;rintro e w2 ⟨rfl,hb2⟩;have HB2:=Hd (HB1.o.trans (hb2.mono HB1.o.size));clear hb2 HB1 H2;cases b2 with
  |false=>
   have ny:=Hd (jP.o.trans (if_pos rfl));clear jP;go_wp2_with (fail);go_ret2;rw[ny.o];exact⟨_,rfl,⟨_,_,rfl,aV.below HR.o HB2.o,HY.o.below HB2.o⟩,HB2.o⟩
  |true=>
   have ny:=Hd (jP.o.trans (if_neg (by decide)));clear jP;by_cases h3:p=i
   ·have t3:(p==i)=true:=by simpa using h3
    have qj:=Hd (ny.o.trans (if_pos (.inl h3)));clear h3 ny HW UH Wj HK;go_wp2_with (fail);go_ret2;rw[qj.o];exact⟨_,rfl,⟨_,_,rfl,aV.below HR.o HB2.o,HY.o.below HB2.o⟩,HB2.o⟩
   have t3:(p==i)=false:=by simpa using h3
   have H3:=Hd h3;clear h3;go_wp2_with (fail);refine(UH.o _ (aV.below HR.o HB2.o)).mono ?_;rintro e w3 ⟨rfl,hb3⟩;have HB3:=Hd (HB2.o.trans (hb3.mono HB2.o.size));clear hb3 HB2 UH t3;cases b3 with
   |true=>
    have qj:=Hd (ny.o.trans (if_pos (.inr rfl)));clear ny HW Wj HK H3;go_wp2_with (fail);go_ret2;rw[qj.o];exact⟨_,rfl,⟨_,_,rfl,aV.below HR.o HB3.o,HY.o.below HB3.o⟩,HB3.o⟩
   |false=>
    have qj:=Hd (ny.o.trans (if_neg (by rintro(h|h);exact H3.o h;cases h)));clear ny H3;go_wp2_with (fail);refine(Wj.o _ (aV.below HR.o HB3.o)).mono ?_;rintro e w4 ⟨v,rfl,hown,hb4⟩;have HB4:=Hd (HB3.o.trans (hb4.mono HB3.o.size));obtain⟨uA,uc,rfl,hur,-⟩:=aP.D5 hown;have HU:=Hd hur;clear hb4 hown hur Wj HB3;by_cases h5:n<0
    ·have t5:decide (n<0)=true:=decide_eq_true h5;have NT:=Hd (qj.o.trans (if_pos (.inl h5)));clear h5 qj HW HK;go_wp2_with (fail);go_ret2;rw[NT.o];exact⟨_,rfl,⟨_,_,rfl,aV.below HR.o HB4.o,HY.o.below HB4.o⟩,HB4.o⟩
    have t5:decide (n<0)=false:=decide_eq_false h5
    obtain⟨m,rfl⟩:∃m:Nat,n=m:=⟨n.toNat,by omega⟩
    clear h5;go_wp2_with (fail);refine(HK.o _ _ _ HU.o).mono ?_;rintro e w5 ⟨v,rfl,hown,hb5⟩;obtain⟨vA,vc,rfl,_,_,hrow⟩:=hown.lM;have gI:=Hd (HB4.o.trans (hb5.mono HB4.o.size));have BH:Hid (l7 w5 uA u):=aV.below HU.o hb5;clear hb5 HK HB4 hown hrow t5 HU;by_cases h6:L.length<m
    ·have t6:decide (L.length<m)=true:=decide_eq_true h6;have NT:=Hd (qj.o.trans (if_pos (.inr (by omega))));clear h6 qj HW;go_wp2_with (fail);go_ret2;rw[NT.o];exact⟨_,rfl,⟨_,_,rfl,aV.below HR.o gI.o,HY.o.below gI.o⟩,gI.o⟩
    ·have t6:decide (L.length<m)=false:=decide_eq_false h6;have NT:=Hd (qj.o.trans (if_neg (by omega)));have HWW:=Hd (fun A c w hr=>HW.o A c m w hr (by have:=xO.o;omega));clear h6 qj HW;go_wp2_with (fail);refine(HWW.o _ _ _ BH.o).mono ?_;rintro e w6 ⟨v,rfl,hown,hb6⟩;have sD:=Hd (gI.o.trans (hb6.mono gI.o.size));have HO:=Hd (aP.D5 hown);clear hb6 hown HWW;go_wp2_with (fail);go_ret2;rw[NT.o];exact⟨_,rfl,HO.o,sD.o⟩
def a2s(r:T×List Int×Int)(w:World)(e:Ending)(w':World):Prop:=∃v u,e=.returned (.tuple #[v,u,.int .i64 r.2.2])∧aP w' v r.1∧aU w' w.heap.size u r.2.1∧bz w w'
theorem a3Y(tv:Value)(t:T)(i:Int)(w:World)(ok:Ok t)(hv:aP w tv t)(hn:t.length<=1000) :
  Calls prog 81 #[tv,.int .i64 i] w (a2s (jF t i) w):=by
 unfold a2s;obtain⟨A,c,rfl,hr,hy⟩:=hv;have HR:=Hd hr;have HY:=Hd hy;clear hy
 obtain⟨R,hR⟩:=aC (jF t i)
 have HQ:=Hd hR;rw[hR];have HN:=Hd hn;have dY:=Hd ok;clear hr hR ok hn;unfold jF at HQ;by_cases h1:i=0
 ·have t1:(i==0)=true:=by simpa using h1
  have jP:=Hd (HQ.o.symm.trans (if_pos h1));clear h1 HQ;go_enter func81,ntmps81;go_wp2_with (fail)
  go_ret3
  rw[jP.o];exact⟨_,_,rfl,⟨_,_,rfl,HR.o,HY.o⟩,ax.nil _ _,bR⟩
 have sH:=Hd (HQ.o.symm.trans (if_neg h1));have t1:(i==0)=false:=by simpa using h1
 have H0:=Hd h1;clear h1 HQ;have H1:=Hd (fun w hr=>TV A t c i w hr (by have:=HN.o;omega))
 obtain⟨b1,hb1⟩:=aC (has t i)
 have HB:=Hd hb1;rw[hb1]at H1 sH;clear hb1;go_enter func81,ntmps81;go_wp2_with (fail);refine(H1.o _ HR.o).mono ?_;rintro e w1 ⟨rfl,hb1⟩;have HB1:=Hd hb1;clear hb1 t1 H1;cases b1 with
 |false=>
  have jP:=Hd (sH.o.trans (if_pos rfl));clear sH;go_wp2_with (fail)
  go_ret3
  rw[jP.o];exact⟨_,_,rfl,⟨_,_,rfl,aV.below HR.o HB1.o,HY.o.below HB1.o⟩,ax.nil _ _,HB1.o⟩
 |true=>
  have jP:=Hd (sH.o.trans (if_neg (by decide)));have hi:i∈ids t:=(ah.1 HB.o).resolve_left H0.o;have HW:=Hd (fun w hr=>TP A t c dY.o (by have:=HN.o;omega) (t.length+1) i w hr (.inr hi) (by omega));have HL:Hid ((aF.walk t i).length<=1001):=by have:=kN dY.o (.inr hi);have:=HN.o;show _<=_;omega
  rw[←vP]at jP;clear sH hi HB H0 dY;generalize aF.walk t i=G at*;go_wp2_with (fail);refine(HW.o _ (aV.below HR.o HB1.o)).mono ?_;rintro e w2 ⟨v,rfl,hown,hb2⟩;obtain⟨vA,vc,rfl,_,_,hrow⟩:=hown.lM;have HB2:=Hd (HB1.o.trans (hb2.mono HB1.o.size));have HG:=Hd hrow;have HOW:=Hd (ax.weaken hown HB1.o.size);clear hb2 HB1 hown hrow HW;go_wp2_with (fail)
  go_loopw [0,8] (fun v x wr=>∃k:Nat,k<=G.length∧x=.int .i64 k∧Hid (aP wr v ((G.take k).foldl (fun u g=>del g u) t))∧Hid (bz w2 wr)) (fun _ x _=>G.length - (intOf x).toNat)
  case atStart=>exact⟨0,Nat.zero_le _,rfl,⟨_,_,rfl,aV.below HR.o HB2.o,HY.o.below HB2.o⟩,bR⟩
  case round=>
   obtain⟨k,hk,rfl,HD,HB⟩:=hrel;by_cases hlt:k<G.length
   ·have t1:decide (k<G.length)=true:=by simpa using hlt
    obtain⟨b,o,rA,k1'⟩:=HG.o.in_ hlt;subst rA;have k1:=k1' _ HB.o;clear k1';unfold eI at k1
    have HS:Hid ((G.take (k+1)).foldl (fun u g=>del g u) t=del G[k] ((G.take k).foldl (fun u g=>del g u) t)):=by
     show _=_;rw[List.take_succ_eq_append_getElem hlt,List.foldl_append];rfl
    have HTL:Hid (((G.take k).foldl (fun u g=>del g u) t).length<=1000):=by
     rw[vP];exact Nat.le_trans (List.length_filter_le _ _) HN.o
    obtain⟨t1',ht1⟩:∃x,(G.take (k+1)).foldl (fun u g=>del g u) t=x:=⟨_,rfl⟩
    have HT1:=Hd ht1;rw[ht1]at HS;clear ht1;generalize (G.take k).foldl (fun u g=>del g u) t=tk at*;generalize G[k]=x at*;obtain⟨dA,dc,rfl,hdr,-⟩:=HD.o;have HC:=Hd (Hl dA tk dc x wr hdr (by have:=HTL.o;omega));have hkb:(k:Int)<=10000:=by have:=HL.o;omega
    clear hdr HD;go_wp2_with (fail);refine HC.o.mono ?_;rintro e w3 ⟨v,rfl,hown,hb3⟩;have HB3:Hid (bz w2 w3):=HB.o.trans (hb3.mono HB.o.size);have HD3:Hid (aP w3 v t1'):=by rw[HS.o];exact aP.D5 hown
    clear hown hb3 HC;go_wp2_with (fail)
    go_roundw
    case rel=>exact⟨k+1,by omega,by go_num,by rw[HT1.o];exact HD3,HB3⟩
    case measure=>simp[intOf];omega
   ·obtain rfl:k=G.length:=by omega
    have hD:=HD.o;rw[List.take_length]at hD;have HD2:=Hd hD;have t1:decide (G.length<G.length)=false:=by simp
    clear hD HD;go_wp2_with (fail)
    go_ret3
    rw[jP.o];exact⟨_,_,rfl,HD2.o,ax.below HOW.o HB.o,HB2.o.trans (HB.o.mono HB2.o.size)⟩
end
section
open Go.RowKit Go.Maps omap Go.WideShapes
abbrev lt:Int->Int->Bool:=fun a b=>decide (a<b)
theorem ord:omap.Ord lt where
 irr a:=by simp
 tr a b c h1 h2:=by
  simp only[decide_eq_true_eq]at *;omega
 tot a b h1 h2:=by
  simp only[decide_eq_false_iff_not]at *;omega
def mJ:Value->Option (DataW Unit×List MemPlace)
 |.pointer (some ⟨g,0,none⟩)=>some (.lit (.int .i64 (g:Int)),[])
 |.pointer none=>some (.nil,[])
 |_=>none
theorem DW(g:Nat):mJ (.pointer (some ⟨g,0,none⟩))=some (.lit (.int .i64 (g:Int)),[]):=rfl
theorem Gf{v:Value}{g:Nat}{ps:List MemPlace}(h:mJ v=some (.lit (.int .i64 (g:Int)),ps)):v=.pointer (some ⟨g,0,none⟩):=by
 unfold mJ at h;split at h
 ·simp only[Option.some.injEq,Prod.mk.injEq,DataW.lit.injEq,Lit.int.injEq,true_and]at h;have:=h.1
  congr
  omega
 ·simp at h
 ·cases h
theorem F9{v:Value}{ps:List MemPlace}(h:mJ v=some (.nil,ps)):v=.pointer none:=by
 unfold mJ at h;split at h
 ·simp at h
 ·rfl
 ·cases h
abbrev L:=List (Int×Nat)
def enc1(x:Int×Nat):Lit×DataW Unit:=(.int .i64 x.1,.lit (.int .i64 (x.2:Int)))
def mapOf(l:L):DataW Unit:=.map (l.map enc1)
theorem yR(l:L):Maps.size (mapOf l)=l.length:=by simp[mapOf,Maps.size]
theorem wY(x:Int×Nat)(k:Int):(enc1 x).1.sameKey (.int .i64 k)=decide (x.1=k):=by
 simp only[enc1,Lit.sameKey];exact Bool.eq_iff_iff.2 (by simp)
theorem uk(l:L)(k:Int):(l.map enc1).filter (fun p=>!p.1.sameKey (.int .i64 k))=(del k l).map enc1:=by
 unfold del;rw[List.filter_map]
 congr 1
 refine List.filter_congr fun x _=>?_;simp[wY]
theorem uh(k:Int)(g:Nat):∀l:L,DataW.insert (enc1 (k,g)) (l.map enc1)=(ins lt k g l).map enc1
 |[]=>rfl
 |y::l=>by
  unfold ins;rw[List.map_cons,DataW.insert];have:(enc1 (k,g)).1.before (enc1 y).1=lt k y.1:=rfl;rw[this];split
  ·rfl
  ·rw[uh k g l,List.map_cons]
theorem PR(l:L)(k:Int):(mapOf l).del (.int .i64 k)=mapOf (del k l):=by
 unfold mapOf DataW.del;simp only[uk]
theorem OA(l:L)(k:Int)(g:Nat):(mapOf l).put (.int .i64 k) (.lit (.int .i64 (g:Int)))=mapOf (put lt k g l):=by
 unfold mapOf DataW.put;simp only[uk];rw[show((Lit.int .i64 k,DataW.lit (Lit.int IntKind.i64 (g:Int))):Lit×DataW Unit)=enc1 (k,g) from rfl,uh];rfl
theorem Ie(l:L)(k:Int):(mapOf l).atKey (.int .i64 k) .nil=match omap.look l k with|some g=>.lit (.int .i64 (g:Int))|none=>.nil:=by
 induction l with
 |nil=>rfl
 |cons x l ih=>
  unfold mapOf DataW.atKey at ih ⊢;rw[dS];simp only[List.map_cons,List.find?_cons,wY]at ih ⊢;by_cases h:x.1=k
  ·simp[h,enc1]
  ·simp only[h,decide_false,if_false];exact ih
structure MapAt(w:World)(m:Nat)(l:L):Prop where
 rises:mP lt l
 own:w.ownsMap prog 3 mJ m l.length (mapOf l)
 few:l.length<=1073741824
theorem oG:Keyed prog 3:=int_keyed underlying3
theorem LH(w:World):(zeroValue 191).run prog w=.ok (.pointer none) w:=by kernel_rfl
def ptrTo:Option Nat->Value
 |some g=>.pointer (some ⟨g,0,none⟩)
 |none=>.pointer none
section
variable {w w':World}{m:Nat}{l:L}
theorem MapAt.inside(h:MapAt w m l):m<w.heap.size:=h.own.lt
theorem MapAt.stays(h:MapAt w m l)(hb:w'.heap[m]?=w.heap[m]?):MapAt w' m l:=by
 obtain⟨es,clock,h1,h2⟩:=h.own;exact⟨h.rises,⟨es,clock,hb.trans h1,h2⟩,h.few⟩
theorem rM{i:Int}(hi:I64 i):keyOf prog 3 (.int .i64 i)=some (.int .i64 i):=Go.Maps.keyOf_int_mk underlying3 (by
 obtain⟨h1,h2⟩:=hi;simp only[Lit.wf];rw[Bool.and_eq_true,decide_eq_true_eq,decide_eq_true_eq]
 exact⟨h1,h2⟩)
theorem MapAt.lookup(h:MapAt w m l){i:Int}(hs:I64 i) :
  (Instr.lookup 195 (.map (some m)) (.int .i64 i) false).run prog w=.ok (ptrTo (omap.look l i)) w:=by
 obtain⟨v,ps,hrun,hv⟩:=h.own.lookup oG underlying195 (LH w) (zd:=.nil) (zp:=[]) rfl (rM hs);rw[hrun];rw[Ie]at hv;cases hl:omap.look l i with
 |none=>rw[hl]at hv;rw[F9 hv];rfl
 |some g=>rw[hl]at hv;rw[Gf hv];rfl
theorem MapAt.len(h:MapAt w m l)(ty:TypeId):(Builtin.len_ #[195] ty #[.map (some m)]).run prog w=.ok (.int .i64 (l.length:Nat)) w:=by
 rw[h.own.len underlying195 ty,yR]
theorem again{w:World}{m n:Nat}{l:L}(h:w.ownsMap prog 3 mJ m n (mapOf l)):w.ownsMap prog 3 mJ m l.length (mapOf l):=by
 obtain⟨es,clock,h1,h2,_,h4⟩:=h;refine⟨es,clock,h1,h2,?_,h4⟩;have e:Maps.size (mapOf l)=es.size:=by rw[h4];simp[Maps.size,length_sorted]
 rw[yR]at e;omega
theorem MapAt.store(h:MapAt w m l){i:Int}(hs:I64 i)(g:Nat)(hn:(put lt i g l).length<=1073741824) :
  ∃w',(Instr.mapUpdate 195 (.map (some m)) (.int .i64 i) (.pointer (some ⟨g,0,none⟩))).run prog w=.ok () w'∧MapAt w' m (put lt i g l)∧w.grownBy w' (some m):=by
 obtain⟨w',hrun,ho,hg⟩:=h.own.update oG underlying195 (by have:=h.few;unfold maxLen;omega) (rM hs) (DW g);rw[OA]at ho;exact⟨w',hrun,⟨CE ord h.rises,again ho,hn⟩,hg⟩
theorem MapAt.drop(h:MapAt w m l){i:Int}(hs:I64 i)(ty:TypeId) :
  ∃w',(Builtin.delete_ #[195,3] ty #[.map (some m),.int .i64 i]).run prog w=.ok (.tuple #[]) w'∧MapAt w' m (del i l)∧w.grownBy w' (some m):=by
 obtain⟨w',hrun,ho,hg⟩:=h.own.drop oG underlying195 (rM hs) ty;rw[PR]at ho;exact⟨w',hrun,⟨vg h.rises,again ho,Nat.le_trans (List.length_filter_le _ _) h.few⟩,hg.grown⟩
end
theorem Jz(w:World):MapAt (w.alloc (.map #[] 0)) w.heap.size []:=
 ⟨List.Pairwise.nil,World.ownsMap_made _ _ _ _,by simp⟩
end
section
open Go.RowKit aF
abbrev bF:=Nat->Prop
structure ae(S S':bF)(w w':World):Prop where
 os:w'.os=w.os
 tape:w'.tape=w.tape
 output:w'.output=w.output
 size:w.heap.size<=w'.heap.size
 far:∀k,k<w.heap.size->¬S k->¬S' k∧w'.heap[k]?=w.heap[k]?
theorem ae.refl(S:bF)(w:World):ae S S w w:=⟨rfl,rfl,rfl,nR,fun _ _ h=>⟨h,rfl⟩⟩
theorem ae.trans{S S' S'':bF}{w w' w'':World}(h:ae S S' w w')(k:ae S' S'' w' w''):ae S S'' w w'':=
 ⟨k.os.trans h.os,k.tape.trans h.tape,k.output.trans h.output,Nat.le_trans h.size k.size,fun j hj hn=>by
  obtain⟨h1,h2⟩:=h.far j hj hn;obtain⟨k1,k2⟩:=k.far j (Nat.lt_of_lt_of_le hj h.size) h1
  exact⟨k1,k2.trans h2⟩⟩
theorem ae.below{S:bF}{w w':World}(hb:bz w w'):ae S S w w':=⟨hb.os,hb.tape,hb.output,hb.size,fun k hk hn=>⟨hn,hb.block k hk⟩⟩
theorem ae.aQ{S S':bF}{w w':World}{B:Nat}(h:ae S S' w w')(hB:B<=w.heap.size)(hS:∀g,S g->B<=g):Below B w w':=
 ⟨h.os,h.tape,h.output,h.size,fun k hk=>(h.far k (by omega) (fun e=>by have:=hS k e;omega)).2⟩
theorem ae.set{S:bF}{w:World}{a:Addr}(h:S a.block)(u:Value):ae S S w (w.setCell a u):=
 ⟨rfl,rfl,rfl,by simp[World.setCell],fun k _ hn=>⟨hn,heap_setCell_other _ _ _ _ (fun e=>hn (e ▸ h))⟩⟩
theorem ae.grown{S:bF}{w w':World}{row:Option Nat}(hg:w.grownBy w' row)(hr:∀k,row=some k->S k):ae S S w w':=
 ⟨hg.os,hg.tape,hg.output,hg.size,fun k hk hn=>⟨hn,hg.block k hk (fun e=>hn (hr k e.symm))⟩⟩
theorem ae.sub{S S' S2:bF}{w w':World}(h:ae S S' w w')(hs:∀k,S2 k->S' k∨(w.heap.size<=k)):ae S S2 w w':=
 ⟨h.os,h.tape,h.output,h.size,fun k hk hn=>⟨fun e=>by
  rcases hs k e with h1|h1
  ·exact(h.far k hk hn).1 h1
  ·omega,(h.far k hk hn).2⟩⟩
theorem ae.more{S S' S2:bF}{w w':World}(h:ae S S' w w')(hs:∀k,S k->S2 k):ae S2 (fun k=>S2 k∨S' k) w w':=
 ⟨h.os,h.tape,h.output,h.size,fun k hk hn=>by
  have h1:=h.far k hk (fun e=>hn (hs k e))
  exact⟨fun e=>e.elim hn h1.1,h1.2⟩⟩
def au(w:World)(g:Nat)(cs:List Value)(T:TypeId):Prop:=w.heap[g]?=some (.cells cs.toArray T (0,0))
section
variable {w w':World}{g:Nat}{cs:List Value}{T:TypeId}
theorem au.blk(h:au w g cs T):az w g cs:=⟨T,h⟩
theorem au.inside(h:au w g cs T):g<w.heap.size:=lt_of_block h
theorem au.stays(h:au w g cs T)(hb:w'.heap[g]?=w.heap[g]?):au w' g cs T:=hb.trans h
theorem au.new(w:World)(cs:List Value)(T:TypeId):au (w.alloc (.cells cs.toArray T)) w.heap.size cs T:=heap_alloc_new w _
theorem au.set(h:au w g cs T)(i:Nat)(u:Value):au (w.setCell ⟨g,i,none⟩ u) g (cs.set i u) T:=by
 obtain⟨T',h'⟩:=h.blk.set i u;have hlt:=h.inside;have e:w.heap[g]=.cells cs.toArray T (0,0):=by simpa[au,Array.getElem?_eq_getElem hlt]using h
 show(w.heap.modify g _)[g]?=_;rw[Array.getElem?_eq_getElem (by simpa using hlt),Array.getElem_modify_self,e];simp
end
abbrev mG:TypeId:=194
abbrev jg:TypeId:=191
abbrev yL:TypeId:=197
def kc(o:Option Nat):List Value:=[ptrTo o]
theorem SX(o:Option Nat):(kc o).length=1:=rfl
theorem SV(o:Option Nat):∀u∈kc o,u.oneCell'=true:=by
 intro u hu;simp only[kc,List.mem_singleton]at hu;subst hu;cases o<;>rfl
theorem Nb(l:List (Option Nat)):l.flatMap kc=l.map ptrTo:=by
 induction l with
 |nil=>rfl
 |cons x l ih=>rw[List.flatMap_cons,ih,List.map_cons];rfl
abbrev nV(w:World)(v:Value)(l:List (Option Nat)):Prop:=ax jg 1 kc w 0 v l
theorem nV.typed{w:World}{v:Value}{l:List (Option Nat)}(h:nV w v l){g:Nat}(hg:v.ownBlock=some g):∃cur fr,w.heap[g]?=some (.cells cur jg fr):=by
 rcases h.2 with ⟨rfl,h0⟩|⟨g',cap,cur,rfl,_,hb,_⟩
 ·cases hg
 ·obtain rfl:g'=g:=Option.some.inj hg;exact⟨cur,_,hb⟩
theorem nV.dR{w:World}{v:Value}{l:List (Option Nat)}(h:nV w v l){g:Nat}(hg:v.ownBlock=some g){cs:List Value}{T:TypeId}(hb:au w g cs T)(hT:T≠jg):False:=by
 obtain⟨cur,fr,h1⟩:=h.typed hg;have:=hb.symm.trans h1;simp only[Option.some.injEq,Obj.cells.injEq]at this;exact hT this.2.1
theorem MapAt.dR{w:World}{m:Nat}{es:L}(h:MapAt w m es){cs:List Value}{T:TypeId}(hb:au w m cs T):False:=by
 obtain⟨es',clock,h1,_⟩:=h.own;have:=hb.symm.trans h1;cases this
theorem MapAt.D6{w:World}{m:Nat}{es:L}(h:MapAt w m es){v:Value}{l:List (Option Nat)}(hk:nV w v l)(hg:v.ownBlock=some m):False:=by
 obtain⟨es',clock,h1,_⟩:=h.own;obtain⟨cur,fr,h2⟩:=hk.typed hg;have:=h2.symm.trans h1;cases this
structure Sh where
 m:Nat
 g:Int->Nat
 v:Int->Value
def ks(s:Sh)(l:List Int):List (Option Nat):=l.map fun k=>some (s.g k)
structure qg(w:World)(g:Nat)(i:Int)(p:Option Nat)(v:Value)(l:List (Option Nat)):Prop where
 blk:au w g [.int .i64 i,ptrTo p,v] mG
 own:nV w v l
def jL(b:Nat)(s:Sh)(H:Int->Prop):bF:=fun k=>k=b∨k=s.m∨∃i,H i∧(k=s.g i∨(s.v i).ownBlock=some k)
structure Raw(w:World)(b:Nat)(s:Sh)(H:Int->Prop)(P:Int->Option Int)(K:Int->List Int):Prop where
 blk:au w b [.map (some s.m)] yL
 map:∃es,MapAt w s.m es∧∀i g,omap.look es i=some g↔H i∧s.g i=g
 node:∀i,H i->qg w (s.g i) i ((P i).map s.g) (s.v i) (ks s (K i))
 inj:∀i j,H i->H j->s.g i=s.g j->i=j
 apart:∀i j k,H i->H j->(s.v i).ownBlock=some k->(s.v j).ownBlock=some k->i=j
section
variable {w w':World}{b:Nat}{s:Sh}{H:Int->Prop}{P:Int->Option Int}{K:Int->List Int}
theorem qg.stays{g:Nat}{i:Int}{p:Option Nat}{v:Value}{l:List (Option Nat)}(h:qg w g i p v l)(h1:w'.heap[g]?=w.heap[g]?)(h2:∀k,v.ownBlock=some k->w'.heap[k]?=w.heap[k]?):qg w' g i p v l:=
 ⟨h.blk.stays h1,h.own.stays h2⟩
theorem Raw.inside(h:Raw w b s H P K):∀k,jL b s H k->k<w.heap.size:=by
 rintro k (rfl|rfl|⟨i,hi,rfl|hk⟩)
 ·exact h.blk.inside
 ·obtain⟨es,hm,_⟩:=h.map;exact hm.inside
 ·exact(h.node i hi).blk.inside
 ·exact(ax.block (h.node i hi).own hk).2
theorem Raw.stays(h:Raw w b s H P K)(hb:∀k,jL b s H k->w'.heap[k]?=w.heap[k]?):Raw w' b s H P K:=by
 refine⟨h.blk.stays (hb _ (.inl rfl)),?_,fun i hi=>(h.node i hi).stays (hb _ (.inr (.inr ⟨i,hi,.inl rfl⟩))) fun k hk=>hb _ (.inr (.inr ⟨i,hi,.inr hk⟩)),h.inj,h.apart⟩;obtain⟨es,hm,hl⟩:=h.map;exact⟨es,hm.stays (hb _ (.inr (.inl rfl))),hl⟩
theorem Raw.below(h:Raw w b s H P K)(hb:bz w w'):Raw w' b s H P K:=h.stays fun k hk=>hb.block k (h.inside k hk)
theorem Raw.look(h:Raw w b s H P K){i:Int}(hi:I64 i) :
  ∃o:Option Nat,(Instr.lookup 195 (.map (some s.m)) (.int .i64 i) false).run prog w=.ok (ptrTo o) w∧(∀g,o=some g↔H i∧s.g i=g):=by
 obtain⟨es,hm,hl⟩:=h.map;exact⟨_,hm.lookup hi,hl i⟩
theorem Raw.ik(h:Raw w b s H P K){i:Int}(hi:I64 i)(hh:H i) :
  (Instr.lookup 195 (.map (some s.m)) (.int .i64 i) false).run prog w=.ok (.pointer (some ⟨s.g i,0,none⟩)) w:=by
 obtain⟨o,h1,h2⟩:=h.look hi;rw[(h2 (s.g i)).2 ⟨hh,rfl⟩]at h1;exact h1
theorem Raw.fB(h:Raw w b s H P K){i:Int}(hi:I64 i)(hh:¬H i) :
  (Instr.lookup 195 (.map (some s.m)) (.int .i64 i) false).run prog w=.ok (.pointer none) w:=by
 obtain⟨o,h1,h2⟩:=h.look hi;cases o with
 |none=>exact h1
 |some g=>exact absurd ((h2 g).1 rfl).1 hh
theorem Raw.cells(h:Raw w b s H P K){i:Int}(hi:H i):(w.cell? ⟨s.g i,0,none⟩=some (.int .i64 i)∧w.cell? ⟨s.g i,1,none⟩=some (ptrTo ((P i).map s.g))∧w.cell? ⟨s.g i,2,none⟩=some (s.v i)) ∧
  (w.frozen? ⟨s.g i,0,none⟩=false∧w.frozen? ⟨s.g i,1,none⟩=false∧w.frozen? ⟨s.g i,2,none⟩=false)∧s.g i<w.heap.size:=by
 have:=(h.node i hi).blk.blk;exact⟨⟨this.cell 0,this.cell 1,this.cell 2⟩,⟨this.free 0,this.free 1,this.free 2⟩,this.inside⟩
theorem Raw.top(h:Raw w b s H P K):w.cell? ⟨b,0,none⟩=some (.map (some s.m))∧b<w.heap.size:=⟨h.blk.blk.cell 0,h.blk.inside⟩
end
def Bi(t:T)(i:Int):Option Int:=if i=0 then none else some (par t i)
abbrev eH(t:T):Int->Prop:=fun i=>has t i=true
abbrev a2t(w:World)(b:Nat)(s:Sh)(t:T):Prop:=Raw w b s (eH t) (Bi t) (kids t)
structure aX(w:World)(b:Nat)(s:Sh)(t:T):Prop where
 raw:a2t w b s t
 ok:Ok t
abbrev gq(b:Nat)(s:Sh)(t:T):bF:=jL b s (eH t)
theorem aX.below{w w':World}{b:Nat}{s:Sh}{t:T}(h:aX w b s t)(hb:bz w w'):aX w' b s t:=⟨h.raw.below hb,h.ok⟩
theorem aX.stays{w w':World}{b:Nat}{s:Sh}{t:T}(h:aX w b s t)(hb:∀k,gq b s t k->w'.heap[k]?=w.heap[k]?):aX w' b s t:=⟨h.raw.stays hb,h.ok⟩
theorem qF{t:T}(ok:Ok t){i:Int}(h:¬has t i=true):kids t i=[]:=by
 have h1:=yf h;rw[List.eq_nil_iff_forall_not_mem];intro k hk;have:=ok.pin _ (fU.1 hk);simp only at this;exact this.elim h1.1 h1.2
end
section
open Go.RowKit aF
theorem Us{l:List Int}{P:Int->Bool}{k:Nat}(hk:k<l.length)(h:(l.take k).all P=true)(h1:P l[k]=true):(l.take (k+1)).all P=true:=by
 rw[List.take_succ_eq_append_getElem hk,List.all_append,h];simp[h1]
theorem XH{l:List Int}{P:Int->Bool}{k:Nat}(hk:k<l.length)(h1:P l[k]=false):l.all P=false:=by
 rw[List.all_eq_false];exact⟨l[k],List.getElem_mem hk,by simp[h1]⟩
section
variable {w:World}{b:Nat}{s:Sh}{t:T}
theorem Wu(h:aX w b s t)(A:Option Addr)(l:List Int)(c:Nat)(hr:Row eI w A l)(hi:∀x∈l,I64 x)(hn:l.length<=100000) :
  Calls prog 186 #[.pointer (some ⟨b,0,none⟩),.slice A l.length c] w (aZ (.bool (l.all (has t))) w):=by
 obtain⟨c0,bi⟩:=h.raw.top;have HRW:=Hd h.raw;have HR:=Hd hr;have HI:=Hd hi;have HN:=Hd hn;clear h hr hi hn;go_enter func186,ntmps186;go_wp2_with (fail)
 go_loopw [9] (fun x wr=>∃k:Nat,k<=l.length∧x=.int .i64 k∧Hid ((l.take k).all (has t)=true)∧Hid (wr=w)) (fun x _=>l.length - (intOf x).toNat)
 case atStart=>exact⟨0,Nat.zero_le _,rfl,by show _=_;simp,rfl⟩
 case round=>
  obtain⟨k,hk,rfl,HK,HW⟩:=hrel;obtain rfl:=HW.o;by_cases hlt:k<l.length
  ·have t1:decide (k<l.length)=true:=by simpa using hlt
   obtain⟨b2,o2,rfl,k1⟩:=HR.o.at_ hlt;have HS:=Hd (Us (P:=has t) hlt HK.o);have HT:=Hd (XH (P:=has t) hlt);have hix:=HI.o _ (List.getElem_mem hlt);have HB:=Hd (show k<=100000 by have:=HN.o;omega);generalize l[k]=x at*;unfold eI at k1;by_cases hx:has t x=true
   ·have hlk:=HRW.o.ik hix hx;have HS2:=Hd (HS.o hx);have hkb:(k:Int)<=100000:=by have:=HB.o;omega
    clear HS HT hx hix HB;go_wp2_with (fail)
    go_roundw
    case rel=>exact⟨k+1,by omega,by go_num,HS2,by trivial⟩
    case measure=>simp[intOf];omega
   ·have hlk:=HRW.o.fB hix hx;have HT2:=Hd (HT.o (by simpa using hx));have hkb:(k:Int)<=100000:=by have:=HB.o;omega
    clear HS HT hx hix HB;go_wp2_with (fail);go_ret;exact⟨aI HT2.o.symm,bR⟩
  ·obtain rfl:k=l.length:=by omega
   have HF:Hid (l.all (has t)=true):=by have h:=HK.o;rw[List.take_length]at h;exact h
   have t1:decide (l.length<l.length)=false:=by simp
   go_wp2_with (fail);go_ret;exact⟨aI HF.o.symm,bR⟩
theorem fO{i:Int}(h0:i≠0):Bi t i=some (par t i):=if_neg h0
theorem yI:Bi t 0=none:=rfl
theorem RP(ok:Ok t):par t 0=-1:=par_none fun h=>ok.uK h rfl
theorem xY(h:aX w b s t)(i:Int)(hi:I64 i) :
  Calls prog 189 #[.pointer (some ⟨b,0,none⟩),.int .i64 i] w (aZ (.int .i64 (par t i)) w):=by
 obtain⟨c0,bi⟩:=h.raw.top;by_cases hx:has t i=true
 ·have hlk:=h.raw.ik hi hx;obtain⟨⟨n0,n1,n2⟩,-,ni⟩:=h.raw.cells (i:=i) hx;by_cases h0:i=0
  ·subst h0;have HQ:=Hd (RP h.ok);rw[yI]at n1;simp only[Option.map_none,ptrTo]at n1;clear h hi hx n0 n2;go_enter func189,ntmps189;go_wp2_with (fail);go_ret;exact⟨aB HQ.o.symm,bR⟩
  ·rw[fO h0]at n1;have hp:eH t (par t i):=ah.2 (h.ok.fQ ((ah.1 hx).resolve_left h0));obtain⟨⟨m0,-,-⟩,-,mi⟩:=h.raw.cells hp;simp only[Option.map_some,ptrTo]at n1;clear h hi hx n0 n2 h0 hp;go_enter func189,ntmps189;go_wp2_with (fail);go_ret;exact⟨rfl,bR⟩
 ·have hlk:=h.raw.fB hi hx;have HQ:=Hd (par_none (yf hx).2);clear h hi hx;go_enter func189,ntmps189;go_wp2_with (fail);go_ret;exact⟨aB HQ.o.symm,bR⟩
end
end
section
open Go.RowKit aF
theorem Gw(z:Value)(n:Nat)(hz:z.cells=#[z]):madeCells z.cells n=(List.replicate n z).toArray:=by
 rw[hz];apply Array.ext
 ·rw[size_madeCells];simp
 ·intro i h1 h2;simp[madeCells,Nat.mod_one]
theorem SG(w:World)(n:Nat)(hn:n<=20000000):(Instr.makeSlice 35 (.int .i64 (n:Nat)) (.int .i64 (n:Nat))).run prog w=.ok (.slice (some ⟨w.heap.size,0,none⟩) n n) (w.alloc (.cells ((List.replicate n 0).map eI).toArray 3)):=by
 obtain⟨i,hi,hz,hsize,hby⟩:=info_parts lN;have h:=run_make (P:=prog) w 35 3 i (.int .i64 0) underlying35 hi hz .i64 .i64 n n (by omega) (by omega) (by rw[hby];omega) (by omega);rw[hsize,Int.toNat_natCast,Nat.mul_one,Gw _ _ rfl]at h;rw[List.map_replicate];exact h
def um{α:Type}(z:α)(L:List α)(k:Nat):List α:=L.take k++List.replicate (L.length - k) z
theorem PD{α:Type}(z:α)(L:List α):um z L L.length=L:=by simp[um]
theorem Pz{α:Type}(z:α)(L:List α){k:Nat}(hk:k<L.length):(um z L k).set k L[k]=um z L (k+1):=by
 unfold um;rw[List.set_append_right _ _ (by rw[List.length_take];omega),List.length_take,Nat.min_eq_left (Nat.le_of_lt hk),Nat.sub_self,show L.length - k=(L.length - (k+1))+1 by omega,List.replicate_succ,List.set_cons_zero,List.take_succ_eq_append_getElem hk,List.append_assoc];rfl
theorem aU.ZQ{w:World}{base g:Nat}{l:List Int}(h:au w g (l.map eI) 3)(hb:base<=g)(hm:l.length<=100000):aU w base (.slice (some ⟨g,0,none⟩) l.length l.length) l:=by
 have e:∀l:List Int,l.flatMap ic=l.map eI:=fun l=>by
  induction l with
  |nil=>rfl
  |cons x l ih=>rw[List.flatMap_cons,ih,List.map_cons];rfl
 show World.ownsRow _ _ _ _ _ _ _;rw[e];refine⟨by simp,.inr ⟨g,l.length,_,rfl,hb,h,nR,by unfold maxLen;omega,by simp,?_⟩⟩;simp[List.take_of_length_le]
section
variable {w:World}{b:Nat}{s:Sh}{t:T}
theorem nV.at_{v:Value}{l:List (Option Nat)}(h:nV w v l):∃A c,v=.slice A l.length c∧l.length<=c∧c<=maxLen∧∀j (hj:j<l.length),∃g,A=some ⟨g,0,none⟩∧v.ownBlock=some g∧w.cell? ⟨g,j,none⟩=some (ptrTo l[j]):=by
 obtain⟨A,c,e,h1,h2,hr⟩:=ax.row h SX;refine⟨A,c,e,h1,h2,fun j hj=>?_⟩;subst e;rcases h.2 with ⟨e,_⟩|⟨g',cap,cur,e,hg,hb,_⟩
 ·injection e with e1 e2 _
  omega
 ·injection e with e1 _ _
  subst e1;obtain⟨g,off,e,hc⟩:=hr (by omega)
  injection e with e
  injection e with e2 e3 _
  subst e2 e3;have:=hc j hj 0 _ rfl;rw[Nat.mul_one,Nat.add_zero,Nat.zero_add]at this;exact⟨_,rfl,rfl,this⟩
theorem JE(s:Sh)(l:List Int){j:Nat}(hj:j<(ks s l).length):(ks s l)[j]=some (s.g (l[j]'(by unfold ks at hj;simpa using hj))):=by
 simp[ks]
theorem jU(s:Sh)(l:List Int):(ks s l).length=l.length:=List.length_map _
theorem LW(h:aX w b s t)(hn:t.length<=10000)(i:Int)(hi:I64 i) :
  Calls prog 187 #[.pointer (some ⟨b,0,none⟩),.int .i64 i] w (nU (kids t i) w):=by
 unfold nU;obtain⟨c0,bi⟩:=h.raw.top;by_cases hx:has t i=true
 ·have hlk:=h.raw.ik hi hx;obtain⟨⟨n0,n1,n2⟩,-,ni⟩:=h.raw.cells (i:=i) hx;obtain⟨A,c,hv,hc1,hc2,hat⟩:=(h.raw.node i hx).own.at_;rw[jU]at hv hc1;rw[hv]at n2
  have HAT:Hid (∀j (hj:j<(kids t i).length),∃g,A=some ⟨g,0,none⟩∧∀W,bz w W->W.cell? ⟨g,j,none⟩=some (.pointer (some ⟨s.g (kids t i)[j],0,none⟩))∧W.cell? ⟨s.g (kids t i)[j],0,none⟩=some (.int .i64 (kids t i)[j])∧s.g (kids t i)[j]<W.heap.size):=by
   intro j hj;obtain⟨g,e,-,hcell⟩:=hat j (by rw[jU];exact hj);rw[JE]at hcell;have hk:eH t (kids t i)[j]:=ah.2 (.inr (h.ok.kid (List.getElem_mem hj)).1);obtain⟨⟨m0,-,-⟩,-,mi⟩:=h.raw.cells hk;refine⟨g,e,fun W hb=>⟨?_,?_,Nat.lt_of_lt_of_le mi hb.size⟩⟩
   ·exact(hb.cell (World.block_lt_of_cell? w ⟨g,j,none⟩ hcell)).trans hcell
   ·exact(hb.cell (World.block_lt_of_cell? w ⟨_,0,none⟩ m0)).trans m0
  have HL:Hid ((kids t i).length<=10000):=Nat.le_trans (gy t i) hn
  obtain⟨L,hL⟩:=aC (kids t i)
  have hB:∀o,w.cell? ⟨s.g i,2,none⟩=some o->∀W,bz w W->W.cell? ⟨s.g i,2,none⟩=some o:=fun o e W hb=>(hb.cell (World.block_lt_of_cell? w ⟨_,2,none⟩ n2)).trans e;rw[hL]at n2 HAT HL ⊢;have hmk:=SG w L.length (by have:=HL.o;omega);have hw0:bz w (w.alloc (.cells ((List.replicate L.length 0).map eI).toArray 3)):=bR.alloc nR _;have HB0:=Hd hw0;have Zv:Hid (au (w.alloc (.cells ((List.replicate L.length 0).map eI).toArray 3)) w.heap.size ((um 0 L 0).map eI) 3):=au.new w _ _
  generalize hz:((List.replicate L.length 0).map eI).toArray=zs at hmk hw0 HB0 Zv;have n2':=hB _ n2 _ HB0.o;have ni':s.g i<(w.alloc (.cells zs 3)).heap.size:=Nat.lt_of_lt_of_le ni hw0.size;clear h hi hx n0 n1 hv hc1 hc2 hat hL hw0 hz hB hn;go_enter func187,ntmps187;go_wp2_with (fail)
  go_loopw [28] (fun x wr=>∃k:Nat,k<=L.length∧x=.int .i64 k∧Hid (au wr w.heap.size ((um 0 L k).map eI) 3)∧Hid (bz w wr)) (fun x _=>L.length - (intOf x).toNat)
  case atStart=>exact⟨0,Nat.zero_le _,rfl,Zv,HB0⟩
  case round=>
   obtain⟨k,hk,rfl,HF,HB⟩:=hrel;by_cases hlt:k<L.length
   ·have t1:decide (k<L.length)=true:=by simpa using hlt
    obtain⟨g,rfl,hall⟩:=HAT.o k hlt;obtain⟨k1,k2,k3⟩:=hall _ HB.o;have fr:=HF.o.blk.free k;have hsz:=HF.o.inside
    have hcc:wr.cell? ⟨w.heap.size,k,none⟩=some (.int .i64 0):=by
     rw[HF.o.blk.cell k,List.getElem?_map];unfold um;rw[List.getElem?_append_right (by rw[List.length_take];omega),List.length_take,Nat.min_eq_left hk,Nat.sub_self,List.getElem?_replicate,if_pos (by omega)];rfl
    have Zu:Hid (au (wr.setCell ⟨w.heap.size,k,none⟩ (.int .i64 L[k])) w.heap.size ((um 0 L (k+1)).map eI) 3):=by
     have:=HF.o.set k (.int .i64 L[k]);rw[←Pz 0 L hlt,List.map_set];exact this
    have HB1:Hid (bz w (wr.setCell ⟨w.heap.size,k,none⟩ (.int .i64 L[k]))):=dW HB.o nR;have hkb:(k:Int)<=10000:=by have:=HL.o;omega
    generalize L[k]=x at*;clear hall HF HB;go_wp2_with (fail)
    go_roundw
    case rel=>exact⟨k+1,by omega,by go_num,Zu,HB1⟩
    case measure=>simp[intOf];omega
   ·obtain rfl:k=L.length:=by omega
    have t1:decide (L.length<L.length)=false:=by simp
    have hF:=HF.o;rw[PD]at hF;have HF2:=Hd (aU.ZQ hF nR (by have:=HL.o;omega));clear hF HF;go_wp2_with (fail);go_ret;exact⟨_,rfl,HF2.o,HB.o⟩
 ·have hlk:=h.raw.fB hi hx;have HQ:=Hd (qF h.ok hx);clear h hi hx;go_enter func187,ntmps187;go_wp2_with (fail);go_ret;rw[HQ.o];exact⟨_,rfl,ax.nil _ _,bR⟩
end
end
section
open Go.RowKit aF
section
variable {w:World}{b:Nat}{s:Sh}{t:T}
theorem CU:(prog.info? 194).map (fun i=>(i.zero,i.size,i.bytes))=some (some (.agg #[.int .i64 0,.pointer none,.slice none 0 0]),3,40):=by kernel_rfl
theorem tu(w:World)(a:Nat):(binOp .eql 191 (.pointer (some ⟨a,0,none⟩)) (.pointer (some ⟨a,0,none⟩))).run prog w=.ok (.bool true) w:=by
 obtain⟨i,hi,hz,hsize,hby⟩:=info_parts CU;exact run_eql_ptr_same w _ underlying191 hi
theorem qA{w:World}{a b:Nat}{ca cb:List Value}{ta tb:TypeId}(ha:au w a ca ta)(hb:au w b cb tb)(hne:a≠b):(binOp .eql 191 (.pointer (some ⟨a,0,none⟩)) (.pointer (some ⟨b,0,none⟩))).run prog w=.ok (.bool false) w:=by
 obtain⟨i,hi,hz,hsize,hby⟩:=info_parts CU;exact run_eql_ptr_other w underlying191 hi (by rw[hsize];decide) (fun e=>hne (by injection e)) ha hb
theorem es_len{es:L}(hr:omap.mP lt es)(ok:Ok t)(hl:∀i g,omap.look es i=some g↔eH t i∧s.g i=g):es.length=t.length+1:=by
 have n1:(es.map (·.1)).Nodup:=by
  rw[List.Nodup,List.pairwise_map]
  exact hr.imp fun h e=>by
   simp only[decide_eq_true_eq]at h;omega
 have n2:(0::ids t).Nodup:=List.nodup_cons.2 ⟨fun h=>ok.uK h rfl,ok.nd⟩
 have m1:∀x∈es.map (·.1),x∈(0::ids t:List Int):=by
  intro x hx;obtain⟨⟨a,g⟩,hm,rfl⟩:=List.mem_map.1 hx;have:=(hl a g).1 (omap.mP.xh ord hr hm);exact List.mem_cons.2 (ah.1 this.1)
 have m2:∀x∈(0::ids t:List Int),x∈es.map (·.1):=by
  intro x hx;have:=(hl x (s.g x)).2 ⟨ah.2 (List.mem_cons.1 hx),rfl⟩;exact List.mem_map.2 ⟨_,omap.SI this,rfl⟩
 have h1:=dK n1 m1;have h2:=dK n2 m2;rw[List.length_map]at h1 h2;unfold ids at h1 h2;rw[List.length_cons,List.length_map]at h1 h2;omega
theorem aX.maplen(h:aX w b s t)(ty:TypeId):(Builtin.len_ #[195] ty #[.map (some s.m)]).run prog w=.ok (.int .i64 ((t.length+1:Nat):Int)) w:=by
 obtain⟨es,hm,hl⟩:=h.raw.map;rw[hm.len ty,es_len hm.rises h.ok hl]
theorem a3E(h:aX w b s t):Calls prog 188 #[.pointer (some ⟨b,0,none⟩)] w (aZ (.int .i64 ((t.length+1:Nat):Int)) w):=by
 obtain⟨c0,bi⟩:=h.raw.top;have hl:=h.maplen;clear h;generalize t.length+1=n at*;go_enter func188,ntmps188;go_wp2_with (fail);go_ret;exact⟨rfl,bR⟩
def O0(t:T)(i:Int):Int:=if i=0 then 33 else if has t i=false then 30 else 0
def SS(s:Sh)(t:T)(i:Int):Value:=if O0 t i=0 then .pointer (some ⟨s.g i,0,none⟩) else .pointer none
theorem a1q(h:aX w b s t)(i:Int)(hi:I64 i) :
  Calls prog 134 #[.pointer (some ⟨b,0,none⟩),.int .i64 i] w fun e w'=>e=.returned (.tuple #[SS s t i,.int .i64 (O0 t i)])∧w'=w:=by
 obtain⟨c0,bi⟩:=h.raw.top
 obtain⟨V,hV⟩:=aC (SS s t i)
 obtain⟨C,hC⟩:=aC (O0 t i)
 have HV:=Hd hV;rw[hV,hC];clear hV;unfold SS at HV;rw[hC]at HV;unfold O0 at hC;by_cases h0:i=0
 ·rw[if_pos h0]at hC;subst hC;have HQ:=Hd (HV.o.symm.trans (if_neg (by decide)));have t1:(i==0)=true:=by simpa using h0
  clear h hi h0 HV;go_enter func134,ntmps134;go_wp2_with (fail);go_ret2;rw[HQ.o];exact⟨rfl,rfl⟩
 have t1:(i==0)=false:=by simpa using h0
 rw[if_neg h0]at hC;by_cases hx:has t i=true
 ·have hlk:=h.raw.ik hi hx;rw[if_neg (by simp[hx])]at hC;subst hC;have HQ:=Hd (HV.o.symm.trans (if_pos rfl));clear h hi h0 hx HV;go_enter func134,ntmps134;go_wp2_with (fail);go_ret2;rw[HQ.o];exact⟨rfl,rfl⟩
 ·have hlk:=h.raw.fB hi hx;rw[if_pos (by simpa using hx)]at hC;subst hC;have HQ:=Hd (HV.o.symm.trans (if_neg (by decide)));clear h hi h0 hx HV;go_enter func134,ntmps134;go_wp2_with (fail);go_ret2;rw[HQ.o];exact⟨rfl,rfl⟩
end
section
variable {w:World}{b:Nat}{s:Sh}{t:T}
theorem WS(h:aX w b s t)(hn:t.length<=10000){i p:Int}(hi:i∈ids t)(hp:has t p=true) :
  Calls prog 139 #[.pointer (some ⟨s.g p,0,none⟩),.pointer (some ⟨s.g i,0,none⟩)] w fun e w'=>e=.returned (.int .i64 (((kids t p).filter fun k=>decide (k≠i)).length:Nat))∧w'=w:=by
 have h0:=h.ok.uK hi;obtain⟨⟨-,n1,-⟩,-,ni⟩:=h.raw.cells (i:=i) (ah.2 (.inr hi));obtain⟨⟨-,-,p2⟩,-,pi⟩:=h.raw.cells (i:=p) hp;obtain⟨A,c,hv,hc1,hc2,hat⟩:=(h.raw.node p hp).own.at_;rw[jU]at hv;rw[hv]at p2;have hlen:(kids t p).length<=10000:=Nat.le_trans (gy t p) hn;have hpi:=ah.2 (h.ok.fQ hi);have hnd:=eQ h.ok.nd p;rw[fO h0]at n1;simp only[Option.map_some,ptrTo]at n1;by_cases e:par t i=p
 ·subst e;have hm:=jH hi
  have hl:((kids t (par t i)).filter fun k=>decide (k≠i)).length+1=(kids t (par t i)).length:=by
   have:=List.length_erase_of_mem hm;rw[hnd.erase_eq_filter]at this;have h2:=List.length_pos_of_mem hm;have e:(kids t (par t i)).filter (fun k=>decide (k≠i))=(kids t (par t i)).filter (fun k=>k != i):=List.filter_congr fun x _=>by by_cases h:x=i<;>simp[h]
   rw[e];omega
  generalize ((kids t (par t i)).filter fun k=>decide (k≠i)).length=m at*;generalize (kids t (par t i)).length=n at*;obtain rfl:=hl;clear h hi h0 hc1 hc2 hat hv hn hm hnd hpi;have hpe:=tu w (s.g (par t i));have hq:wrap64 (((m+1:Nat):Int) - 1)=(m:Nat):=by rw[IntWalk.wrap64_in _ (by omega)];omega
  go_enter func139,ntmps139;go_wp2_with (fail);go_ret;exact⟨rfl,rfl⟩
 ·have hni:i∉kids t p:=fun h'=>e (h.ok.kid h').2
  have hl:((kids t p).filter fun k=>decide (k≠i))=kids t p:=List.filter_eq_self.2 fun x hx=>by
   rw[decide_eq_true_eq];rintro rfl;exact hni hx
  rw[hl];have hne:¬s.g (par t i)=s.g p:=fun h'=>e (h.raw.inj _ _ hpi hp h');have hpe:=qA (h.raw.node _ hpi).blk (h.raw.node _ hp).blk hne;generalize (kids t p).length=n at*;generalize s.g (par t i)=ga at*;generalize s.g p=gp at*;generalize s.g i=gi at*;clear h hi h0 hc1 hc2 hat hv hn hnd hpi hl hni e hlen hp;go_enter func139,ntmps139;go_wp2_with (fail);go_ret;exact⟨rfl,rfl⟩
def upB(t:T)(o:Int):Option Int->Bool
 |none=>false
 |some j=>decide (j=o)||within t j o
def upN(t:T):Option Int->Nat
 |none=>0
 |some j=>depth t j+1
theorem yG(ok:Ok t){i o:Int}(hi:has t i=true)(ho:has t o=true):within t i o=upB t o (Bi t i):=by
 rw[ku ok];by_cases h0:i=0
 ·subst h0;rw[if_neg (by simp),yI];rfl
 ·rw[if_pos ⟨hi,ho,h0⟩,fO h0];rfl
theorem ZF(ok:Ok t){i:Int}(hi:has t i=true):upN t (Bi t i)<upN t (some i):=by
 by_cases h0:i=0
 ·subst h0;rw[yI];show 0<_+1;omega
 ·rw[fO h0];show depth t (par t i)+1<depth t i+1;have:=bP ok ((ah.1 hi).resolve_left h0);omega
theorem DD(ok:Ok t){i j:Int}(hi:has t i=true)(h:Bi t i=some j):has t j=true:=by
 by_cases h0:i=0
 ·subst h0;cases h
 ·rw[fO h0]at h
  injection h with h
  subst h;exact ah.2 (ok.fQ ((ah.1 hi).resolve_left h0))
def upM(s:Sh)(t:T):Value->Nat
 |.pointer (some a)=>match (0::ids t).find? fun j=>decide (s.g j=a.block) with
  |some j=>depth t j+1
  |none=>0
 |_=>0
theorem Fp(h:aX w b s t){j:Int}(hj:has t j=true):upM s t (.pointer (some ⟨s.g j,0,none⟩))=upN t (some j):=by
 unfold upM;simp only;cases hf:(0::ids t).find? fun k=>decide (s.g k=s.g j) with
 |none=>
  have:=List.find?_eq_none.1 hf j (List.mem_cons.2 (ah.1 hj));simp at this
 |some k=>
  have h1:=List.find?_some hf;have h2:=List.mem_of_find?_eq_some hf;simp only[decide_eq_true_eq]at h1;rw[h.raw.inj k j (ah.2 (List.mem_cons.1 h2)) hj h1];rfl
theorem Wq(h:aX w b s t){u:Option Int}(hu:∀j,u=some j->has t j=true):upM s t (ptrTo (u.map s.g))=upN t u:=by
 cases u with
 |none=>rfl
 |some j=>exact Fp h (hu j rfl)
theorem WQ(h:aX w b s t){i o:Int}(hi:has t i=true)(ho:has t o=true) :
  Calls prog 138 #[.pointer (some ⟨s.g i,0,none⟩),.pointer (some ⟨s.g o,0,none⟩)] w fun e w'=>e=.returned (.bool (within t i o))∧w'=w:=by
 obtain⟨⟨-,n1,-⟩,-,ni⟩:=h.raw.cells (i:=i) hi;have HT:=Hd h;have HO:=Hd ho;have Zh:=Hd (fun j=>DD (j:=j) h.ok hi);rw[yG h.ok hi ho];clear h hi ho;generalize Bi t i=u at*
 obtain⟨pv,hpv⟩:=aC (ptrTo (u.map s.g))
 have HPV:=Hd hpv;rw[hpv]at n1;clear hpv
 obtain⟨R,hR⟩:=aC (upB t o u)
 have HQ:=Hd hR;rw[hR];clear hR;go_enter func138,ntmps138;go_wp2_with (fail)
 go_loopw [5] (fun x wr=>∃u:Option Int,x=ptrTo (u.map s.g)∧Hid (upB t o u=R)∧Hid (∀j,u=some j->has t j=true)∧Hid (wr=w)) (fun x _=>upM s t x)
 case atStart=>exact⟨u,HPV.o.symm,HQ,fun j e=>Zh.o j e,rfl⟩
 case round=>
  obtain⟨u1,rfl,HB,HH,HW⟩:=hrel;obtain rfl:=HW.o;cases u1 with
  |none=>
   have HF:Hid (R=false):=HB.o.symm;simp only[Option.map_none,ptrTo];go_wp2_with (fail);go_ret;exact⟨aI HF.o.symm,rfl⟩
  |some j=>
   have hj:=HH.o j rfl;obtain⟨⟨-,j1,-⟩,-,ji⟩:=HT.o.raw.cells (i:=j) hj;simp only[Option.map_some,ptrTo];by_cases e:j=o
   ·subst e;have hpe:=tu wr (s.g j);have HF:Hid (R=true):=by rw[←HB.o];show _=_;simp[upB]
    clear hj;go_wp2_with (fail);go_ret;exact⟨aI HF.o.symm,rfl⟩
   ·have hpe:=qA (HT.o.raw.node _ hj).blk (HT.o.raw.node _ HO.o).blk (fun h'=>e (HT.o.raw.inj _ _ hj HO.o h'))
    have HB2:Hid (upB t o (Bi t j)=R):=by
     rw[←HB.o];show _=(decide (j=o)||within t j o);rw[decide_eq_false e,Bool.false_or];exact(yG HT.o.ok hj HO.o).symm
    have HH2:=Hd (fun k=>DD (j:=k) HT.o.ok hj)
    have Yc:Hid (upM s t (ptrTo ((Bi t j).map s.g))<upM s t (.pointer (some ⟨s.g j,0,none⟩))):=by
     show _<_;rw[Fp HT.o hj,Wq HT.o (fun k=>DD (j:=k) HT.o.ok hj)];exact ZF HT.o.ok hj
    clear hj e HB HH;generalize Bi t j=u2 at*
    obtain⟨pw,hpw⟩:=aC (ptrTo (u2.map s.g))
    have HPW:=Hd hpw;rw[hpw]at j1 Yc;clear hpw;go_wp2_with (fail)
    go_roundw
    case rel=>exact⟨u2,HPW.o.symm,HB2,HH2,by trivial⟩
    case measure=>exact Yc.o
end
end
section
open Go.RowKit aF
section
variable {w:World}{b:Nat}{s:Sh}{t:T}
theorem aX.drewN(h:aX w b s t)(n:Nat):aX (w.drewN n) b s t:=h.below (Below.drewN' bR n)
end
end
end Go.Proofs.YthmegninhpihkaaGreat
