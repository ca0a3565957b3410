import Derived.Test.YthmegninhpihkaaGreatVScG
import Derived.Test.YthmegninhpihkaaGreatVTrLay
import Derived.Laws.IdiomCopy
import Derived.Laws.Externs
import Derived.Lib.Overlaps
import Derived.Lib.AppendZerosOnto
import Derived.Deep.RegionLaw
import Derived.Maps.RangeWalk
set_option maxHeartbeats 16000000
set_option maxRecDepth 100000
open Go.Proofs.Tryz
namespace Go.Proofs.YthmegninhpihkaaGreat
section
open Go.RowKit aF
theorem zy:∀{l:List Int} {i:Int} {k:Nat} (hk:k<l.length),i∉l.take k->l[k]=i->l.idxOf i=k
 |a::l,i,0,hk,_,e=>by
  simp only[List.getElem_cons_zero]at e;subst e;exact List.idxOf_cons_self
 |a::l,i,k+1,hk,h,e=>by
  rw[List.take_succ_cons,List.mem_cons,not_or]at h;have h2:=zy (l:=l) (by simpa using hk) h.2 (by simpa using e);have h1:(a==i)=false:=by simpa using Ne.symm h.1
  rw[List.idxOf_cons,h1,h2];rfl
section
variable {w:World}{b:Nat}{s:Sh}{H:Int->Prop}{P:Int->Option Int}{K:Int->List Int}
theorem ZX(h:Raw w b s H P K){q i:Int}(hq:H q)(hK:∀x∈K q,H x)(hi:i∈K q)(hn:(K q).length<=100000) :
  Calls prog 144 #[s.v q,.pointer (some ⟨s.g i,0,none⟩)] w fun e w'=>e=.returned (.int .i64 ((K q).idxOf i:Nat))∧w'=w:=by
 obtain⟨A,c,hv,hc1,hc2,hat⟩:=(h.node q hq).own.at_;rw[jU]at hv;rw[hv]
 have HAT:Hid (∀j (hj:j<(K q).length),∃g,A=some ⟨g,0,none⟩∧w.cell? ⟨g,j,none⟩=some (.pointer (some ⟨s.g (K q)[j],0,none⟩)) ∧
   ((binOp .eql 191 (.pointer (some ⟨s.g i,0,none⟩)) (.pointer (some ⟨s.g (K q)[j],0,none⟩))).run prog w=.ok (.bool (decide (i=(K q)[j]))) w)):=by
  intro j hj;obtain⟨g,e,-,hcell⟩:=hat j (by rw[jU];exact hj);rw[JE]at hcell;refine⟨g,e,hcell,?_⟩;by_cases h':i=(K q)[j]
  ·rw[←h',decide_eq_true rfl];exact tu w _
  ·rw[decide_eq_false h'];exact qA (h.node _ (hK _ hi)).blk (h.node _ (hK _ (List.getElem_mem hj))).blk fun e=>h' (h.inj _ _ (hK _ hi) (hK _ (List.getElem_mem hj)) e)
 have HI:=Hd hi;have HN:=Hd hn;clear h hq hK hi hn hat hc1 hc2 hv;generalize K q=l at*;go_enter func144,ntmps144;go_wp2_with (fail)
 go_loopw [8] (fun x wr=>∃k:Nat,k<=l.length∧x=.int .i64 k∧Hid (i∉l.take k)∧Hid (wr=w)) (fun x _=>l.length - (intOf x).toNat)
 case atStart=>exact⟨0,Nat.zero_le _,rfl,by show _∉_;simp,rfl⟩
 case round=>
  obtain⟨k,hk,rfl,HK,HW⟩:=hrel;obtain rfl:=HW.o;by_cases hlt:k<l.length
  ·have t1:decide (k<l.length)=true:=by simpa using hlt
   obtain⟨g,rfl,k1,k2⟩:=HAT.o k hlt;have hkb:(k:Int)<=100000:=by have:=HN.o;omega
   have HS:Hid (i≠l[k]->i∉l.take (k+1)):=fun e=>by
    rw[List.take_succ_eq_append_getElem hlt,List.mem_append,List.mem_singleton];rintro(h|h)
    ·exact HK.o h
    ·exact e h
   have HT:Hid (i=l[k]->l.idxOf i=k):=fun e=>zy hlt HK.o e.symm;generalize l[k]=x at*;by_cases e:i=x
   ·have HT2:=Hd (HT.o e);rw[decide_eq_true e]at k2;clear HS HT e;go_wp2_with (fail);go_ret;exact⟨aB (by rw[HT2.o]),rfl⟩
   ·have HS2:=Hd (HS.o e);rw[decide_eq_false e]at k2;clear HS HT e;go_wp2_with (fail)
    go_roundw
    case rel=>exact⟨k+1,by omega,by go_num,HS2,by trivial⟩
    case measure=>simp[intOf];omega
  ·obtain rfl:k=l.length:=by omega
   have h:=HK.o;rw[List.take_length]at h;exact absurd HI.o h
end
abbrev AL(o:Option Nat):bF:=fun k=>o=some k
theorem zu:(prog.info? 191).map (fun i=>(i.zero,i.size,i.bytes))=some (some (.pointer none),1,8):=by kernel_rfl
theorem nV.of_cells{w:World}{g cap n:Nat}{cur:Array Value}{l:List (Option Nat)}(h:w.heap[g]?=some (.cells cur jg (0,0)))(hn:l.length=n)(hc:n<=cap)(hm:cap<=maxLen)(hs:cur.size=cap)(ht:cur.toList.take n=l.map ptrTo):nV w (.slice (some ⟨g,0,none⟩) n cap) l:=by
 subst hn;show World.ownsRow _ _ _ _ _ _ _;rw[Nb];exact⟨by simp,.inr ⟨g,cap,cur,rfl,Nat.zero_le _,h,hc,hm,by simpa using hs,by simpa using ht⟩⟩
theorem nV.cells{w:World}{v:Value}{l:List (Option Nat)}(h:nV w v l):(v=.slice none 0 0∧l=[])∨∃g cap cur,v=.slice (some ⟨g,0,none⟩) l.length cap∧w.heap[g]?=some (.cells cur jg (0,0))∧l.length<=cap∧cap<=maxLen∧cur.size=cap∧cur.toList.take l.length=l.map ptrTo:=by
 obtain⟨_,h2⟩:=h;rw[Nb]at h2;rcases h2 with ⟨e,h0⟩|⟨g,cap,cur,e,_,h3,h4,h5,h6,h7⟩
 ·exact .inl ⟨e,List.eq_nil_of_length_eq_zero h0⟩
 ·exact .inr ⟨g,cap,cur,e,h3,h4,h5,by simpa using h6,by simpa using h7⟩
theorem ZO:OneCell ptrTo:=fun o=>by cases o<;>rfl
theorem F7{enc:Option Nat->Value}{w:World}{q g:Nat}{d:Array (Option Nat)}{cur:Array Value}{T:TypeId}{fr:Nat×Nat}(h:w.heap[g]?=some (.cells cur T fr)) :
  (Go.Sort.putRow enc (Go.Sort.ahead w q) g 0 d).heap[g]?=some (.cells (Go.Sort.putCells enc 0 d cur) T fr):=by
 unfold Go.Sort.putRow Go.Sort.mapBlock Go.Sort.ahead;simp only[Array.getElem?_modify,if_true,h,Option.map_some];rfl
theorem F6{enc:Option Nat->Value}{w:World}{q g:Nat}{d:Array (Option Nat)}:ae (AL (some g)) (AL (some g)) w (Go.Sort.putRow enc (Go.Sort.ahead w q) g 0 d):=by
 unfold Go.Sort.putRow Go.Sort.mapBlock Go.Sort.ahead;refine⟨rfl,rfl,rfl,by simp,fun k hk hn=>⟨hn,?_⟩⟩;have hne:g≠k:=fun e=>hn (by rw[e]);simp only[Array.getElem?_modify,if_neg hne]
theorem Bq{enc:Option Nat->Value}{d:Array (Option Nat)}{cur:Array Value}{m:Nat}(hm:m<=d.size)(hc:d.size<=cur.size):(Go.Sort.putCells enc 0 d cur).toList.take m=(d.toList.take m).map enc:=by
 apply List.ext_getElem?;intro k;by_cases hk:k<m
 ·rw[List.getElem?_take_of_lt hk,List.getElem?_map,List.getElem?_take_of_lt hk];unfold Go.Sort.putCells;simp only[Array.getElem?_toList,Array.getElem?_mapIdx];rw[Array.getElem?_eq_getElem (show k<cur.size by omega),Array.getElem?_eq_getElem (show k<d.size by omega)];simp only[Option.map_some,Nat.zero_le,true_and,Nat.zero_add,Nat.sub_zero];rw[if_pos (by omega),getElem!_pos d k (by omega)]
 ·rw[List.getElem?_take_eq_none (by omega),List.getElem?_eq_none (by simp;omega)]
theorem WV{w:World}{v:Value}{l:List (Option Nat)}(h:nV w v l){i:Nat}(hi:i<l.length)(hn:l.length<=100000) :
  Calls prog 145 #[v,.int .i64 (i:Nat),.int .i64 ((i+1:Nat):Int)] w fun e w'=>∃v',e=.returned v'∧nV w' v' (l.eraseIdx i)∧v'.ownBlock=v.ownBlock∧ae (AL v.ownBlock) (AL v.ownBlock) w w':=by
 rcases h.cells with ⟨_,h0⟩|⟨g,cap,cur,rfl,h3,h4,h5,h6,h7⟩
 ·rw[h0]at hi;cases hi
 obtain⟨i0,hi0,hz,hsize,hby⟩:=info_parts zu
 have hH:Go.Sort.Holds ptrTo w g 0 l.toArray:=by
  intro j hj;have hj':j<l.length:=by simpa using hj
  rw[Nat.zero_add,cell_of_row _ _ _ _ _ _ h3,frozen_of_row _ _ _ _ _ h3];refine⟨?_,rfl⟩;have h8:cur.toList[j]?=(l.map ptrTo)[j]?:=by rw[←h7,List.getElem?_take_of_lt hj']
  rw[Array.getElem?_toList,List.getElem?_map,List.getElem?_eq_getElem hj']at h8;rw[h8,getElem!_pos l.toArray j hj];rfl
 have hc:=AnyE.slices_Delete a1L ptrTo ZO none (Tryz.zeroValue191) i0 hi0 hsize g 0 cap i (i+1) l.toArray w hH (by simpa using h4) (by unfold maxLen at h5;omega) (by omega) (by simp;omega);have hc:Calls prog 145 #[.slice (some ⟨g,0,none⟩) l.length cap,.int .i64 (i:Nat),.int .i64 ((i+1:Nat):Int)] w _:=hc;refine hc.mono ?_;rintro e w' ⟨rfl,q,rfl⟩
 have hdl:(l.toArray.toList.take i++l.toArray.toList.drop (i+1)++List.replicate (i+1 - i) none).toArray.size=l.length:=by
  simp;omega
 refine⟨_,rfl,?_,rfl,F6⟩;refine nV.of_cells (F7 h3) ?_ ?_ h5 (by simp[Go.Sort.putCells,h6]) ?_
 ·rw[List.length_eraseIdx,if_pos hi];simp
 ·simp;omega
 ·rw[Bq (by rw[hdl];simp) (by rw[hdl];omega)];have:l.toArray.size - (i+1 - i)=(l.take i++l.drop (i+1)).length:=by simp;omega
  rw[this,List.eraseIdx_eq_take_drop_succ];rw[List.take_left'];rfl
end
section
open Go.RowKit aF
theorem Fb{P:Program}{ops:Array Oper}{rest:List Oper}{o:Oper}{a:Act}{Q:Exit->Act->World->Prop}{w:World}(hgd:Region.wanted o (yielded ops a.tmps)=true)(s x:Operand)(t t2 ty:TypeId)
  (ho:o.op=.call { callee:=.builtin .copy,args:=#[s,x],argTypes:=#[t,t2] }) (hty:o.type=ty) (sv xv v':Value) (w':World) (hs:a.eval s=sv) (hx:a.eval x=xv)
  (hrun:(Builtin.copy_ #[t,t2] ty #[sv,xv]).run P w=.ok v' w') (h:wpList P ops Q rest (a.put o.dst v') w'):wpList P ops Q (o::rest) a w:=by
 subst hty;unfold wpList;rw[if_pos hgd];refine .inl ?_;unfold Oper.wp execOp;simp only[ho,resolve,invoke,builtin,Sem.run_bind,Sem.run_pure,Result.andThen_ok,List.map_toArray,List.map_cons,List.map_nil,hs,hx,hrun];exact h
theorem Ce{P:Program}{ops:Array Oper}{o:Oper}{a:Act}{w:World}{K:Act->World->Prop}{Q:Exit->Act->World->Prop}{E:Prop}
  (hg:o.guard=none) (s x:Operand) (t t2 ty:TypeId) (ho:o.op=.call { callee:=.builtin .copy,args:=#[s,x],argTypes:=#[t,t2] }) (hty:o.type=ty)
  (sv xv v':Value) (w':World) (hs:a.eval s=sv) (hx:a.eval x=xv) (hrun:(Builtin.copy_ #[t,t2] ty #[sv,xv]).run P w=.ok v' w') (hK:K (a.put o.dst v') w') :
  if Region.wanted o (yielded ops a.tmps)=true then Oper.wp P o a w K Q else E:=by
 subst hty;have hw:Region.wanted o (yielded ops a.tmps)=true:=by simp[Region.wanted,hg]
 rw[if_pos hw];unfold Oper.wp execOp;simp only[ho,resolve,invoke,builtin,Sem.run_bind,Sem.run_pure,Result.andThen_ok,List.map_toArray,List.map_cons,List.map_nil,hs,hx,hrun];exact hK
theorem jD{g:Nat}{T:TypeId}{fr:Nat×Nat}:∀(vs:List Value) (o:Nat) {w:World} {cur:Array Value},w.heap[g]?=some (.cells cur T fr) ->
  ∃cur',(w.setCells g o vs).heap[g]?=some (.cells cur' T fr)∧cur'.size=cur.size∧∀k,k<cur.size->cur'[k]?=if o<=k∧k<o+vs.length then vs[k - o]? else cur[k]?
 |[],o,w,cur,h=>⟨cur,h,rfl,fun k hk=>by rw[if_neg (by simp)]⟩
 |v::r,o,w,cur,h=>by
  have h1:(w.setCell ⟨g,o,none⟩ v).heap[g]?=some (.cells (cur.setIfInBounds o v) T fr):=by
   have hlt:=lt_of_block h;have e:w.heap[g]=.cells cur T fr:=by simpa[Array.getElem?_eq_getElem hlt]using h
   show(w.heap.modify g _)[g]?=_;rw[Array.getElem?_eq_getElem (by simpa using hlt),Array.getElem_modify_self,e];rfl
  obtain⟨cur',h2,h3,h4⟩:=jD r (o+1) h1;refine⟨cur',h2,by rw[h3];simp,fun k hk=>?_⟩;rw[h4 k (by simpa using hk)];by_cases hc:o+1<=k∧k<o+1+r.length
  ·rw[if_pos hc,if_pos (by rw[List.length_cons];omega),show k - o=(k - (o+1))+1 by omega,List.getElem?_cons_succ]
  ·rw[if_neg hc,Array.getElem?_setIfInBounds];by_cases hk2:o=k
   ·subst hk2;rw[if_pos rfl,if_pos hk,if_pos (by rw[List.length_cons];omega),Nat.sub_self];rfl
   ·rw[if_neg hk2,if_neg (by rw[List.length_cons];omega)]
theorem iI{g:Nat}:∀(vs:List Value) (o:Nat) (w:World),ae (AL (some g)) (AL (some g)) w (w.setCells g o vs)
 |[],_,_=>.refl _ _
 |v::r,o,_=>(ae.set (S:=AL (some g)) (a:=⟨g,o,none⟩) rfl v).trans (iI r (o+1) _)
def insL{α:Type}(n:Nat)(x:α)(l:List α):List α:=l.take n++x::l.drop n
theorem uj{α:Type}{n:Nat}(x:α){l:List α}(hn:n<=l.length):(insL n x l).length=l.length+1:=by
 unfold insL;rw[List.length_append,List.length_cons,List.length_take,List.length_drop];omega
def KU(v:Value)(n:Nat)(x:Nat)(l:List (Option Nat))(w:World)(e:Ending)(w':World):Prop:=
 ∃v',e=.returned v'∧nV w' v' (insL n (some x) l)∧(v'.ownBlock=v.ownBlock∨∃g,v'.ownBlock=some g∧w.heap.size<=g)∧ae (AL v.ownBlock) (AL v'.ownBlock) w w'
theorem Gm{w:World}{v:Value}{l:List (Option Nat)}(h:nV w v l)(vb x c:Nat)(hx:au w vb [.pointer (some ⟨x,0,none⟩)] jg)(hn:l.length<=100000) :
  Calls prog 143 #[v,.int .i64 (l.length:Nat),.slice (some ⟨vb,0,none⟩) 1 c] w (KU v l.length x l w):=by
 obtain⟨v',w',hrun,hown,hgr,hat⟩:=ax.app (P:=prog) (xs:=[some x]) (c:=c) (g:=vb) (o:=0) underlying192 zu rfl (by decide) (by decide) SX SV
  h (fun _=>aV.DZ (fun i u hu=>by
   have hi:i=0:=by have:=(List.getElem?_eq_some_iff.1 hu).1;simp[kc]at this;exact this
   subst hi;rw[hx.blk.cell]
   exact hu)) (by simp;omega) (Nat.zero_le _)
 have HQ:Hid (KU v l.length x l w (.returned v') w'):=by
  refine⟨v',rfl,?_,?_,?_⟩
  ·unfold insL;rw[List.take_length,List.drop_length];exact hown
  ·rcases hat with h1|h1
   ·exact .inl h1
   ·exact .inr ⟨_,h1,nR⟩
  ·refine⟨hgr.os,hgr.tape,hgr.output,hgr.size,fun k hk hn=>⟨fun e=>?_,hgr.block k hk fun e=>hn e.symm⟩⟩;rcases hat with h1|h1
   ·exact hn (h1 ▸ e)
   ·have:=Option.some.inj (h1.symm.trans e);omega
 obtain⟨A,cc,hv,h1,h2,-⟩:=h.at_;subst hv;simp only[List.length_singleton]at hrun;have hcb:cc<=9223372036854775807:=by unfold maxLen at h2;omega
 clear h hown hgr hat h2;generalize l.length=n at*;have t1:((n:Int)==(n:Int))=true:=by simp
 cases A with
 |none=>
  go_enter func143,ntmps143;go_wp2_with (at_builtin;refine bG rfl _ _ 192 192 192 rfl rfl _ _ _ _ rfl rfl hrun ?_;clear hrun);go_ret;exact HQ.o
 |some a=>
  obtain⟨ab,ao,asp⟩:=a;go_enter func143,ntmps143;go_wp2_with (at_builtin;refine bG rfl _ _ 192 192 192 rfl rfl _ _ _ _ rfl rfl hrun ?_;clear hrun)
  all_goals (go_ret;exact HQ.o)
end
section
open Go.RowKit aF
theorem FU{w:World}{g:Nat}{cur:Array Value}{T:TypeId}{fr:Nat×Nat}(h:w.heap[g]?=some (.cells cur T fr)):w.shape? g=some (T,cur.size):=by
 simp[World.shape?,h]
theorem MV:(prog.info? 191).map (·.size)=some 1:=by kernel_rfl
theorem Gl{w:World}{vb g:Nat}{u:Value}{cur:Array Value}(hx:au w vb [u] jg)(h3:w.heap[g]?=some (.cells cur jg (0,0)))(hne:vb≠g)(hc:cur.size≠0)(o la ca lb cb:Nat) :
  (callFunc 154 #[.slice (some ⟨vb,0,none⟩) la ca,.slice (some ⟨g,o,none⟩) lb cb]).run prog w=.ok (.value (.bool false)) w:=by
 rw[run_callFunc_extern func154 ag ag ag (e:=Extern.SlicesOverlaps.overlaps #[192,192] #[4]) ag,
  Lib.run_overlaps_apart w 192 4 191 underlying192 1 Tryz.sizeOf191 ⟨vb,0,none⟩ ⟨g,o,none⟩ la ca lb cb hne _ _ _ _ (FU hx) (FU h3) hc (frozen_of_row _ _ _ _ _ hx) (frozen_of_row _ _ _ _ _ hx)]
 rfl
theorem Bv{w:World}{g cap i:Nat}{cur:Array Value}{l:List (Option Nat)}(h3:w.heap[g]?=some (.cells cur jg (0,0)))(h5:cap<=maxLen)(h6:cur.size=cap)(h7:cur.toList.take l.length=l.map ptrTo)
  (hi:i<l.length) (hroom:l.length+1<=cap) (vb x c:Nat) (hx:au w vb [.pointer (some ⟨x,0,none⟩)] jg) (hne:vb≠g) (hn:l.length<=100000) :
  Calls prog 143 #[.slice (some ⟨g,0,none⟩) l.length cap,.int .i64 (i:Nat),.slice (some ⟨vb,0,none⟩) 1 c] w (KU (.slice (some ⟨g,0,none⟩) l.length cap) i x l w):=by
 have hov:=fun w' (hw:∀k,w'.heap[k]?=w.heap[k]?) o lb cb=>Gl (w:=w') (by unfold au;rw[hw];exact hx) (by rw[hw];exact h3) hne (by omega) o 1 c lb cb;have hov:=hov w (fun _=>rfl);have hdl:((l.drop i).map ptrTo).length=l.length - i:=by rw[List.length_map,List.length_drop]
 have hcell:∀(w':World),w'.heap[g]?=w.heap[g]?->∀k,k<cap->(w'.cell? ⟨g,k,none⟩).isSome=true∧w'.frozen? ⟨g,k,none⟩=false:=by
  intro w' hw k hk;rw[cell_of_row _ _ _ _ _ _ (hw.trans h3),frozen_of_row _ _ _ _ _ (hw.trans h3),Array.getElem?_eq_getElem (by omega)];exact⟨rfl,rfl⟩
 have JR:∀k,k<l.length->cur[k]?=(l.map ptrTo)[k]?:=fun k hk=>by rw[←h7,List.getElem?_take_of_lt hk,Array.getElem?_toList]
 have hcp1:∀(w':World),w'.heap[g]?=w.heap[g]?->∀ty dc sc,(Builtin.copy_ #[192,192] ty #[.slice (some ⟨g,i+1,none⟩) (l.length - i) dc,.slice (some ⟨g,i,none⟩) (l.length+1 - i) sc]).run prog w'=.ok (goInt ((l.drop i).map ptrTo).length) (w'.setCells g (i+1) ((l.drop i).map ptrTo)):=fun w' hw ty dc sc=>
  run_copy_cells w' _ _ ty 191 g (i+1) _ dc ⟨g,i,none⟩ _ sc _ underlying192 MV (by rw[hdl];simp only[Nat.min_def];split<;>omega)
   (fun j v hj=>by
    have hjl:=(List.getElem?_eq_some_iff.1 hj).1;rw[hdl]at hjl;rw[Addr.add_lit,cell_of_row _ _ _ _ _ _ (hw.trans h3),JR _ (by omega)];rw[List.map_drop,List.getElem?_drop]at hj
    exact hj)
   (fun j hj=>(hcell w' hw _ (by omega)).1) (fun j hj=>(hcell w' hw _ (by omega)).2) (fun v hv=>by
    obtain⟨o,_,rfl⟩:=List.mem_map.1 hv
    exact ZO o)
 obtain⟨w1,hw1⟩:∃w1,w1=w.drew.setCells g (i+1) ((l.drop i).map ptrTo):=⟨_,rfl⟩
 obtain⟨a5b,hb1,hs1,hk1⟩:=jD (g:=g) ((l.drop i).map ptrTo) (i+1) (w:=w.drew) h3;have hT1:=iI (g:=g) ((l.drop i).map ptrTo) (i+1) w.drew;rw[←hw1]at hb1 hT1;have hx1:au w1 vb [.pointer (some ⟨x,0,none⟩)] jg:=au.stays (w:=w) hx ((hT1.far vb hx.inside (fun e=>hne (Option.some.inj e).symm)).2)
 have hcp2:∀ty dc,(Builtin.copy_ #[192,192] ty #[.slice (some ⟨g,i,none⟩) (l.length+1 - i) dc,.slice (some ⟨vb,0,none⟩) 1 c]).run prog w1=.ok (goInt 1) (w1.setCells g i [.pointer (some ⟨x,0,none⟩)]):=fun ty dc=>
  run_copy_cells w1 _ _ ty 191 g i _ dc ⟨vb,0,none⟩ 1 c [.pointer (some ⟨x,0,none⟩)] underlying192 MV (by simp only[Nat.min_def,List.length_singleton];split<;>omega)
   (fun j v hj=>by
    rw[Addr.add_lit,Nat.zero_add,hx1.blk.cell]
    exact hj)
   (fun j hj=>by
    have hj0:j=0:=by simpa using hj
    rw[cell_of_row _ _ _ _ _ _ hb1,Array.getElem?_eq_getElem (by rw[hs1];omega)];rfl) (fun j hj=>frozen_of_row _ _ _ _ _ hb1) (fun v hv=>by
    obtain rfl:=List.mem_singleton.1 hv
    rfl)
 have HQ:Hid (KU (.slice (some ⟨g,0,none⟩) l.length cap) i x l w (.returned (.slice (some ⟨g,0,none⟩) (l.length+1) cap)) (w1.setCells g i [.pointer (some ⟨x,0,none⟩)])):=by
  obtain⟨a4a,hb2,hs2,hk2⟩:=jD (g:=g) [.pointer (some ⟨x,0,none⟩)] i hb1;refine⟨_,rfl,nV.of_cells hb2 (uj _ (Nat.le_of_lt hi)) hroom h5 (by omega) ?_,.inl rfl,?_⟩
  ·apply List.ext_getElem?;intro k;by_cases hk:k<l.length+1
   ·rw[List.getElem?_take_of_lt hk,Array.getElem?_toList,hk2 k (by omega),List.getElem?_map];unfold insL;by_cases h1:k<i
    ·rw[if_neg (by omega),hk1 k (by omega),if_neg (by omega),JR k (by omega),List.getElem?_map,List.getElem?_append_left (by rw[List.length_take];omega),List.getElem?_take_of_lt h1]
    ·by_cases h2:k=i
     ·subst h2;rw[if_pos (by simp),Nat.sub_self,List.getElem?_append_right (by rw[List.length_take];omega),List.length_take,Nat.min_eq_left (by omega),Nat.sub_self];rfl
     ·rw[if_neg (by simp;omega),hk1 k (by omega),if_pos (by rw[hdl];omega),List.getElem?_append_right (by rw[List.length_take];omega),List.length_take,Nat.min_eq_left (by omega),show k - i=(k - (i+1))+1 by omega,List.getElem?_cons_succ,List.getElem?_map]
   ·rw[List.getElem?_take_eq_none (by omega),List.getElem?_eq_none (by rw[List.length_map,uj _ (Nat.le_of_lt hi)];omega)]
  ·exact(ae.below (S:=AL (some g)) ((Below.refl _ w).drew)).trans (hT1.trans (iI _ _ _))
 have hcp1:=hcp1 w.drew rfl;rw[←hw1]at hcp1;have hcb:cap<=9223372036854775807:=by unfold maxLen at h5;omega
 have hz2:((i:Int)==(l.length:Int))=false:=by simp;omega
 have hz3:decide ((cap:Int)<(l.length:Int)+1)=false:=by simp;omega
 have hb2:¬(cap=i+1):=by omega
 have hb4:¬(cap=i):=by omega
 have hin:i<=l.length:=by omega
 have hin1:(i:Int)<=(l.length:Int)+1:=by omega
 clear h3 h5 h6 h7 hx hne hdl hcell JR hw1 hb1 hs1 hk1 hT1 hx1;generalize ((l.drop i).map ptrTo).length=dl at*;generalize l.length=n at*;go_enter func143,ntmps143;go_wp2_with (simp only[hov]);have hwi:IntKind.i64.wrap ((i:Int)+1)=(i:Int)+1:=by rw[IntKind.wrap_i64];omega
 have hti:((i:Int)+1).toNat=i+1:=by omega
 have hb3:(0:Int)<=(i:Int)+1:=by omega
 go_region_law (refine Ce rfl _ _ 192 192 _ rfl rfl _ _ _ _ (by simp[Act.eval,Act.put]) (by simp[Act.eval,Act.put]) (hcp1 _ _ _) ?_)
 go_wp2_with (at_builtin;refine Fb rfl _ _ 192 192 _ rfl rfl _ _ _ _ rfl rfl (hcp2 _ _) ?_);go_ret;exact HQ.o
end
section
open Go.RowKit aF
theorem D9{w:World}{g i:Nat}{cur:Array Value}{l:List (Option Nat)}(h3:w.heap[g]?=some (.cells cur jg (0,0)))(h6:cur.size=l.length)(h7:cur.toList.take l.length=l.map ptrTo)
  (hi:i<l.length) (vb x c:Nat) (hx:au w vb [.pointer (some ⟨x,0,none⟩)] jg) (hn:l.length<=100000) :
  Calls prog 143 #[.slice (some ⟨g,0,none⟩) l.length l.length,.int .i64 (i:Nat),.slice (some ⟨vb,0,none⟩) 1 c] w (KU (.slice (some ⟨g,0,none⟩) l.length l.length) i x l w):=by
 obtain⟨i0,hi0,hz0,hsz,hby⟩:=info_parts zu;have hgw:g<w.heap.size:=lt_of_block h3;have hvw:vb<w.heap.size:=hx.inside;have JR:∀k,k<l.length->cur[k]?=(l.map ptrTo)[k]?:=fun k hk=>by rw[←h7,List.getElem?_take_of_lt hk,Array.getElem?_toList]
 have hold:(Builtin.firstCells i0.size i (.slice (some ⟨g,0,none⟩) i l.length)).run prog w.drew=.ok ((l.take i).map ptrTo).toArray w.drew:=by
  rw[hsz]
  exact run_firstCells_some w.drew 1 i ⟨g,0,none⟩ i l.length ((l.take i).map ptrTo) (by rw[List.length_map,List.length_take];omega) (fun j v hj=>by
   have hjl:=(List.getElem?_eq_some_iff.1 hj).1;rw[List.length_map,List.length_take]at hjl;rw[Addr.add_lit,Nat.zero_add];show w.cell? _=_;rw[cell_of_row _ _ _ _ _ _ h3,JR j (by omega)];rw[List.map_take,List.getElem?_take_of_lt (by omega)]at hj
   exact hj)
 have hrz:=fun ty=>Lib.run_append_grow_zeros (P:=prog) w 192 3 ty 191 i0 _ .i64 .i64 underlying192 underlying3 hi0 hz0 (some ⟨g,0,none⟩) i l.length ((l.take i).map ptrTo) hold (l.length+1 - i) (by omega) (by omega) (by omega) (by omega) (by rw[hby];omega) (by rw[hby];exact growslice_fits (by omega) (by omega));have hik:i+(l.length+1 - i)=l.length+1:=by omega
 rw[hik]at hrz;have hGn:=grownCap_ge w (l.length+1) l.length 191;have hG63:=grownCap_le_maxLen w (l.length+1) l.length 191 (by unfold maxLen;omega);generalize grownCap w (l.length+1) l.length 191=G at*
 obtain⟨ROW,hROW⟩:∃ROW:Array Value,ROW=((l.take i).map ptrTo).toArray++Builtin.zeroCells (Value.pointer none).cells (l.length+1 - i)++Builtin.zeroCells (Value.pointer none).cells (G - (l.length+1)):=⟨_,rfl⟩
 rw[←hROW]at hrz
 have hRl:ROW.size=G:=by
  rw[hROW];simp[Builtin.zeroCells,Value.cells];omega
 have hRt:∀k,k<i->ROW[k]?=(l.map ptrTo)[k]?:=fun k hk=>by
  rw[hROW,Array.append_assoc,Array.getElem?_append_left (by simp;omega)];simp only[List.getElem?_toArray];rw[List.map_take,List.getElem?_take_of_lt hk]
 obtain⟨W1,hW1⟩:∃W1,W1=w.drew.alloc (.cells ROW 191):=⟨_,rfl⟩
 rw[←hW1]at hrz;have b1:W1.heap[w.heap.size]?=some (.cells ROW jg (0,0)):=by rw[hW1];exact heap_alloc_new w.drew _
 have T0:bz w W1:=by rw[hW1];exact((Below.refl _ w).drew).alloc nR _
 have hN1:vb≠w.heap.size:=by omega
 have hN2:g≠w.heap.size:=by omega
 have hcpA:∀ty dc,(Builtin.copy_ #[192,192] ty #[.slice (some ⟨w.heap.size,i,none⟩) (l.length+1 - i) dc,.slice (some ⟨vb,0,none⟩) 1 c]).run prog W1=.ok (goInt 1) (W1.setCells w.heap.size i [.pointer (some ⟨x,0,none⟩)]):=fun ty dc=>
  run_copy_cells W1 _ _ ty 191 w.heap.size i _ dc ⟨vb,0,none⟩ 1 c [.pointer (some ⟨x,0,none⟩)] underlying192 MV (by simp only[Nat.min_def,List.length_singleton];split<;>omega)
   (fun j v hj=>by
    rw[Addr.add_lit,Nat.zero_add,(au.stays hx (T0.block vb hvw)).blk.cell]
    exact hj)
   (fun j hj=>by
    have hj0:j=0:=by simpa using hj
    rw[cell_of_row _ _ _ _ _ _ b1,Array.getElem?_eq_getElem (by omega)];rfl) (fun j hj=>frozen_of_row _ _ _ _ _ b1) (fun v hv=>by
    obtain rfl:=List.mem_singleton.1 hv
    rfl)
 obtain⟨a4a,b2,s2,k2⟩:=jD (g:=w.heap.size) [.pointer (some ⟨x,0,none⟩)] i b1;have T2:=iI (g:=w.heap.size) [.pointer (some ⟨x,0,none⟩)] i W1
 obtain⟨W2,hW2⟩:∃W2,W2=W1.setCells w.heap.size i [.pointer (some ⟨x,0,none⟩)]:=⟨_,rfl⟩
 rw[←hW2]at hcpA b2 T2;have g2:W2.heap[g]?=some (.cells cur jg (0,0)):=((T2.far g (by have:=T0.size;omega) (fun e=>hN2 (Option.some.inj e).symm)).2).trans ((T0.block g hgw).trans h3);have hdl:((l.drop i).map ptrTo).length=l.length - i:=by rw[List.length_map,List.length_drop]
 have hcpB:∀ty dc sc,(Builtin.copy_ #[192,192] ty #[.slice (some ⟨w.heap.size,i+1,none⟩) (l.length - i) dc,.slice (some ⟨g,i,none⟩) (l.length - i) sc]).run prog W2.drew=.ok (goInt ((l.drop i).map ptrTo).length) (W2.drew.setCells w.heap.size (i+1) ((l.drop i).map ptrTo)):=fun ty dc sc=>
  run_copy_cells W2.drew _ _ ty 191 w.heap.size (i+1) _ dc ⟨g,i,none⟩ _ sc _ underlying192 MV (by rw[hdl];simp only[Nat.min_def];split<;>omega)
   (fun j v hj=>by
    have hjl:=(List.getElem?_eq_some_iff.1 hj).1;rw[hdl]at hjl;rw[Addr.add_lit];show W2.cell? _=_;rw[cell_of_row _ _ _ _ _ _ g2,JR _ (by omega)];rw[List.map_drop,List.getElem?_drop]at hj
    exact hj)
   (fun j hj=>by
    show(W2.cell? _).isSome=true;rw[cell_of_row _ _ _ _ _ _ b2,Array.getElem?_eq_getElem (by omega)];rfl) (fun j hj=>by
    show W2.frozen? _=false;exact frozen_of_row _ _ _ _ _ b2) (fun v hv=>by
    obtain⟨o,_,rfl⟩:=List.mem_map.1 hv
    exact ZO o)
 obtain⟨a5a,b3,s3,k3⟩:=jD (g:=w.heap.size) ((l.drop i).map ptrTo) (i+1) (w:=W2.drew) b2;have T3:=iI (g:=w.heap.size) ((l.drop i).map ptrTo) (i+1) W2.drew
 obtain⟨W3,hW3⟩:∃W3,W3=W2.drew.setCells w.heap.size (i+1) ((l.drop i).map ptrTo):=⟨_,rfl⟩
 rw[←hW3]at hcpB b3 T3
 have HQ:Hid (KU (.slice (some ⟨g,0,none⟩) l.length l.length) i x l w (.returned (.slice (some ⟨w.heap.size,0,none⟩) (l.length+1) G)) W3):=by
  refine⟨_,rfl,nV.of_cells b3 (uj _ (Nat.le_of_lt hi)) hGn hG63 (by omega) ?_,.inr ⟨_,rfl,nR⟩,?_⟩
  ·apply List.ext_getElem?;intro k;by_cases hk:k<l.length+1
   ·have hr:((insL i (some x) l).map ptrTo)[k]?=((insL i (some x) l)[k]?).map ptrTo:=List.getElem?_map ..;rw[List.getElem?_take_of_lt hk,Array.getElem?_toList,hr,k3 k (by omega)];unfold insL;by_cases h1:k<i
    ·rw[if_neg (by omega),k2 k (by omega),if_neg (by omega),hRt k h1,List.getElem?_map,List.getElem?_append_left (by rw[List.length_take];omega),List.getElem?_take_of_lt h1]
    ·by_cases h2:k=i
     ·subst h2;rw[if_neg (by omega),k2 k (by omega),if_pos (by simp),Nat.sub_self,List.getElem?_append_right (by rw[List.length_take];omega),List.length_take,Nat.min_eq_left (by omega),Nat.sub_self];rfl
     ·rw[if_pos (by rw[hdl];omega),List.getElem?_append_right (by rw[List.length_take];omega),List.length_take,Nat.min_eq_left (by omega),show k - i=(k - (i+1))+1 by omega,List.getElem?_cons_succ,List.getElem?_map]
   ·rw[List.getElem?_take_eq_none (by omega),List.getElem?_eq_none (by rw[List.length_map,uj _ (Nat.le_of_lt hi)];omega)]
  ·have hb:bz w W3:=(T0.trans (T2.aQ T0.size (fun k (e:some w.heap.size=some k)=>Nat.le_of_eq (Option.some.inj e)))).trans ((((Below.refl w.heap.size W2).drew)).trans (T3.aQ (by have:=T0.size;have:=T2.size;show _<=W2.heap.size;omega) (fun k (e:some w.heap.size=some k)=>Nat.le_of_eq (Option.some.inj e))));exact⟨hb.os,hb.tape,hb.output,hb.size,fun k hk _=>⟨fun(e:some w.heap.size=some k)=>by have:=Option.some.inj e;omega,hb.block k hk⟩⟩
 have hcb:G<=9223372036854775807:=by unfold maxLen at hG63;omega
 have hz2:((i:Int)==(l.length:Int))=false:=by simp;omega
 have hz3:decide ((l.length:Int)<(l.length:Int)+1)=true:=by simp;omega
 have hkk:(l.length:Int)+1 - (i:Int)=((l.length+1 - i:Nat):Int):=by omega
 have hb2:¬(G=i+1):=by omega
 have hb4:¬(G=i):=by omega
 have hb5:¬(l.length=i):=by omega
 have hin:i<=l.length:=by omega
 have hin1:(i:Int)<=(l.length:Int)+1:=by omega
 rw[←hkk]at hrz;clear h3 h6 h7 hx hdl JR hold hi0 hz0 hsz hby hik hGn hG63 hROW hRl hRt b1 b2 b3 T0 T2 T3 k2 k3 s2 s3 g2 hN1 hN2 hkk hW1 hW2 hW3;generalize ((l.drop i).map ptrTo).length=dl at*;generalize hnn:l.length=n at*;clear hnn;go_enter func143,ntmps143
 go_wp2_with (at_builtin;first
  |refine bG rfl _ _ 192 3 _ rfl rfl _ _ _ _ rfl rfl (hrz _) ?_
  |refine Fb rfl _ _ 192 192 _ rfl rfl _ _ _ _ rfl rfl (hcpA _ _) ?_)
 have hwi:IntKind.i64.wrap ((i:Int)+1)=(i:Int)+1:=by rw[IntKind.wrap_i64];omega
 have hti:((i:Int)+1).toNat=i+1:=by omega
 have hb3:(0:Int)<=(i:Int)+1:=by omega
 go_region_law (refine Ce rfl _ _ 192 192 _ rfl rfl _ _ _ _ (by simp[Act.eval,Act.put]) (by simp[Act.eval,Act.put]) (hcpB _ _ _) ?_)
 go_wp2_with (fail);go_ret;exact HQ.o
end
section
open Go.RowKit aF
theorem WU{w:World}{v:Value}{l:List (Option Nat)}(h:nV w v l){i:Nat}(hi:i<=l.length)(vb x c:Nat)(hx:au w vb [.pointer (some ⟨x,0,none⟩)] jg)(hne:v.ownBlock≠some vb)(hn:l.length<=100000) :
  Calls prog 143 #[v,.int .i64 (i:Nat),.slice (some ⟨vb,0,none⟩) 1 c] w (KU v i x l w):=by
 by_cases he:i=l.length
 ·subst he;exact Gm h vb x c hx hn
 have hi:i<l.length:=by omega
 rcases h.cells with ⟨_,h0⟩|⟨g,cap,cur,rfl,h3,h4,h5,h6,h7⟩
 ·rw[h0]at hi;cases hi
 by_cases hr:l.length+1<=cap
 ·exact Bv h3 h5 h6 h7 hi hr vb x c hx (fun e=>hne (by rw[e];rfl)) hn
 ·obtain rfl:cap=l.length:=by omega
  exact D9 h3 h6 h7 hi vb x c hx hn
def cZ{α:Type}(f:Int->α)(q:Int)(x:α):Int->α:=fun j=>if j=q then x else f j
theorem bV{α:Type}(f:Int->α)(q:Int)(x:α):cZ f q x q=x:=if_pos rfl
theorem aH{α:Type}(f:Int->α){q j:Int}(h:j≠q)(x:α):cZ f q x j=f j:=if_neg h
theorem lq{α:Type}(f:Int->α)(q:Int):cZ f q (f q)=f:=by
 funext j
 unfold cZ;split
 ·subst_vars;rfl
 ·rfl
section
variable {w w':World}{b:Nat}{s:Sh}{H:Int->Prop}{P:Int->Option Int}{K:Int->List Int}
theorem Raw.Eh(_:Raw w b s H P K){q:Int}(hq:H q):jL b s H (s.g q):=.inr (.inr ⟨q,hq,.inl rfl⟩)
theorem Raw.ZU(h:Raw w b s H P K){q:Int}(hq:H q):s.g q≠b:=fun e=>by
 have:=(h.node q hq).blk;rw[e]at this;have:=h.blk.symm.trans this;simp at this
theorem Raw.Ju(h:Raw w b s H P K){q:Int}(hq:H q):s.g q≠s.m:=fun e=>by
 obtain⟨es,hm,_⟩:=h.map;have:=(h.node q hq).blk;rw[e]at this;exact hm.dR this
theorem kD:mG≠jg:=by decide
theorem Rk:yL≠jg:=by decide
theorem Raw.upd(h:Raw w b s H P K){q:Int}(hq:H q){v':Value}{l':List Int}{p':Option Int}(hn:qg w' (s.g q) q (p'.map s.g) v' (ks s l'))
  (hsame:∀k,jL b s H k->k≠s.g q->(s.v q).ownBlock≠some k->w'.heap[k]?=w.heap[k]?)
  (hv:v'.ownBlock=(s.v q).ownBlock∨∃g,v'.ownBlock=some g∧¬jL b s H g) :
  Raw w' b ⟨s.m,s.g,cZ s.v q v'⟩ H (cZ P q p') (cZ K q l'):=by
 have hb:w'.heap[b]?=w.heap[b]?:=hsame b (.inl rfl) (fun e=>h.ZU hq e.symm) fun e=>(h.node q hq).own.dR e h.blk Rk
 have hm:w'.heap[s.m]?=w.heap[s.m]?:=hsame s.m (.inr (.inl rfl)) (fun e=>h.Ju hq e.symm) fun e=>by
  obtain⟨es,hm,_⟩:=h.map;exact hm.D6 (h.node q hq).own e
 have hblk:∀j k,H j->j≠q->(k=s.g j∨(s.v j).ownBlock=some k)->w'.heap[k]?=w.heap[k]?:=by
  intro j k hj hne hk;refine hsame k (.inr (.inr ⟨j,hj,hk⟩)) ?_ ?_
  ·rintro rfl;rcases hk with e|e
   ·exact hne (h.inj _ _ hj hq e.symm)
   ·exact(h.node j hj).own.dR e (h.node q hq).blk kD
  ·intro e;rcases hk with rfl|e2
   ·exact(h.node q hq).own.dR e (h.node j hj).blk kD
   ·exact hne (h.apart _ _ _ hj hq e2 e)
 refine⟨h.blk.stays hb,?_,fun j hj=>?_,h.inj,?_⟩
 ·obtain⟨es,hm1,hl⟩:=h.map;exact⟨es,hm1.stays hm,hl⟩
 ·by_cases e:j=q
  ·subst e;simp only[bV];exact hn
  ·simp only[aH _ e];exact(h.node j hj).stays (hblk j _ hj e (.inl rfl)) fun k hk=>hblk j k hj e (.inr hk)
 ·intro i j k hi hj h1 h2;by_cases ei:i=q
  ·by_cases ej:j=q
   ·rw[ei,ej]
   ·simp only[ei,bV,aH _ ej]at h1 h2;rcases hv with hv|⟨g,hv,hf⟩
    ·rw[ei];exact h.apart _ _ _ hq hj (hv ▸ h1) h2
    ·rw[hv]at h1;obtain rfl:=Option.some.inj h1;exact absurd (.inr (.inr ⟨j,hj,.inr h2⟩)) hf
  ·by_cases ej:j=q
   ·simp only[ej,bV,aH _ ei]at h1 h2;rcases hv with hv|⟨g,hv,hf⟩
    ·rw[ej];exact h.apart _ _ _ hi hq h1 (hv ▸ h2)
    ·rw[hv]at h2;obtain rfl:=Option.some.inj h2;exact absurd (.inr (.inr ⟨i,hi,.inr h1⟩)) hf
   ·simp only[aH _ ei,aH _ ej]at h1 h2;exact h.apart _ _ _ hi hj h1 h2
theorem GY{b:Nat}{s:Sh}{H:Int->Prop}{q:Int}{v':Value}{k:Nat}(h:jL b ⟨s.m,s.g,cZ s.v q v'⟩ H k):jL b s H k∨v'.ownBlock=some k:=by
 rcases h with h|h|⟨i,hi,h|h⟩
 ·exact .inl (.inl h)
 ·exact .inl (.inr (.inl h))
 ·exact .inl (.inr (.inr ⟨i,hi,.inl h⟩))
 ·by_cases e:i=q
  ·simp only[e,bV]at h;exact .inr h
  ·simp only[aH _ e]at h;exact .inl (.inr (.inr ⟨i,hi,.inr h⟩))
def UE(b:Nat)(s:Sh)(H:Int->Prop)(P:Int->Option Int)(K:Int->List Int)(i q:Int)(w:World)(e:Ending)(w':World):Prop:=
 ∃v',e=.returned (.tuple #[])∧Raw w' b ⟨s.m,s.g,cZ s.v q v'⟩ H (cZ P i none) (cZ K q ((K q).eraseIdx ((K q).idxOf i)))∧ae (jL b s H) (jL b ⟨s.m,s.g,cZ s.v q v'⟩ H) w w'
theorem ZW(h:Raw w b s H P K){i q:Int}(hi:H i)(hq:H q)(hp:P i=some q)(hne:i≠q)(hK:∀x∈K q,H x)(hm:i∈K q)(hn:(K q).length<=100000) :
  Calls prog 135 #[.pointer (some ⟨s.g i,0,none⟩)] w (UE b s H P K i q w):=by
 obtain⟨⟨-,i1,-⟩,⟨-,fi1,-⟩,ii⟩:=h.cells hi;obtain⟨⟨-,-,q2⟩,⟨-,-,fq2⟩,qi⟩:=h.cells hq;rw[hp]at i1;simp only[Option.map_some,ptrTo]at i1;have a0l:s.g i≠s.g q:=fun e=>hne (h.inj _ _ hi hq e);have HX:=Hd (ZX h hq hK hm hn);have hlt:=List.idxOf_lt_length_iff.2 hm;have HD:=Hd (WV (h.node q hq).own (i:=(K q).idxOf i) (by rw[jU];exact hlt) (by rw[jU];exact hn));have hkb:(((K q).idxOf i:Nat):Int)<=100000:=by omega
 have HL:Hid ((ks s (K q)).eraseIdx ((K q).idxOf i)=ks s ((K q).eraseIdx ((K q).idxOf i))):=by
  show _=_;unfold ks;rw[List.eraseIdx_eq_take_drop_succ,List.eraseIdx_eq_take_drop_succ,List.map_append,List.map_take,List.map_drop]
 have HR:=Hd h;have HG:Hid (s.g i≠s.g q):=a0l;have HH:=Hd (And.intro hi (And.intro hq (And.intro hne hp)));unfold UE;clear h hi hq hp hne hK hm hn hlt;generalize (K q).idxOf i=k at*;go_enter func135,ntmps135;go_wp2_with (fail);refine HX.o.mono ?_;rintro e w1 ⟨rfl,rfl⟩;go_wp2_with (fail);refine HD.o.mono ?_;rintro e w2 ⟨v',rfl,hown,hvb,hT⟩
 obtain⟨A2,n2,c2,rfl⟩:∃A n c,v'=.slice A n c:=by
  obtain⟨A,c,e,-⟩:=hown.at_;exact⟨_,_,_,e⟩
 obtain⟨v',hv'⟩:∃v,v=Value.slice A2 n2 c2:=⟨_,rfl⟩
 rw[←hv']at hown hvb;obtain⟨hi,hq,hne,hp⟩:=HH.o;have hb2:∀j,H j->w2.heap[s.g j]?=w1.heap[s.g j]?:=fun j hj=>(hT.far _ (HR.o.node j hj).blk.inside (fun e=>(HR.o.node q hq).own.dR e (HR.o.node j hj).blk kD)).2;have bq:au w2 (s.g q) [.int .i64 q,ptrTo ((P q).map s.g),s.v q] mG:=(HR.o.node q hq).blk.stays (hb2 q hq);have bi:au w2 (s.g i) [.int .i64 i,ptrTo ((P i).map s.g),s.v i] mG:=(HR.o.node i hi).blk.stays (hb2 i hi)
 have HQ:Hid (Raw ((w2.setCell ⟨s.g q,2,none⟩ v').setCell ⟨s.g i,1,none⟩ (.pointer none)) b ⟨s.m,s.g,cZ s.v q v'⟩ H (cZ P i none) (cZ K q ((K q).eraseIdx k)) ∧
   ae (jL b s H) (jL b ⟨s.m,s.g,cZ s.v q v'⟩ H) w1 ((w2.setCell ⟨s.g q,2,none⟩ v').setCell ⟨s.g i,1,none⟩ (.pointer none))):=by
  have hT2:ae (jL b s H) (jL b s H) w1 (w2.setCell ⟨s.g q,2,none⟩ v'):=by
   have:=(hT.sub (S2:=AL (s.v q).ownBlock) fun k hk=>.inl hk)
   refine⟨hT.os,hT.tape,hT.output,by simpa[World.setCell]using hT.size,fun k hk hn=>⟨hn,?_⟩⟩;rw[heap_setCell_other _ _ _ _ (fun(e:k=s.g q)=>hn (by rw[e];exact HR.o.Eh hq))];exact(hT.far k hk (fun e=>hn (.inr (.inr ⟨q,hq,.inr e⟩)))).2
  have hgq:∀k,(s.v q).ownBlock=some k->k≠s.g q:=fun k hk e=>(HR.o.node q hq).own.dR (e ▸ hk) (HR.o.node q hq).blk kD
  have h3:Raw (w2.setCell ⟨s.g q,2,none⟩ v') b ⟨s.m,s.g,cZ s.v q v'⟩ H P (cZ K q ((K q).eraseIdx k)):=by
   have:=HR.o.upd (w':=w2.setCell ⟨s.g q,2,none⟩ v') (v':=v') (l':=(K q).eraseIdx k) (p':=P q) hq ⟨bq.set 2 v',?_⟩ (fun k' hk' h1 h2=>?_) (.inl hvb)
   ·rw[lq]at this;exact this
   ·rw[←HL.o];exact ax.stays hown fun k' hk'=>heap_setCell_other _ _ _ _ (hgq k' (hvb ▸ hk'))
   ·rw[heap_setCell_other _ _ _ _ h1];exact(hT.far k' (HR.o.inside k' hk') h2).2
  have bi3:au (w2.setCell ⟨s.g q,2,none⟩ v') (s.g i) [.int .i64 i,ptrTo ((P i).map s.g),s.v i] mG:=bi.stays (heap_setCell_other _ _ _ _ (HG.o));have hvi:(cZ s.v q v') i=s.v i:=aH _ hne _;have hki:(cZ K q ((K q).eraseIdx k)) i=K i:=aH _ hne _
  have h4:Raw ((w2.setCell ⟨s.g q,2,none⟩ v').setCell ⟨s.g i,1,none⟩ (.pointer none)) b ⟨s.m,s.g,cZ s.v q v'⟩ H (cZ P i none) (cZ K q ((K q).eraseIdx k)):=by
   have:=h3.upd (w':=(w2.setCell ⟨s.g q,2,none⟩ v').setCell ⟨s.g i,1,none⟩ (.pointer none)) (v':=(cZ s.v q v') i) (l':=(cZ K q ((K q).eraseIdx k)) i) (p':=none) hi ⟨?_,?_⟩ (fun k' hk' h1 h2=>heap_setCell_other _ _ _ _ h1) (.inl rfl)
   ·rw[lq,lq]at this;exact this
   ·rw[hvi];exact bi3.set 1 _
   ·refine ax.stays (h3.node i hi).own fun k' hk'=>heap_setCell_other _ _ _ _ fun(e:k'=s.g i)=>?_;rw[e]at hk';exact(h3.node i hi).own.dR hk' (h3.node i hi).blk kD
  refine⟨h4,hT2.os,hT2.tape,hT2.output,by simpa[World.setCell]using hT2.size,fun k' hk' hn=>⟨fun e=>?_,?_⟩⟩
  ·rcases GY e with h|h
   ·exact hn h
   ·exact hn (.inr (.inr ⟨q,hq,.inr (hvb ▸ h)⟩))
  ·rw[heap_setCell_other _ _ _ _ (fun(e:k'=s.g i)=>hn (by rw[e];exact HR.o.Eh hi))];exact(hT2.far k' hk' hn).2
 rw[hv']at HQ;have fq:=bq.blk.free 2;have cq:=bq.blk.cell 2;have fi:=bi.blk.free 1;have ci:=bi.blk.cell 1;have zi:=bi.inside;have zq:=bq.inside;simp only[List.getElem?_cons_succ,List.getElem?_cons_zero]at cq ci;clear hown hvb hT hb2 bq bi hi hq hp hne HL hv';go_wp2_with (fail)
 go_end0
 exact⟨_,rfl,HQ.o.1,HQ.o.2⟩
end
end
section
open Go.RowKit aF
section
variable {w w':World}{b:Nat}{s:Sh}{H:Int->Prop}{P:Int->Option Int}{K:Int->List Int}
theorem Z7(s:Sh)(n:Nat)(i:Int)(l:List Int):insL n (some (s.g i)) (ks s l)=ks s (ins n i l):=by
 unfold insL ins ks;rw[List.map_append,List.map_cons,List.map_take,List.map_drop]
def Zb(b:Nat)(s:Sh)(H:Int->Prop)(P:Int->Option Int)(K:Int->List Int)(i p:Int)(n:Nat)(w:World)(e:Ending)(w':World):Prop:=
 ∃v',e=.returned (.tuple #[])∧Raw w' b ⟨s.m,s.g,cZ s.v p v'⟩ H (cZ P i (some p)) (cZ K p (ins n i (K p)))∧ae (jL b s H) (jL b ⟨s.m,s.g,cZ s.v p v'⟩ H) w w'
theorem YQ(h:Raw w b s H P K){i p:Int}(hi:H i)(hp:H p)(hne:i≠p){n:Nat}(hn:n<=(K p).length)(hm:(K p).length<=100000) :
  Calls prog 133 #[.pointer (some ⟨s.g p,0,none⟩),.pointer (some ⟨s.g i,0,none⟩),.int .i64 (n:Nat)] w (Zb b s H P K i p n w):=by
 obtain⟨w0,hw0⟩:∃w0,w0=w.alloc (.cells #[.pointer (some ⟨s.g i,0,none⟩)] jg):=⟨_,rfl⟩
 have hb0:bz w w0:=by rw[hw0];exact bR.alloc nR _
 have hx:au w0 w.heap.size [.pointer (some ⟨s.g i,0,none⟩)] jg:=by rw[hw0];exact au.new w _ _
 have h0:=h.below hb0;obtain⟨⟨-,-,q2⟩,⟨-,-,fq2⟩,qi⟩:=h.cells hp;have a0l:s.g i≠s.g p:=fun e=>hne (h.inj _ _ hi hp e);have HG:Hid (s.g i≠s.g p):=a0l
 have HI:=Hd (WU (h0.node p hp).own (i:=n) (by rw[jU];exact hn) w.heap.size (s.g i) 1 hx (fun e=>by
  have:=(ax.block (h.node p hp).own e).2
  omega) (by rw[jU];exact hm))
 have HR:=Hd h;have HR0:=Hd h0;have HH:=Hd (And.intro hi (And.intro hp hne));have HB0:=Hd hb0;have hnb:(n:Int)<=100000:=by omega
 unfold Zb;have HW0:=Hd hw0;clear h hi hp hne hn hm h0 hb0 hx;go_enter func133,ntmps133;rw[hw0]at HI;clear hw0;go_wp2_with (fail);refine HI.o.mono ?_;rintro e w2 ⟨v',rfl,hown,hvb,hT⟩;rw[←HW0.o]at hT hvb
 obtain⟨A2,n2,c2,rfl⟩:∃A n c,v'=.slice A n c:=by
  obtain⟨A,c,e,-⟩:=hown.at_;exact⟨_,_,_,e⟩
 obtain⟨v',hv'⟩:∃v,v=Value.slice A2 n2 c2:=⟨_,rfl⟩
 rw[←hv']at hown hvb hT;obtain⟨hi,hq,hne⟩:=HH.o;have hs0:=HB0.o.size;have hb2:∀j,H j->w2.heap[s.g j]?=w0.heap[s.g j]?:=fun j hj=>(hT.far _ (HR0.o.node j hj).blk.inside (fun e=>(HR0.o.node p hq).own.dR e (HR0.o.node j hj).blk kD)).2;have bq:au w2 (s.g p) [.int .i64 p,ptrTo ((P p).map s.g),s.v p] mG:=(HR0.o.node p hq).blk.stays (hb2 p hq);have bi:au w2 (s.g i) [.int .i64 i,ptrTo ((P i).map s.g),s.v i] mG:=(HR0.o.node i hi).blk.stays (hb2 i hi);have hT0:ae (jL b s H) (jL b s H) w w0:=ae.below HB0.o
 have hnew:∀g,v'.ownBlock=some g->(s.v p).ownBlock=some g∨w0.heap.size<=g:=fun g hg=>by
  rcases hvb with e|⟨g',e,hle⟩
  ·exact .inl (e ▸ hg)
  ·exact .inr (Option.some.inj (e.symm.trans hg) ▸ hle)
 have hgq:∀k,v'.ownBlock=some k->∀j,H j->k≠s.g j:=fun k hk j hj e=>by
  rcases hnew k hk with h1|h1
  ·exact(HR.o.node p hq).own.dR (e ▸ h1) (HR.o.node j hj).blk kD
  ·have:=(HR.o.node j hj).blk.inside;omega
 have HQ:Hid (Raw ((w2.setCell ⟨s.g p,2,none⟩ v').setCell ⟨s.g i,1,none⟩ (.pointer (some ⟨s.g p,0,none⟩))) b ⟨s.m,s.g,cZ s.v p v'⟩ H (cZ P i (some p)) (cZ K p (ins n i (K p))) ∧
   ae (jL b s H) (jL b ⟨s.m,s.g,cZ s.v p v'⟩ H) w ((w2.setCell ⟨s.g p,2,none⟩ v').setCell ⟨s.g i,1,none⟩ (.pointer (some ⟨s.g p,0,none⟩)))):=by
  have h3:Raw (w2.setCell ⟨s.g p,2,none⟩ v') b ⟨s.m,s.g,cZ s.v p v'⟩ H P (cZ K p (ins n i (K p))):=by
   have:=HR0.o.upd (w':=w2.setCell ⟨s.g p,2,none⟩ v') (v':=v') (l':=ins n i (K p)) (p':=P p) hq ⟨bq.set 2 v',?_⟩ (fun k' hk' h1 h2=>?_) ?_
   ·rw[lq]at this;exact this
   ·rw[←Z7];exact ax.stays hown fun k' hk'=>heap_setCell_other _ _ _ _ (hgq k' hk' p hq)
   ·rw[heap_setCell_other _ _ _ _ h1];exact(hT.far k' (HR0.o.inside k' hk') h2).2
   ·rcases hvb with e|⟨g',e,hle⟩
    ·exact .inl e
    ·exact .inr ⟨g',e,fun hf=>by have:=HR0.o.inside g' hf;omega⟩
  have bi3:au (w2.setCell ⟨s.g p,2,none⟩ v') (s.g i) [.int .i64 i,ptrTo ((P i).map s.g),s.v i] mG:=bi.stays (heap_setCell_other _ _ _ _ (HG.o));have hvi:(cZ s.v p v') i=s.v i:=aH _ hne _
  have h4:Raw ((w2.setCell ⟨s.g p,2,none⟩ v').setCell ⟨s.g i,1,none⟩ (.pointer (some ⟨s.g p,0,none⟩))) b ⟨s.m,s.g,cZ s.v p v'⟩ H (cZ P i (some p)) (cZ K p (ins n i (K p))):=by
   have:=h3.upd (w':=(w2.setCell ⟨s.g p,2,none⟩ v').setCell ⟨s.g i,1,none⟩ (.pointer (some ⟨s.g p,0,none⟩))) (v':=(cZ s.v p v') i) (l':=(cZ K p (ins n i (K p))) i) (p':=some p) hi ⟨?_,?_⟩ (fun k' hk' h1 h2=>heap_setCell_other _ _ _ _ h1) (.inl rfl)
   ·rw[lq,lq]at this;exact this
   ·rw[hvi];exact bi3.set 1 _
   ·refine ax.stays (h3.node i hi).own fun k' hk'=>heap_setCell_other _ _ _ _ fun(e:k'=s.g i)=>?_;rw[e]at hk';exact(h3.node i hi).own.dR hk' (h3.node i hi).blk kD
  have hsz:=hT.size;refine⟨h4,hT.os.trans HB0.o.os,hT.tape.trans HB0.o.tape,hT.output.trans HB0.o.output,by simp[World.setCell];omega,fun k' hk' hn=>⟨fun e=>?_,?_⟩⟩
  ·rcases GY e with h|h
   ·exact hn h
   ·rcases hnew k' h with h1|h1
    ·exact hn (.inr (.inr ⟨p,hq,.inr h1⟩))
    ·omega
  ·rw[heap_setCell_other _ _ _ _ (fun(e:k'=s.g i)=>hn (by rw[e];exact HR.o.Eh hi)),heap_setCell_other _ _ _ _ (fun(e:k'=s.g p)=>hn (by rw[e];exact HR.o.Eh hq))];exact((hT.far k' (by omega) (fun e=>hn (.inr (.inr ⟨p,hq,.inr e⟩)))).2).trans (HB0.o.block k' hk')
 rw[hv']at HQ;have fq:=bq.blk.free 2;have cq:=bq.blk.cell 2;have fi:=bi.blk.free 1;have ci:=bi.blk.cell 1;have zi:=bi.inside;have zq:=bq.inside;simp only[List.getElem?_cons_succ,List.getElem?_cons_zero]at cq ci;clear hown hvb hT hb2 bq bi hi hq hne hv' hT0 hnew hgq hs0;go_wp2_with (fail)
 go_end0
 exact⟨_,rfl,HQ.o.1,HQ.o.2⟩
end
end
section
open Go.RowKit aF
section
variable {w w':World}{b:Nat}{s:Sh}{H H':Int->Prop}{P P':Int->Option Int}{K K':Int->List Int}
theorem Raw.like(h:Raw w b s H P K)(hH:∀i,H' i↔H i)(hP:∀i,H i->P' i=P i)(hK:∀i,H i->K' i=K i):Raw w b s H' P' K':=by
 refine⟨h.blk,?_,fun i hi=>?_,fun i j hi hj=>h.inj i j ((hH i).1 hi) ((hH j).1 hj),fun i j k hi hj=>h.apart i j k ((hH i).1 hi) ((hH j).1 hj)⟩
 ·obtain⟨es,hm,hl⟩:=h.map;exact⟨es,hm,fun i g=>by rw[hl,hH]⟩
 ·have hi':=(hH i).1 hi;rw[hP i hi',hK i hi'];exact h.node i hi'
theorem jL.like(hH:∀i,H' i↔H i)(k:Nat):jL b s H' k↔jL b s H k:=by
 unfold jL;exact or_congr Iff.rfl (or_congr Iff.rfl (exists_congr fun i=>and_congr (hH i) Iff.rfl))
theorem SQ{s s':Sh}{l:List Int}(h:∀k∈l,s'.g k=s.g k):ks s' l=ks s l:=List.map_congr_left fun k hk=>by rw[h k hk]
abbrev y9(i:Int):Obj:=.cells #[.int .i64 i,.pointer none,.slice none 0 0] mG
theorem Raw.grow(h:Raw w b s H P K){i:Int}(hi:¬H i)(h64:I64 i)(hP:∀j,H j->P j≠some i)(hK:∀j,H j->i∉K j)(hn:∀es,MapAt w s.m es->(∀i g,omap.look es i=some g↔H i∧s.g i=g)->es.length<=100000) :
  ∃w2,(Instr.mapUpdate 195 (.map (some s.m)) (.int .i64 i) (.pointer (some ⟨w.heap.size,0,none⟩))).run prog (w.alloc (y9 i))=.ok () w2 ∧
   Raw w2 b ⟨s.m,cZ s.g i w.heap.size,cZ s.v i (.slice none 0 0)⟩ (fun j=>j=i∨H j) (cZ P i none) (cZ K i [])∧(w.alloc (y9 i)).grownBy w2 (some s.m) ∧
   ae (jL b s H) (jL b ⟨s.m,cZ s.g i w.heap.size,cZ s.v i (.slice none 0 0)⟩ (fun j=>j=i∨H j)) w w2:=by
 obtain⟨es,hm,hl⟩:=h.map;have hb:bz w (w.alloc (y9 i)):=bR.alloc nR _;have hm1:=hm.stays (hb.block _ hm.inside);have hlen:=hn es hm hl
 have hnone:omap.look es i=none:=by
  cases ho:omap.look es i with
  |none=>rfl
  |some g=>exact absurd ((hl i g).1 ho).1 hi
 obtain⟨w2,hrun,hm2,hg⟩:=hm1.store h64 w.heap.size (by
  show(omap.ins lt i w.heap.size (omap.del i es)).length<=_;rw[omap.zt];have:(omap.del i es).length<=es.length:=List.length_filter_le _ _
  omega)
 have hmw:s.m<w.heap.size:=hm.inside;have hsame:∀k,k<w.heap.size->k≠s.m->w2.heap[k]?=w.heap[k]?:=fun k hk hne=>(hg.block k (by simp;omega) (fun e=>hne (Option.some.inj e))).trans (hb.block k hk);have hnew:w2.heap[w.heap.size]?=some (y9 i):=(hg.block w.heap.size (by simp) (fun e=>by have:=Option.some.inj e;omega)).trans (heap_alloc_new w _)
 have hnd:∀j,H j->qg w2 (s.g j) j ((P j).map s.g) (s.v j) (ks s (K j)):=fun j hj=>by
  refine(h.node j hj).stays (hsame _ (h.node j hj).blk.inside (h.Ju hj)) fun k hk=>hsame k (ax.block (h.node j hj).own hk).2 fun e=>?_;exact hm.D6 (h.node j hj).own (e ▸ hk)
 have hji:∀j,H j->j≠i:=fun j hj e=>hi (e ▸ hj);refine⟨w2,hrun,⟨h.blk.stays (hsame b h.blk.inside fun e=>hm.dR (e ▸ h.blk)),⟨_,hm2,fun j g=>?_⟩,fun j hj=>?_,fun j k hj hk e=>?_,fun j k x hj hk h1 h2=>?_⟩,hg,?_⟩
 ·by_cases e:j=i
  ·subst e;rw[omap.dw,if_pos rfl];simp only[bV,true_or,true_and,Option.some.injEq]
  ·rw[omap.dw,if_neg e,hl];simp only[aH _ e,e,false_or]
 ·by_cases e:j=i
  ·subst e;simp only[bV,Option.map_none];exact⟨hnew,ax.nil _ _⟩
  ·have hj':=hj.resolve_left e;simp only[aH _ e]
   have e1:(P j).map (cZ s.g i w.heap.size)=(P j).map s.g:=by
    cases hp:P j with
    |none=>rfl
    |some q=>exact congrArg some (aH _ (fun e=>hP j hj' (by rw[hp,e])) _)
   have e2:ks ⟨s.m,cZ s.g i w.heap.size,cZ s.v i (.slice none 0 0)⟩ (K j)=ks s (K j):=SQ fun k hk=>aH _ (fun(e:k=i)=>hK j hj' (by rw[←e];exact hk)) _;rw[e1,e2];exact hnd j hj'
 ·by_cases ej:j=i<;>by_cases ek:k=i
  ·rw[ej,ek]
  ·have hk':=hk.resolve_left ek;simp only[ej,bV,aH _ ek]at e;have:=(h.node k hk').blk.inside;omega
  ·have hj':=hj.resolve_left ej;simp only[ek,bV,aH _ ej]at e;have:=(h.node j hj').blk.inside;omega
  ·simp only[aH _ ej,aH _ ek]at e;exact h.inj j k (hj.resolve_left ej) (hk.resolve_left ek) e
 ·by_cases ej:j=i
  ·simp only[ej,bV]at h1;cases h1
  ·by_cases ek:k=i
   ·simp only[ek,bV]at h2;cases h2
   ·simp only[aH _ ej,aH _ ek]at h1 h2;exact h.apart j k x (hj.resolve_left ej) (hk.resolve_left ek) h1 h2
 ·have hsz:=hg.size;simp only[World.size_alloc]at hsz;refine⟨hg.os,hg.tape,hg.output,by omega,fun k hk hn'=>⟨fun hf=>?_,hsame k hk fun e=>hn' (.inr (.inl e))⟩⟩;rcases hf with e|e|⟨j,hj,hjk⟩
  ·exact hn' (.inl e)
  ·exact hn' (.inr (.inl e))
  ·by_cases e:j=i
   ·simp only[e,bV]at hjk;rcases hjk with e1|e1
    ·omega
    ·cases e1
   ·simp only[aH _ e]at hjk;exact hn' (.inr (.inr ⟨j,hj.resolve_left e,hjk⟩))
end
section
variable {w w':World}{b:Nat}{s:Sh}{t:T}
def EN(b:Nat)(s:Sh)(t:T)(r:T×Int)(w:World)(e:Ending)(w':World):Prop:=
 ∃s',e=.returned (.int .i64 r.2)∧aX w' b s' r.1∧ae (gq b s t) (gq b s' r.1) w w'
theorem EN.same(h:aX w b s t){c:Int}{w':World}(hb:bz w w'):EN b s t (t,c) w (.returned (.int .i64 c)) w':=⟨s,rfl,h.below hb,ae.below hb⟩
theorem ae.turn{S S' S2:bF}{w w':World}(h:ae S S' w w')(hs:∀k,S2 k↔S' k):ae S S2 w w':=h.sub fun k hk=>.inl ((hs k).1 hk)
theorem a1r(h:aX w b s t)(hn:t.length<=1000)(i p n:Int)(hi:I64 i)(hp:I64 p) :
  Calls prog 116 (Vs b i p n).toArray w (EN b s t (gJ t i p n) w):=by
 obtain⟨R,hR⟩:=aC (gJ t i p n)
 have HQ:=Hd hR;rw[hR];clear hR;unfold gJ at HQ;obtain⟨c0,bi⟩:=h.raw.top;have HT:=Hd h;by_cases h1:i<1
 ·have t1:decide (i<=0)=true:=decide_eq_true (by omega);have jP:=Hd (HQ.o.symm.trans (if_pos (.inl h1)));clear h1 HQ h hn hi hp;go_enter func116,ntmps116;go_wp2_with (fail);go_ret;rw[jP.o];exact EN.same HT.o bR
 have t1:decide (i<=0)=false:=decide_eq_false (by omega);by_cases h2:65535<i
 ·have t2:decide (65536<=i)=true:=decide_eq_true (by omega);have jP:=Hd (HQ.o.symm.trans (if_pos (.inr h2)));clear h1 h2 HQ h hn hi hp;go_enter func116,ntmps116;go_wp2_with (fail);go_ret;rw[jP.o];exact EN.same HT.o bR
 have t2:decide (65536<=i)=false:=decide_eq_false (by omega);have sH:=Hd (HQ.o.symm.trans (if_neg (show ¬(i<1∨65535<i) by omega)));have HI2:=Hd (show 1<=i∧i<=65535 by omega);clear h1 h2 HQ;by_cases hx:has t i=true
 ·have hlk:=h.raw.ik hi hx;have jP:=Hd (sH.o.trans (if_pos hx));clear sH h hn hi hp hx;go_enter func116,ntmps116;go_wp2_with (fail);go_ret;rw[jP.o];exact EN.same HT.o bR
 have hlk:=h.raw.fB hi hx;have jP:=Hd (sH.o.trans (if_neg hx));clear sH;by_cases hy:has t p=true
 case neg=>
  have hlk2:=h.raw.fB hp hy;have ny:=Hd (jP.o.trans (if_pos (by simpa using hy)));clear jP h hn hi hp hx hy;go_enter func116,ntmps116;go_wp2_with (fail);go_ret;rw[ny.o];exact EN.same HT.o bR
 have hlk2:=h.raw.ik hp hy;have ny:=Hd (jP.o.trans (if_neg (by simp[hy])));clear jP;obtain⟨⟨-,-,p2⟩,-,pi⟩:=h.raw.cells (i:=p) hy;obtain⟨A,c,hv,hc1,hc2,hat⟩:=(h.raw.node p hy).own.at_;rw[jU]at hv;rw[hv]at p2;clear hc1 hc2 hat;have hkl:(kids t p).length<=1000:=Nat.le_trans (gy t p) hn;by_cases h3:n<0
 ·have t3:decide (n<0)=true:=decide_eq_true h3;have qj:=Hd (ny.o.trans (if_pos (.inl h3)));clear h3 ny h hn hi hp hx hy hv hkl;go_enter func116,ntmps116;go_wp2_with (fail);go_ret;rw[qj.o];exact EN.same HT.o bR
 have t3:decide (n<0)=false:=decide_eq_false h3
 obtain⟨m,rfl⟩:∃m:Nat,n=m:=⟨n.toNat,by omega⟩
 clear h3;by_cases h4:(kids t p).length<m
 ·have t4:decide ((kids t p).length<m)=true:=decide_eq_true h4;have qj:=Hd (ny.o.trans (if_pos (.inr (by omega))));clear h4 ny h hn hi hp hx hy hv hkl;generalize (kids t p).length=L at*;go_enter func116,ntmps116;go_wp2_with (fail);go_ret;rw[qj.o];exact EN.same HT.o bR
 have t4:decide ((kids t p).length<m)=false:=decide_eq_false h4;have qj:=Hd (ny.o.trans (if_neg (by omega)));clear ny hv;have hnot:=yf hx
 obtain⟨w2,hrun,hraw,hgr,hT⟩:=h.raw.grow (i:=i) hx hi (fun j hj e=>by
   by_cases h0:j=0
   ·subst h0;cases e
   ·rw[fO h0]at e
    injection e with e
    have:=h.ok.fQ ((ah.1 hj).resolve_left h0);rw[e]at this
    exact this.elim hnot.1 hnot.2) (fun j _ hk=>hnot.2 (h.ok.kid hk).1) (fun es hm hl=>by rw[es_len hm.rises h.ok hl];omega)
 have hpi:p≠i:=fun e=>hx (e ▸ hy);have hkp:cZ (kids t) i [] p=kids t p:=aH _ hpi _;have HC:=Hd (YQ hraw (i:=i) (p:=p) (.inl rfl) (.inr hy) (Ne.symm hpi) (n:=m) (by rw[hkp];omega) (by rw[hkp];omega));simp only[bV,aH _ hpi]at HC;have HF:=Hd (And.intro hT (And.intro hnot (And.intro hy hpi)));have HM:=Hd (fun q=>nJ (t:=t) (r:=(i,p)) (n:=m) h.ok.nd (show m<=(kids t p).length by omega) q);clear h hn hi hp hx hy hraw hT hgr hnot hpi hkp hkl h4;generalize (kids t p).length=L at*;go_enter func116,ntmps116;go_wp2_with (fail);refine HC.o.mono ?_
 rintro e w3 ⟨v',rfl,hraw,hT3⟩;obtain⟨hT,hnot,hy,hpi⟩:=HF.o;have hp0:=ah.1 hy
 have hH:∀j,eH (put (i,p) m t) j↔(j=i∨eH t j):=fun j=>by
  unfold eH;rw[ah,ah,kU];simp only;exact⟨fun h=>h.elim (fun h=>.inr (.inl h)) fun h=>h.elim .inl fun h=>.inr (.inr h),fun h=>h.elim (fun h=>.inr (.inl h)) fun h=>h.elim .inl fun h=>.inr (.inr h)⟩
 have HE:Hid (EN b s t (put (i,p) m t,0) w (.returned (.int .i64 0)) w3):=by
  refine⟨⟨s.m,cZ s.g i w.heap.size,cZ (cZ s.v i (.slice none 0 0)) p v'⟩,rfl,⟨hraw.like hH (fun j hj=>?_) fun j hj=>?_,HT.o.ok.put hnot.2 HI2.o.1 HI2.o.2 hp0 m⟩,(hT.trans hT3).turn (jL.like hH)⟩
  ·by_cases e:j=i
   ·subst e;rw[bV,fO hnot.1,xZ HT.o.ok.nd hnot.2,if_pos rfl]
   ·rw[aH _ e,aH _ e];by_cases h0:j=0
    ·subst h0;rfl
    ·rw[fO h0,fO h0,xZ HT.o.ok.nd hnot.2,if_neg e]
  ·rw[HM.o];by_cases e:j=p
   ·subst e;rw[if_pos rfl,bV,aH _ hpi]
   ·rw[if_neg e,aH _ e];by_cases e2:j=i
    ·subst e2;rw[bV];exact qF HT.o.ok (fun h=>(ah.1 h).elim hnot.1 hnot.2)
    ·rw[aH _ e2]
 clear hraw hT3 hT hnot hy hpi hp0 hH;go_wp2_with (fail);go_ret;rw[qj.o];exact HE.o
end
end
section
open Go.RowKit aF
theorem vV{l:List Int}(hn:l.Nodup)(i:Int)(_:i∈l):l.eraseIdx (l.idxOf i)=l.filter fun k=>decide (k≠i):=by
 rw[←List.erase_eq_eraseIdx_of_idxOf (l:=l) (a:=i) rfl,hn.erase_eq_filter];exact List.filter_congr fun x _=>by by_cases h:x=i<;>simp[h]
section
variable {w w':World}{b:Nat}{s:Sh}{t:T}
theorem Rh(h:aX w b s t)(hn:t.length<=10000){i:Int}(hi:i∈ids t) :
  Calls prog 135 #[.pointer (some ⟨s.g i,0,none⟩)] w fun e w'=>∃v',e=.returned (.tuple #[])∧Raw w' b ⟨s.m,s.g,cZ s.v (par t i) v'⟩ (eH t) (cZ (Bi t) i none) (fun q=>(kids t q).filter fun k=>decide (k≠i)) ∧
   ae (gq b s t) (gq b ⟨s.m,s.g,cZ s.v (par t i) v'⟩ t) w w':=by
 have h0:=h.ok.uK hi;have hq:eH t (par t i):=ah.2 (h.ok.fQ hi)
 have hne:i≠par t i:=fun e=>by
  have:=bP h.ok hi;rw[←e]at this;omega
 have hm:=jH hi;have hl:(kids t (par t i)).length<=100000:=by have:=gy t (par t i);omega
 refine(ZW h.raw (i:=i) (q:=par t i) (ah.2 (.inr hi)) hq (fO h0) hne (fun x hx=>ah.2 (.inr (h.ok.kid hx).1)) hm hl).mono ?_;rintro e w' ⟨v',rfl,hraw,hT⟩;refine⟨v',rfl,hraw.like (fun _=>Iff.rfl) (fun _ _=>rfl) (fun j _=>?_),hT⟩;by_cases e:j=par t i
 ·subst e;rw[bV];exact(vV (eQ h.ok.nd _) i hm).symm
 ·rw[aH _ e];refine List.filter_eq_self.2 fun x hx=>?_;rw[decide_eq_true_eq];rintro rfl;exact e (h.ok.kid hx).2.symm
theorem YF(h:aX w b s t)(hn:t.length<=1000)(i p n:Int)(hi:I64 i)(hp:I64 p) :
  Calls prog 122 (Vs b i p n).toArray w (EN b s t (jT t i p n) w):=by
 obtain⟨R,hR⟩:=aC (jT t i p n)
 have HQ:=Hd hR;rw[hR];clear hR;unfold jT at HQ;obtain⟨c0,bi⟩:=h.raw.top;have HT:=Hd h;have lD:=Hd (a1q h i hi);unfold SS O0 at lD;by_cases h1:i=0
 ·have jP:=Hd (HQ.o.symm.trans (if_pos h1));simp only[if_pos h1]at lD;rw[if_neg (by decide)]at lD;clear h1 HQ h hn hi hp;go_enter func122,ntmps122;go_wp2_with (fail);refine lD.o.mono ?_;rintro e w1 ⟨rfl,rfl⟩;go_wp2_with (fail);go_ret;rw[jP.o];exact EN.same HT.o bR
 have sH:=Hd (HQ.o.symm.trans (if_neg h1));simp only[if_neg h1]at lD;clear HQ;by_cases hx:has t i=true
 case neg=>
  have hx':has t i=false:=by simpa using hx
  have jP:=Hd (sH.o.trans (if_pos hx'));simp only[if_pos hx']at lD;rw[if_neg (by decide)]at lD;clear h1 sH h hn hi hp hx hx';go_enter func122,ntmps122;go_wp2_with (fail);refine lD.o.mono ?_;rintro e w1 ⟨rfl,rfl⟩;go_wp2_with (fail);go_ret;rw[jP.o];exact EN.same HT.o bR
 have hx':¬has t i=false:=by simp[hx]
 have jP:=Hd (sH.o.trans (if_neg hx'));simp only[if_neg hx',if_true]at lD;clear sH hx';have hii:=(ah.1 hx).resolve_left h1;by_cases hy:has t p=true
 case neg=>
  have hlk2:=h.raw.fB hp hy;have ny:=Hd (jP.o.trans (if_pos (by simpa using hy)));clear jP h hn hi hp hx hy h1 hii;go_enter func122,ntmps122;go_wp2_with (fail);refine lD.o.mono ?_;rintro e w1 ⟨rfl,rfl⟩;go_wp2_with (fail);go_ret;rw[ny.o];exact EN.same HT.o bR
 have hlk2:=h.raw.ik hp hy;have ny:=Hd (jP.o.trans (if_neg (by simp[hy])));clear jP;by_cases h3:p=i
 ·have hpe:=tu w (s.g i);have qj:=Hd (ny.o.trans (if_pos (.inl h3)));rw[show s.g p=s.g i by rw[h3]]at hlk2;clear h3 ny h hn hi hp hx hy h1 hii;go_enter func122,ntmps122;go_wp2_with (fail);refine lD.o.mono ?_;rintro e w1 ⟨rfl,rfl⟩;go_wp2_with (fail);go_ret;rw[qj.o];exact EN.same HT.o bR
 have hpe:=qA (h.raw.node _ hy).blk (h.raw.node _ hx).blk (fun e=>h3 (h.raw.inj _ _ hy hx e));have UH:=Hd (WQ h hy hx);cases hwb:within t p i with
 |true=>
  rw[hwb]at UH;have qj:=Hd (ny.o.trans (if_pos (.inr hwb)));clear h3 ny h hn hi hp hx hy h1 hii hwb;go_enter func122,ntmps122;go_wp2_with (fail);refine lD.o.mono ?_;rintro e w1 ⟨rfl,rfl⟩;go_wp2_with (fail);refine UH.o.mono ?_;rintro e w1 ⟨rfl,rfl⟩;go_wp2_with (fail);go_ret;rw[qj.o];exact EN.same HT.o bR
 |false=>
 rw[hwb]at UH;have qj:=Hd (ny.o.trans (if_neg (by rintro(e|e);exact h3 e;rw[hwb]at e;cases e)));clear ny;by_cases h5:n<0
 ·have t5:decide (n<0)=true:=decide_eq_true h5;have NT:=Hd (qj.o.trans (if_pos (.inl h5)));clear h3 qj h hn hi hp hx hy h1 hii hwb h5;go_enter func122,ntmps122;go_wp2_with (fail);refine lD.o.mono ?_;rintro e w1 ⟨rfl,rfl⟩;go_wp2_with (fail);refine UH.o.mono ?_;rintro e w1 ⟨rfl,rfl⟩;go_wp2_with (fail);go_ret;rw[NT.o];exact EN.same HT.o bR
 have t5:decide (n<0)=false:=decide_eq_false h5
 obtain⟨m,rfl⟩:∃m:Nat,n=m:=⟨n.toNat,by omega⟩
 clear h5;have HO:=Hd (WS h (by omega) hii hy);have hkl:(kids t p).length<=1000:=Nat.le_trans (gy t p) hn;have hfl:((kids t p).filter fun k=>decide (k≠i)).length<=(kids t p).length:=List.length_filter_le _ _;by_cases h6:((kids t p).filter fun k=>decide (k≠i)).length<m
 ·have t6:decide (((kids t p).filter fun k=>decide (k≠i)).length<m)=true:=decide_eq_true h6;have NT:=Hd (qj.o.trans (if_pos (.inr (by omega))));clear h3 qj h hn hi hp hx hy h1 hii hwb h6 hkl hfl;generalize ((kids t p).filter fun k=>decide (k≠i)).length=L at*;go_enter func122,ntmps122;go_wp2_with (fail);refine lD.o.mono ?_;rintro e w1 ⟨rfl,rfl⟩;go_wp2_with (fail);refine UH.o.mono ?_;rintro e w1 ⟨rfl,rfl⟩;go_wp2_with (fail);refine HO.o.mono ?_;rintro e w1 ⟨rfl,rfl⟩;go_wp2_with (fail);go_ret;rw[NT.o];exact EN.same HT.o bR
 have t6:decide (((kids t p).filter fun k=>decide (k≠i)).length<m)=false:=decide_eq_false h6;have NT:=Hd (qj.o.trans (if_neg (by omega)));have IG:=Hd (Rh h (by omega) hii);have uO:Hid (∀w' v',Raw w' b ⟨s.m,s.g,cZ s.v (par t i) v'⟩ (eH t) (cZ (Bi t) i none) (fun q=>(kids t q).filter fun k=>decide (k≠i))->_):=fun w' v' hr=>YQ hr (i:=i) (p:=p) hx hy (Ne.symm h3) (n:=m) (by show m<=((kids t p).filter _).length;omega) (by show((kids t p).filter _).length<=_;omega);have HF:=Hd (And.intro hii (And.intro hy (And.intro h3 hwb)))
 have HKM:=Hd (fun q=>vJ h.ok.nd i p (n:=m) (show m<=((kids t p).filter fun k=>decide (k≠i)).length by omega) q);clear h3 qj h hn hi hp hx hy h1 hii hwb h6 hkl hfl;generalize ((kids t p).filter fun k=>decide (k≠i)).length=L at*;go_enter func122,ntmps122;go_wp2_with (fail);refine lD.o.mono ?_;rintro e w1 ⟨rfl,rfl⟩;go_wp2_with (fail);refine UH.o.mono ?_;rintro e w1 ⟨rfl,rfl⟩;go_wp2_with (fail);refine HO.o.mono ?_;rintro e w1 ⟨rfl,rfl⟩;go_wp2_with (fail);refine IG.o.mono ?_;rintro e w2 ⟨v',rfl,hraw,hT⟩;have HC:=Hd (uO.o w2 v' hraw);have HT2:=Hd hT
 clear hraw hT uO IG;go_wp2_with (fail);refine HC.o.mono ?_;rintro e w3 ⟨v2,rfl,hraw,hT3⟩;obtain⟨hii,hy,h3,hwb⟩:=HF.o;have hp0:=ah.1 hy
 have hH:∀j,eH (aF.move i p m t) j↔eH t j:=fun j=>by
  unfold eH;rw[ah,ah,iJ hii]
 have HE:Hid (EN b s t (aF.move i p m t,0) w1 (.returned (.int .i64 0)) w3):=by
  refine⟨⟨s.m,s.g,cZ (cZ s.v (par t i) v') p v2⟩,rfl,⟨hraw.like hH (fun j hj=>?_) fun j hj=>?_,HT.o.ok.move hii hp0 h3 hwb m⟩,(HT2.o.trans hT3).turn (jL.like hH)⟩
  ·by_cases e:j=i
   ·subst e;rw[bV,fO (HT.o.ok.uK hii),tJ HT.o.ok.nd,if_pos rfl]
   ·rw[aH _ e,aH _ e];by_cases h0:j=0
    ·subst h0;rfl
    ·rw[fO h0,fO h0,tJ HT.o.ok.nd,if_neg e]
  ·rw[HKM.o];by_cases e:j=p
   ·subst e;rw[if_pos rfl,bV]
   ·rw[if_neg e,aH _ e]
 clear hraw hT3 hii hy h3 hwb hp0 hH;go_wp2_with (fail);go_ret;rw[NT.o];exact HE.o
end
end
section
open Go.RowKit Go.Maps omap Go.WideShapes
def vY:Value->Option (DataW Value×List MemPlace):=fun v=>some (.held v,[])
theorem Ew(v:Value):vY v=some (.held v,[]):=rfl
theorem uB{u v:Value}{ps:List MemPlace}(h:vY u=some (.held v,ps)):u=v:=by
 unfold vY at h;simp only[Option.some.injEq,Prod.mk.injEq,DataW.held.injEq]at h;exact h.1
abbrev LV:=List (Int×Value)
def xJ(x:Int×Value):Lit×DataW Value:=(.int .i64 x.1,.held x.2)
def lL(l:LV):DataW Value:=.map (l.map xJ)
theorem Cj(l:LV):Maps.size (lL l)=l.length:=by simp[lL,Maps.size]
theorem oD(x:Int×Value)(k:Int):(xJ x).1.sameKey (.int .i64 k)=decide (x.1=k):=by
 simp only[xJ,Lit.sameKey];exact Bool.eq_iff_iff.2 (by simp)
theorem xw(l:LV)(k:Int):(l.map xJ).filter (fun p=>!p.1.sameKey (.int .i64 k))=(del k l).map xJ:=by
 unfold del;rw[List.filter_map]
 congr 1
 refine List.filter_congr fun x _=>?_;simp[oD]
theorem xm(k:Int)(g:Value):∀l:LV,DataW.insert (xJ (k,g)) (l.map xJ)=(ins lt k g l).map xJ
 |[]=>rfl
 |y::l=>by
  unfold ins;rw[List.map_cons,DataW.insert];have:(xJ (k,g)).1.before (xJ y).1=lt k y.1:=rfl;rw[this];split
  ·rfl
  ·rw[xm k g l,List.map_cons]
theorem TY(l:LV)(k:Int):(lL l).del (.int .i64 k)=lL (del k l):=by
 unfold lL DataW.del;simp only[xw]
theorem RI(l:LV)(k:Int)(g:Value):(lL l).put (.int .i64 k) (.held g)=lL (put lt k g l):=by
 unfold lL DataW.put;simp only[xw];rw[show((Lit.int .i64 k,DataW.held g):Lit×DataW Value)=xJ (k,g) from rfl,xm];rfl
theorem rY(l:LV)(k:Int)(z:DataW Value):(lL l).atKey (.int .i64 k) z=match omap.look l k with|some g=>.held g|none=>z:=by
 induction l with
 |nil=>rfl
 |cons x l ih=>
  unfold lL DataW.atKey at ih ⊢;rw[dS];simp only[List.map_cons,List.find?_cons,oD]at ih ⊢;by_cases h:x.1=k
  ·simp[h,xJ]
  ·simp only[h,decide_false,if_false];exact ih
theorem GV(l:LV)(k:Int):Maps.has (lL l) (.int .i64 k)=(omap.look l k).isSome:=by
 induction l with
 |nil=>rfl
 |cons x l ih=>
  unfold lL Maps.has at ih ⊢;rw[dS];simp only[List.map_cons,List.any_cons,oD]at ih ⊢;by_cases h:x.1=k
  ·simp[h]
  ·simp only[h,decide_false,if_false,Bool.false_or];exact ih
structure VM(w:World)(m:Nat)(l:LV):Prop where
 rises:mP lt l
 own:w.ownsMap prog 3 vY m l.length (lL l)
 few:l.length<=1073741824
section
variable {w w':World}{m:Nat}{l:LV}
theorem VM.inside(h:VM w m l):m<w.heap.size:=h.own.lt
theorem VM.stays(h:VM w m l)(hb:w'.heap[m]?=w.heap[m]?):VM w' m l:=by
 obtain⟨es,clock,h1,h2⟩:=h.own;exact⟨h.rises,⟨es,clock,hb.trans h1,h2⟩,h.few⟩
theorem VM.below(h:VM w m l)(hb:bz w w'):VM w' m l:=h.stays (hb.block _ h.inside)
theorem VM.dR(h:VM w m l){g:Nat}{cs:List Value}{T:TypeId}(hb:au w g cs T):m≠g:=fun e=>by
 obtain⟨es',clock,h1,_⟩:=h.own;rw[e]at h1;have:=hb.symm.trans h1;cases this
theorem VM.lookup(h:VM w m l){t E:TypeId}{z:Value}(ht:prog.underlying t=some (.map 3 E))(hz:(zeroValue E).run prog w=.ok z w){i:Int}(hs:I64 i) :
  (Instr.lookup t (.map (some m)) (.int .i64 i) false).run prog w=.ok ((omap.look l i).getD z) w:=by
 obtain⟨v,ps,hrun,hv⟩:=h.own.lookup oG ht hz (Ew z) (rM hs);rw[hrun];rw[rY]at hv;cases hl:omap.look l i with
 |none=>rw[hl]at hv;rw[uB hv];rfl
 |some g=>rw[hl]at hv;rw[uB hv];rfl
theorem VM.look_ok(h:VM w m l){t E:TypeId}{z:Value}(ht:prog.underlying t=some (.map 3 E))(hz:(zeroValue E).run prog w=.ok z w){i:Int}(hs:I64 i) :
  (Instr.lookup t (.map (some m)) (.int .i64 i) true).run prog w=.ok (.tuple #[(omap.look l i).getD z,.bool (omap.look l i).isSome]) w:=by
 obtain⟨v,ps,hrun,hv⟩:=h.own.look_ok oG ht hz (Ew z) (rM hs);rw[hrun,GV];rw[rY]at hv;cases hl:omap.look l i with
 |none=>rw[hl]at hv;rw[uB hv];rfl
 |some g=>rw[hl]at hv;rw[uB hv];rfl
theorem VM.len(h:VM w m l){t E:TypeId}(ht:prog.underlying t=some (.map 3 E))(ty:TypeId):(Builtin.len_ #[t] ty #[.map (some m)]).run prog w=.ok (.int .i64 (l.length:Nat)) w:=by
 rw[h.own.len ht ty,Cj]
theorem Uw{w:World}{m n:Nat}{l:LV}(h:w.ownsMap prog 3 vY m n (lL l)):w.ownsMap prog 3 vY m l.length (lL l):=by
 obtain⟨es,clock,h1,h2,_,h4⟩:=h;refine⟨es,clock,h1,h2,?_,h4⟩;have e:Maps.size (lL l)=es.size:=by rw[h4];simp[Maps.size,length_sorted]
 rw[Cj]at e;omega
theorem VM.store(h:VM w m l){t E:TypeId}(ht:prog.underlying t=some (.map 3 E)){i:Int}(hs:I64 i)(g:Value)(hn:(put lt i g l).length<=1073741824) :
  ∃w',(Instr.mapUpdate t (.map (some m)) (.int .i64 i) g).run prog w=.ok () w'∧VM w' m (put lt i g l)∧w.grownBy w' (some m):=by
 obtain⟨w',hrun,ho,hg⟩:=h.own.update oG ht (by have:=h.few;unfold maxLen;omega) (rM hs) (Ew g);rw[RI]at ho;exact⟨w',hrun,⟨CE ord h.rises,Uw ho,hn⟩,hg⟩
theorem VM.drop(h:VM w m l){t E:TypeId}(ht:prog.underlying t=some (.map 3 E)){i:Int}(hs:I64 i)(ty:TypeId) :
  ∃w',(Builtin.delete_ #[t,3] ty #[.map (some m),.int .i64 i]).run prog w=.ok (.tuple #[]) w'∧VM w' m (del i l)∧w.grownBy w' (some m):=by
 obtain⟨w',hrun,ho,hg⟩:=h.own.drop oG ht (rM hs) ty;rw[TY]at ho;exact⟨w',hrun,⟨vg h.rises,Uw ho,Nat.le_trans (List.length_filter_le _ _) h.few⟩,hg.grown⟩
theorem VM.made(w:World):VM (w.alloc (.map #[] 0)) w.heap.size []:=
 ⟨List.Pairwise.nil,World.ownsMap_made _ _ _ _,by simp⟩
theorem iF(i:Int)(g:Value)(l:LV):(put lt i g l).length<=l.length+1:=by
 unfold put;rw[zt];have:=List.length_filter_le (fun x:Int×Value=>decide (x.1≠i)) l;unfold del;omega
end
end
end Go.Proofs.YthmegninhpihkaaGreat
