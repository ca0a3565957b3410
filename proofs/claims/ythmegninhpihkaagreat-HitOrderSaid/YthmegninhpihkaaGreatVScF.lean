import Derived.RowKit
set_option maxHeartbeats 16000000
set_option maxRecDepth 100000
namespace Go.Proofs.YthmegninhpihkaaGreat.aF
abbrev T:=List (Int×Int)
def ids(t:T):List Int:=t.map (·.1)
def has(t:T)(i:Int):Bool:=decide (i=0)||decide (i∈ids t)
def par(t:T)(i:Int):Int:=((t.find? fun r=>decide (r.1=i)).map (·.2)).getD (-1)
def kids(t:T)(p:Int):List Int:=(t.filter fun r=>decide (r.2=p)).map (·.1)
def del(i:Int)(t:T):T:=t.filter fun r=>decide (r.1≠i)
def ahead(r:Int×Int)(k:Int)(t:T):T:=t.flatMap fun x=>if x.1=k then [r,x] else [x]
def put(r:Int×Int)(place:Nat)(t:T):T:=if h:place<(kids t r.2).length then ahead r (kids t r.2)[place] t else t++[r]
theorem ah{t:T}{i:Int}:has t i=true↔i=0∨i∈ids t:=by
 unfold has;rw[Bool.or_eq_true,decide_eq_true_eq,decide_eq_true_eq]
theorem fU{t:T}{p i:Int}:i∈kids t p↔(i,p)∈t:=by
 unfold kids;rw[List.mem_map];constructor
 ·rintro⟨⟨a,b⟩,h,rfl⟩;rw[List.mem_filter,decide_eq_true_eq]at h;obtain⟨h1,rfl⟩:=h;exact h1
 ·intro h;exact⟨(i,p),List.mem_filter.2 ⟨h,by simp⟩,rfl⟩
theorem bg{t:T}{i:Int}:i∈ids t↔∃p,(i,p)∈t:=by
 unfold ids;rw[List.mem_map];constructor
 ·rintro⟨⟨a,b⟩,h,rfl⟩;exact⟨b,h⟩
 ·rintro⟨p,h⟩;exact⟨(i,p),h,rfl⟩
theorem kS{t:T}{i:Int}{r:Int×Int}:r∈del i t↔r∈t∧r.1≠i:=by
 unfold del;rw[List.mem_filter,decide_eq_true_eq]
theorem tZ(t:T)(i p:Int):kids (del i t) p=(kids t p).filter fun k=>decide (k≠i):=by
 unfold kids del
 induction t with
 |nil=>rfl
 |cons x t ih=>
  obtain⟨a,b⟩:=x;by_cases h1:a=i<;>by_cases h2:b=p<;>simp[h1,h2]at ih ⊢<;>exact ih
theorem kF{t:T}{i p:Int}(hn:(ids t).Nodup)(h:(i,p)∈t):par t i=p:=by
 unfold par
 induction t with
 |nil=>cases h
 |cons x t ih=>
  obtain⟨a,b⟩:=x;have hn':=List.nodup_cons.1 (show(a::ids t).Nodup from hn);rw[List.find?_cons];by_cases h1:a=i
  ·subst h1;rcases List.mem_cons.1 h with e|e
   ·injection e with _ e2
    subst e2;simp
   ·exact absurd (bg.2 ⟨p,e⟩) hn'.1
  ·have h2:(i,p)∈t:=by
    rcases List.mem_cons.1 h with e|e
    ·injection e with e1 _
     exact absurd e1.symm h1
    ·exact e
   simp only[h1,decide_false];exact ih hn'.2 h2
theorem jX{t:T}{i:Int}(h:i∈ids t):(i,par t i)∈t:=by
 obtain⟨p,hp⟩:=bg.1 h;unfold par;cases hf:t.find? fun r=>decide (r.1=i) with
 |none=>exact absurd (List.find?_eq_none.1 hf _ hp) (by simp)
 |some r=>
  have h1:=List.find?_some hf;have h2:=List.mem_of_find?_eq_some hf;obtain⟨a,b⟩:=r;simp only[decide_eq_true_eq]at h1;subst h1;exact h2
theorem par_none{t:T}{i:Int}(h:i∉ids t):par t i=-1:=by
 unfold par
 rw[List.find?_eq_none.2 (fun r hr=>by
  simp only[decide_eq_true_eq];rintro rfl
  exact h (bg.2 ⟨r.2,hr⟩))]
 rfl
theorem eQ{t:T}(h:(ids t).Nodup)(p:Int):(kids t p).Nodup:=by
 unfold kids ids at*;exact List.Nodup.sublist (List.Sublist.map _ (List.filter_sublist)) h
def ins(n:Nat)(x:Int)(l:List Int):List Int:=l.take n++x::l.drop n
theorem Pv{l:List Int}{k x:Int}(h:k∉l):(l.flatMap fun y=>if y=k then [x,y] else [y])=l:=by
 induction l with
 |nil=>rfl
 |cons a l ih=>
  rw[List.flatMap_cons,if_neg (show ¬a=k from fun e=>h (by rw[←e];exact List.mem_cons_self)),ih (fun e=>h (List.mem_cons_of_mem _ e))];rfl
theorem G5{x:Int}:∀{l:List Int} {n:Nat} (h:n<l.length),l.Nodup->(l.flatMap fun y=>if y=l[n] then [x,y] else [y])=ins n x l
 |[],n,h,_=>by simp at h
 |a::l,0,h,hn=>by
  have hn':=List.nodup_cons.1 hn;rw[List.flatMap_cons];simp only[List.getElem_cons_zero,if_true];rw[Pv hn'.1];rfl
 |a::l,n+1,h,hn=>by
  have hn':=List.nodup_cons.1 hn;have hl:n<l.length:=by simpa using h
  rw[List.flatMap_cons];simp only[List.getElem_cons_succ];rw[if_neg (fun e=>hn'.1 (by rw[e];exact List.getElem_mem hl)),G5 hl hn'.2];rfl
theorem JH(t:T)(r:Int×Int)(k q:Int)(hk:(k,r.2)∈t)(hn:(ids t).Nodup):kids (ahead r k t) q=if q=r.2 then (kids t q).flatMap (fun y=>if y=k then [r.1,y] else [y]) else kids t q:=by
 have h1:∀u:T,(∀x∈u,x.1=k->x.2=r.2)->kids (ahead r k u) q=if q=r.2 then (kids u q).flatMap (fun y=>if y=k then [r.1,y] else [y]) else kids u q:=by
  intro u hu;unfold kids ahead
  induction u with
  |nil=>simp
  |cons x u ih=>
   have ih:=ih (fun y hy=>hu y (List.mem_cons_of_mem _ hy));have hx:=hu x List.mem_cons_self;rw[List.flatMap_cons,List.filter_append,List.map_append,ih];obtain⟨a,b⟩:=x;obtain⟨c,d⟩:=r;simp only at hx ⊢;by_cases h2:q=d
   ·subst h2;by_cases h3:a=k
    ·subst h3;obtain rfl:=hx rfl;simp
    ·by_cases h4:b=q
     ·subst h4;simp[h3]
     ·simp[h3,h4]
   ·by_cases h3:a=k
    ·subst h3;obtain rfl:=hx rfl;simp[h2,Ne.symm h2]
    ·by_cases h4:b=q
     ·subst h4;simp[h3,h2]
     ·simp[h3,h4,h2]
 exact h1 t fun x hx e=>by
  have e1:=kF hn hk;obtain⟨a,b⟩:=x;simp only at e ⊢;subst e;exact(kF hn hx).symm.trans e1
theorem nJ{t:T}{r:Int×Int}{n:Nat}(hn:(ids t).Nodup)(hl:n<=(kids t r.2).length)(q:Int):kids (put r n t) q=if q=r.2 then ins n r.1 (kids t q) else kids t q:=by
 unfold put;by_cases h:n<(kids t r.2).length
 ·rw[dif_pos h,JH t r _ q (fU.1 (List.getElem_mem h)) hn];by_cases h2:q=r.2
  ·subst h2;rw[if_pos rfl,if_pos rfl,G5 h (eQ hn _)]
  ·rw[if_neg h2,if_neg h2]
 ·rw[dif_neg h];have hnl:n=(kids t r.2).length:=by omega
  unfold kids;rw[List.filter_append,List.map_append];by_cases h2:q=r.2
  ·subst h2;rw[if_pos rfl];have:n=((t.filter fun x=>decide (x.2=r.2)).map (·.1)).length:=hnl;unfold ins;rw[this,List.take_length,List.drop_length];simp
  ·rw[if_neg h2];simp[Ne.symm h2]
theorem jG{t:T}{r:Int×Int}{n:Nat}{x:Int×Int}:x∈put r n t↔x=r∨x∈t:=by
 unfold put;by_cases h:n<(kids t r.2).length
 ·rw[dif_pos h];unfold ahead;rw[List.mem_flatMap];have hm:=fU.1 (List.getElem_mem h);generalize (kids t r.2)[n]=k at*;constructor
  ·rintro⟨y,hy,hx⟩;by_cases e:y.1=k
   ·rw[if_pos e]at hx;rcases List.mem_cons.1 hx with h1|h1
    ·exact .inl h1
    ·exact .inr (List.mem_singleton.1 h1 ▸ hy)
   ·rw[if_neg e]at hx;exact .inr (List.mem_singleton.1 hx ▸ hy)
  ·rintro(rfl|hx)
   ·exact⟨_,hm,by simp⟩
   ·refine⟨x,hx,?_⟩;by_cases e:x.1=k<;>simp[e]
 ·rw[dif_neg h,List.mem_append,List.mem_singleton];exact or_comm
structure Ok(t:T):Prop where
 nd:(ids t).Nodup
 Rw:∀r∈t,1<=r.1∧r.1<=65535
 pin:∀r∈t,r.2=0∨r.2∈ids t
 acy:∃h:Int->Nat,∀r∈t,h r.2<h r.1
theorem Jt:Ok []:=⟨List.nodup_nil,fun _ h=>(nomatch h),fun _ h=>(nomatch h),⟨fun _=>0,fun _ h=>(nomatch h)⟩⟩
theorem Ok.uK{t:T}(h:Ok t){i:Int}(hi:i∈ids t):i≠0:=by
 obtain⟨p,hp⟩:=bg.1 hi;have:=(h.Rw _ hp).1;simp only at this;omega
theorem Ok.fQ{t:T}(h:Ok t){i:Int}(hi:i∈ids t):par t i=0∨par t i∈ids t:=h.pin _ (jX hi)
theorem Ok.kid{t:T}(h:Ok t){i p:Int}(hi:i∈kids t p):i∈ids t∧par t i=p:=⟨bg.2 ⟨p,fU.1 hi⟩,kF h.nd (fU.1 hi)⟩
theorem jH{t:T}{i:Int}(hi:i∈ids t):i∈kids t (par t i):=fU.2 (jX hi)
theorem dK:∀{l m:List Int},l.Nodup->(∀x∈l,x∈m)->l.length<=m.length
 |[],_,_,_=>Nat.zero_le _
 |a::l,m,hn,hs=>by
  have hn':=List.nodup_cons.1 hn;have ha:=hs a List.mem_cons_self;have h1:∀x∈l,x∈m.erase a:=fun x hx=>(List.mem_erase_of_ne (show x≠a from fun e=>hn'.1 (by rw[←e];exact hx))).2 (hs x (List.mem_cons_of_mem _ hx));have h2:=dK hn'.2 h1;rw[List.length_erase_of_mem ha]at h2;have:=List.length_pos_of_mem ha;rw[List.length_cons];omega
def chain(t:T):Nat->Int->List Int
 |0,_=>[]
 |n+1,i=>if i=0 then [] else i::chain t n (par t i)
theorem qJ{t:T}(ok:Ok t)(h:Int->Nat)(hh:∀r∈t,h r.2<h r.1):∀(n:Nat) {i:Int},(i=0∨i∈ids t)->∀x∈chain t n i,x∈ids t∧h x<=h i
 |0,_,_,_,hx=>by cases hx
 |n+1,i,hi,x,hx=>by
  unfold chain at hx;by_cases h0:i=0
  ·rw[if_pos h0]at hx;cases hx
  ·rw[if_neg h0]at hx;have hm:=hi.resolve_left h0;rcases List.mem_cons.1 hx with rfl|h1
   ·exact⟨hm,Nat.le_refl _⟩
   ·have:=qJ ok h hh n (ok.fQ hm) x h1;have h2:=hh _ (jX hm);exact⟨this.1,by simp only at h2;omega⟩
theorem xA{t:T}(ok:Ok t):∀(n:Nat) {i:Int},(i=0∨i∈ids t)->(chain t n i).Nodup
 |0,_,_=>List.nodup_nil
 |n+1,i,hi=>by
  unfold chain;by_cases h0:i=0
  ·rw[if_pos h0];exact List.nodup_nil
  ·rw[if_neg h0];have hm:=hi.resolve_left h0;obtain⟨h,hh⟩:=ok.acy;refine List.nodup_cons.2 ⟨fun hx=>?_,xA ok n (ok.fQ hm)⟩;have h1:=(qJ ok h hh n (ok.fQ hm) _ hx).2;have h2:=hh _ (jX hm);simp only at h2;omega
theorem Di{t:T}(ok:Ok t)(n:Nat){i:Int}(hi:i=0∨i∈ids t):(chain t n i).length<=t.length:=by
 obtain⟨h,hh⟩:=ok.acy;have:=dK (xA ok n hi) (fun x hx=>(qJ ok h hh n hi x hx).1);unfold ids at this
 rwa [List.length_map]at this
theorem Af{t:T}:∀(n:Nat) (i:Int),(chain t n i).length<n->chain t (n+1) i=chain t n i
 |0,_,h=>by omega
 |n+1,i,h=>by
  unfold chain at h ⊢;by_cases h0:i=0
  ·rw[if_pos h0,if_pos h0]
  ·rw[if_neg h0]at h ⊢;rw[if_neg h0,Af n _ (by rw[List.length_cons]at h;omega)]
def line(t:T)(i:Int):List Int:=chain t (t.length+1) i
def depth(t:T)(i:Int):Nat:=(line t i).length
theorem kJ(t:T):line t 0=[]:=by unfold line chain;simp
theorem dJ{t:T}(ok:Ok t){i:Int}(hi:i∈ids t):line t i=i::line t (par t i):=by
 have h0:=ok.uK hi;have e:line t i=i::chain t t.length (par t i):=by unfold line;rw[chain,if_neg h0]
 have hl:=Di ok (t.length+1) (.inr hi);have:(line t i).length<=t.length:=hl;rw[e,List.length_cons]at this;rw[e];unfold line;rw[Af t.length _ (by omega)]
theorem Nq(t:T):depth t 0=0:=by unfold depth;rw[kJ];rfl
theorem bP{t:T}(ok:Ok t){i:Int}(hi:i∈ids t):depth t i=depth t (par t i)+1:=by unfold depth;rw[dJ ok hi,List.length_cons]
theorem nN{t:T}(ok:Ok t){i:Int}(hi:i=0∨i∈ids t):depth t i<=t.length:=Di ok _ hi
theorem dU{t:T}(ok:Ok t){i p:Int}(hi:i∈kids t p):depth t i=depth t p+1:=by
 have h:=ok.kid hi;rw[bP ok h.1,h.2]
theorem Ok.pV{t:T}(ok:Ok t){P:Int->Prop}(h0:P 0)(hs:∀i,i∈ids t->P (par t i)->P i){i:Int}(hi:i=0∨i∈ids t):P i:=by
 have:∀n i,depth t i<=n->(i=0∨i∈ids t)->P i:=by
  intro n
  induction n with
  |zero=>
   intro i hd hi;rcases hi with rfl|hi
   ·exact h0
   ·rw[bP ok hi]at hd;omega
  |succ n ih=>
   intro i hd hi;rcases hi with rfl|hi
   ·exact h0
   ·rw[bP ok hi]at hd;exact hs i hi (ih _ (by omega) (ok.fQ hi))
 exact this _ i (Nat.le_refl _) hi
def within(t:T)(i o:Int):Bool:=(has t i&&has t o)&&(decide (i≠0)&&(decide (o=0)||decide (o∈line t (par t i))))
theorem tY{t:T}(ok:Ok t){i x:Int}(hi:i=0∨i∈ids t)(hx:x∈line t i):x∈ids t:=by
 obtain⟨h,hh⟩:=ok.acy;exact(qJ ok h hh _ hi x hx).1
theorem ku{t:T}(ok:Ok t)(i o:Int):within t i o=if has t i=true∧has t o=true∧i≠0 then decide (par t i=o)||within t (par t i) o else false:=by
 by_cases h:has t i=true∧has t o=true∧i≠0
 ·rw[if_pos h];obtain⟨h1,h2,h3⟩:=h;have hi:=(ah.1 h1).resolve_left h3;have hp:=ok.fQ hi;have hhp:has t (par t i)=true:=ah.2 hp;unfold within;rw[h1,h2,hhp,decide_eq_true h3];simp only[Bool.true_and];rcases hp with hp|hp
  ·rw[hp,kJ];by_cases ho:o=0
   ·subst ho;simp
   ·simp[ho,Ne.symm ho]
  ·rw[dJ ok hp,decide_eq_true (ok.uK hp),Bool.true_and];by_cases ho:o=0
   ·subst ho;simp
   ·by_cases he:par t i=o
    ·subst he;simp
    ·simp[ho,he,Ne.symm he]
 ·rw[if_neg h];unfold within;by_cases h1:has t i=true
  ·by_cases h2:has t o=true
   ·have h3:i=0:=Decidable.not_not.1 fun h3=>h ⟨h1,h2,h3⟩;subst h3;simp
   ·simp[h2]
  ·simp[h1]
def gW(t:T):Nat->Int->List Int
 |0,_=>[]
 |n+1,i=>i::(kids t i).flatMap (gW t n)
def walk(t:T)(i:Int):List Int:=gW t (t.length+1) i
theorem oI{l:List Int}{f g:Int->List Int}(h:∀x∈l,f x=g x):l.flatMap f=l.flatMap g:=by
 induction l with
 |nil=>rfl
 |cons a l ih=>rw[List.flatMap_cons,List.flatMap_cons,h a List.mem_cons_self,ih fun x hx=>h x (List.mem_cons_of_mem _ hx)]
theorem uU{t:T}(ok:Ok t):∀(n:Nat) {i:Int},(i=0∨i∈ids t)->t.length+1<=n+depth t i->gW t (n+1) i=gW t n i
 |0,i,hi,h=>by have:=nN ok hi;omega
 |n+1,i,_,h=>by
  rw[gW,gW];rw[oI fun k hk=>uU ok n (.inr (ok.kid hk).1) (by rw[dU ok hk];omega)]
theorem walk_eq{t:T}(ok:Ok t){i:Int}:walk t i=i::(kids t i).flatMap (walk t):=by
 show gW t (t.length+1) i=_;rw[gW];rw[oI fun k hk=>(uU ok t.length (.inr (ok.kid hk).1) (by rw[dU ok hk];omega)).symm];rfl
theorem bH{t:T}{x i:Int}(h:within t x i=true):x∈ids t∧(i=0∨i∈ids t):=by
 unfold within at h;simp only[Bool.and_eq_true,decide_eq_true_eq]at h;exact⟨(ah.1 h.1.1).resolve_left h.2.1,ah.1 h.1.2⟩
theorem within_iff{t:T}(ok:Ok t){x i:Int}(hx:x∈ids t)(hi:i=0∨i∈ids t):within t x i=true↔par t x=i∨within t (par t x) i=true:=by
 rw[ku ok,if_pos ⟨ah.2 (.inr hx),ah.2 hi,ok.uK hx⟩,Bool.or_eq_true,decide_eq_true_eq]
theorem ru{t:T}(ok:Ok t){k i:Int}(hk:k∈kids t i):within t k i=true:=by
 have h:=ok.kid hk;have hi:i=0∨i∈ids t:=h.2 ▸ ok.fQ h.1;exact(within_iff ok h.1 hi).2 (.inl h.2)
theorem BP{t:T}(ok:Ok t){x k i:Int}(hk:k∈kids t i)(h:within t x k=true):within t x i=true:=by
 have hkk:=ok.kid hk;have hi:i=0∨i∈ids t:=hkk.2 ▸ ok.fQ hkk.1;have h1:=bH h
 revert h
 refine ok.pV (P:=fun x=>within t x k=true->within t x i=true) ?_ ?_ (.inr h1.1)
 ·intro h;exact absurd rfl (ok.uK (bH h).1)
 ·intro y hy ih h;refine(within_iff ok hy hi).2 ?_;rcases(within_iff ok hy (.inr hkk.1)).1 h with h2|h2
  ·rw[h2];exact .inr (ru ok hk)
  ·exact .inr (ih h2)
theorem lg{t:T}(ok:Ok t):∀(n:Nat) {i x:Int},x∈gW t n i->x=i∨within t x i=true
 |0,_,_,h=>by cases h
 |n+1,i,x,h=>by
  rw[gW]at h;rcases List.mem_cons.1 h with rfl|h
  ·exact .inl rfl
  ·obtain⟨k,hk,hx⟩:=List.mem_flatMap.1 h;rcases lg ok n hx with rfl|h2
   ·exact .inr (ru ok hk)
   ·exact .inr (BP ok hk h2)
theorem ou{t:T}(ok:Ok t):∀(n:Nat) {i x y:Int},(i=0∨i∈ids t)->t.length+1<=n+depth t i->y∈gW t n i->x∈kids t y->x∈gW t n i
 |0,_,_,_,_,_,h,_=>by cases h
 |n+1,i,x,y,hi,hn,h,hx=>by
  rw[gW]at h ⊢;refine List.mem_cons_of_mem _ (List.mem_flatMap.2 ?_);rcases List.mem_cons.1 h with rfl|h
  ·refine⟨x,hx,?_⟩;have h1:=dU ok hx;have h2:=nN ok (.inr (ok.kid hx).1);cases n with
   |zero=>omega
   |succ n=>rw[gW];exact List.mem_cons_self
  ·obtain⟨k,hk,hy⟩:=List.mem_flatMap.1 h;exact⟨k,hk,ou ok n (.inr (ok.kid hk).1) (by rw[dU ok hk];omega) hy hx⟩
theorem dI{t:T}(ok:Ok t){i:Int}(hi:i=0∨i∈ids t){x:Int}:x∈walk t i↔x=i∨within t x i=true:=by
 refine⟨lg ok _,?_⟩;rintro(rfl|h)
 ·rw[walk_eq ok];exact List.mem_cons_self
 ·have h1:=bH h
  revert h
  refine ok.pV (P:=fun x=>within t x i=true->x∈walk t i) ?_ ?_ (.inr h1.1)
  ·intro h;exact absurd rfl (ok.uK (bH h).1)
  ·intro y hy ih h;have hc:par t y∈walk t i->y∈walk t i:=fun hp=>ou ok _ hi (by omega) hp (jH hy);rcases(within_iff ok hy hi).1 h with h2|h2
   ·refine hc ?_;rw[h2,walk_eq ok];exact List.mem_cons_self
   ·exact hc (ih h2)
theorem MO{t:T}(ok:Ok t){x:Int}(hx:x=0∨x∈ids t):∀a∈line t x,depth t a<=depth t x:=by
 refine ok.pV (P:=fun x=>∀a∈line t x,depth t a<=depth t x) ?_ ?_ hx
 ·intro a h;rw[kJ]at h;cases h
 ·intro y hy ih a h;rw[dJ ok hy]at h;rcases List.mem_cons.1 h with rfl|h
  ·exact Nat.le_refl _
  ·have:=ih a h;rw[bP ok hy];omega
theorem SN{t:T}(ok:Ok t){x:Int}(hx:x=0∨x∈ids t):∀a∈line t x,∀b∈line t x,depth t a=depth t b->a=b:=by
 refine ok.pV (P:=fun x=>∀a∈line t x,∀b∈line t x,depth t a=depth t b->a=b) ?_ ?_ hx
 ·intro a h;rw[kJ]at h;cases h
 ·intro y hy ih a ha b hb e;rw[dJ ok hy]at ha hb;have hd:=bP ok hy;have hl:=MO ok (ok.fQ hy);rcases List.mem_cons.1 ha with rfl|ha
  ·rcases List.mem_cons.1 hb with rfl|hb
   ·rfl
   ·have:=hl b hb;omega
  ·rcases List.mem_cons.1 hb with rfl|hb
   ·have:=hl a ha;omega
   ·exact ih a ha b hb e
theorem MW{t:T}(ok:Ok t){x i:Int}(hi:i∈ids t)(h:x=i∨within t x i=true):i∈line t x:=by
 rcases h with rfl|h
 ·rw[dJ ok hi];exact List.mem_cons_self
 ·have hx:=(bH h).1;rw[dJ ok hx];unfold within at h;simp only[Bool.and_eq_true,Bool.or_eq_true,decide_eq_true_eq]at h;exact List.mem_cons_of_mem _ (h.2.2.resolve_left (ok.uK hi))
theorem iY{t:T}(ok:Ok t){x i:Int}(h:within t x i=true):depth t i<depth t x:=by
 have hx:=(bH h).1;rw[bP ok hx];unfold within at h;simp only[Bool.and_eq_true,Bool.or_eq_true,decide_eq_true_eq]at h;rcases h.2.2 with rfl|h
 ·rw[Nq];omega
 ·have:=MO ok (ok.fQ hx) _ h;omega
theorem wX{t:T}(ok:Ok t):∀(n:Nat) (i:Int),(gW t n i).Nodup
 |0,_=>List.nodup_nil
 |n+1,i=>by
  rw[gW];refine List.nodup_cons.2 ⟨fun h=>?_,?_⟩
  ·obtain⟨k,hk,hx⟩:=List.mem_flatMap.1 h
   have h1:within t i i=true:=by
    rcases lg ok n hx with rfl|h2
    ·exact ru ok hk
    ·exact BP ok hk h2
   have:=iY ok h1;omega
  ·refine List.pairwise_flatMap.2 ⟨fun a _=>wX ok n a,?_⟩;refine List.Pairwise.imp_of_mem (fun {a b} ha hb hne=>?_) (eQ ok.nd i);intro x hx y hy e;subst e;have h1:=MW ok (ok.kid ha).1 (lg ok n hx);have h2:=MW ok (ok.kid hb).1 (lg ok n hy);have hxi:=lg ok n hx
   have hxm:x=0∨x∈ids t:=by
    rcases hxi with rfl|h
    ·exact .inr (ok.kid ha).1
    ·exact .inr (bH h).1
   exact hne (SN ok hxm _ h1 _ h2 (by rw[dU ok ha,dU ok hb]))
theorem rC{t:T}(ok:Ok t)(i:Int):(walk t i).Nodup:=wX ok _ i
theorem Fg{t:T}(ok:Ok t){x:Int}(hx:x∈ids t):within t x 0=true:=by
 unfold within;rw[ah.2 (.inr hx),ah.2 (.inl rfl),decide_eq_true (ok.uK hx)];rfl
theorem jw{t:T}(ok:Ok t){x:Int}:x∈walk t 0↔has t x=true:=by
 rw[dI ok (.inl rfl),ah];exact⟨fun h=>h.imp id fun h=>(bH h).1,fun h=>h.imp id (Fg ok)⟩
theorem sO{t:T}(ok:Ok t):(walk t 0).length=t.length+1:=by
 have hn:(0::ids t).Nodup:=List.nodup_cons.2 ⟨fun h=>ok.uK h rfl,ok.nd⟩;have h1:=dK (rC ok 0) (m:=0::ids t) fun x hx=>List.mem_cons.2 (ah.1 ((jw ok).1 hx));have h2:=dK hn (m:=walk t 0) fun x hx=>(jw ok).2 (ah.2 (List.mem_cons.1 hx));have h3:(ids t).length=t.length:=List.length_map ..;rw[List.length_cons,h3]at h1 h2;omega
theorem KL{r:Int×Int}{k:Int}{t:T}(h:k∉ids t):ahead r k t=t:=by
 unfold ahead ids at*
 induction t with
 |nil=>rfl
 |cons x t ih=>
  rw[List.map_cons]at h;rw[List.flatMap_cons,if_neg (show ¬x.1=k from fun e=>h (by rw[←e];exact List.mem_cons_self)),ih fun e=>h (List.mem_cons_of_mem _ e)];rfl
theorem Aq{r:Int×Int}{k:Int}:∀{t:T},(ids t).Nodup->k∈ids t->(ahead r k t).Perm (r::t)
 |[],_,h=>by cases h
 |x::t,hn,h=>by
  have hn':=List.nodup_cons.1 (show(x.1::ids t).Nodup from hn);have e:ahead r k (x::t)=(if x.1=k then [r,x] else [x])++ahead r k t:=rfl;rw[e];by_cases hk:x.1=k
  ·rw[if_pos hk,KL (hk ▸ hn'.1)];exact List.Perm.refl _
  ·rw[if_neg hk]
   have hm:k∈ids t:=by
    rcases List.mem_cons.1 (show k∈x.1::ids t from h) with e|e
    ·exact absurd e.symm hk
    ·exact e
   exact((Aq hn'.2 hm).cons x).trans (List.Perm.swap r x t)
theorem F5{t:T}(hn:(ids t).Nodup)(r:Int×Int)(n:Nat):(put r n t).Perm (r::t):=by
 unfold put;by_cases h:n<(kids t r.2).length
 ·rw[dif_pos h];exact Aq hn (bg.2 ⟨_,fU.1 (List.getElem_mem h)⟩)
 ·rw[dif_neg h];exact List.perm_append_comm
theorem WA{t:T}(hn:(ids t).Nodup)(r:Int×Int)(n:Nat):(ids (put r n t)).Perm (r.1::ids t):=List.Perm.map Prod.fst (F5 hn r n)
theorem vz{t:T}(hn:(ids t).Nodup){r:Int×Int}(hr:r.1∉ids t)(n:Nat):(ids (put r n t)).Nodup:=(WA hn r n).nodup_iff.2 (List.nodup_cons.2 ⟨hr,hn⟩)
theorem sZ{t:T}(hn:(ids t).Nodup)(r:Int×Int)(n:Nat):(put r n t).length=t.length+1:=(F5 hn r n).length_eq
theorem kU{t:T}{r:Int×Int}{n:Nat}{x:Int}:x∈ids (put r n t)↔x=r.1∨x∈ids t:=by
 constructor
 ·intro h;obtain⟨p,hp⟩:=bg.1 h;rcases jG.1 hp with rfl|h2
  ·exact .inl rfl
  ·exact .inr (bg.2 ⟨p,h2⟩)
 ·rintro(rfl|h)
  ·exact bg.2 ⟨r.2,jG.2 (.inl rfl)⟩
  ·obtain⟨p,hp⟩:=bg.1 h;exact bg.2 ⟨p,jG.2 (.inr hp)⟩
theorem xZ{t:T}(hn:(ids t).Nodup){r:Int×Int}(hr:r.1∉ids t)(n:Nat)(x:Int):par (put r n t) x=if x=r.1 then r.2 else par t x:=by
 have hn2:=vz hn hr n;by_cases h:x=r.1
 ·subst h;rw[if_pos rfl];exact kF hn2 (jG.2 (.inl rfl))
 ·rw[if_neg h];by_cases hx:x∈ids t
  ·exact kF hn2 (jG.2 (.inr (jX hx)))
  ·rw[par_none hx,par_none fun h2=>(kU.1 h2).elim h hx]
theorem Ok.put{t:T}(ok:Ok t){i p:Int}(hi:i∉ids t)(h1:1<=i)(h2:i<=65535)(hp:p=0∨p∈ids t)(n:Nat):Ok (aF.put (i,p) n t):=by
 obtain⟨h,hh⟩:=ok.acy;refine⟨vz ok.nd hi n,fun r hr=>?_,fun r hr=>?_,fun x=>if x=i then h p+1 else h x,fun r hr=>?_⟩
 ·rcases jG.1 hr with rfl|hr
  ·exact⟨h1,h2⟩
  ·exact ok.Rw r hr
 ·rcases jG.1 hr with rfl|hr
  ·exact hp.imp id fun h=>kU.2 (.inr h)
  ·exact(ok.pin r hr).imp id fun h=>kU.2 (.inr h)
 ·have hpi:p≠i:=by
   rintro rfl;rcases hp with rfl|hp
   ·omega
   ·exact hi hp
  rcases jG.1 hr with rfl|hr
  ·simp only[if_true];rw[if_neg hpi];omega
  ·have a1:r.1≠i:=fun e=>hi (e ▸ bg.2 ⟨r.2,hr⟩)
   have a2:r.2≠i:=by
    intro e;rcases ok.pin r hr with e2|e2
    ·omega
    ·exact hi (e ▸ e2)
   simp only[if_neg a1,if_neg a2];exact hh r hr
def gone(l:List Int)(t:T):T:=t.filter fun r=>decide (r.1∉l)
theorem vP:∀(l:List Int) (t:T),l.foldl (fun u g=>del g u) t=gone l t
 |[],t=>by
  show t=gone [] t;unfold gone;rw[List.filter_eq_self.2 (by simp)]
 |a::l,t=>by
  rw[List.foldl_cons,vP l];unfold gone del;rw[List.filter_filter]
  congr 1
  funext r
  simp only[List.mem_cons,not_or];by_cases h1:r.1=a<;>by_cases h2:r.1∈l<;>simp[h1,h2]
theorem nI{l:List Int}{t:T}{r:Int×Int}:r∈gone l t↔r∈t∧r.1∉l:=by
 unfold gone;rw[List.mem_filter,decide_eq_true_eq]
theorem pJ{l:List Int}{t:T}{x:Int}:x∈ids (gone l t)↔x∈ids t∧x∉l:=by
 constructor
 ·intro h;obtain⟨p,hp⟩:=bg.1 h;have:=nI.1 hp;exact⟨bg.2 ⟨p,this.1⟩,this.2⟩
 ·rintro⟨h,h2⟩;obtain⟨p,hp⟩:=bg.1 h;exact bg.2 ⟨p,nI.2 ⟨hp,h2⟩⟩
theorem nK(l:List Int)(t:T)(q:Int):kids (gone l t) q=(kids t q).filter fun k=>decide (k∉l):=by
 unfold kids gone
 induction t with
 |nil=>rfl
 |cons x t ih=>
  obtain⟨a,b⟩:=x;by_cases h1:a∈l<;>by_cases h2:b=q<;>simp[h1,h2]at ih ⊢<;>exact ih
theorem zI{l:List Int}{t:T}(hn:(ids t).Nodup):(ids (gone l t)).Nodup:=by
 unfold gone ids at*;exact List.Nodup.sublist (List.Sublist.map _ List.filter_sublist) hn
theorem yX{l:List Int}{t:T}(hn:(ids t).Nodup)(x:Int):par (gone l t) x=if x∈l then -1 else par t x:=by
 by_cases h:x∈l
 ·rw[if_pos h];exact par_none fun h2=>(pJ.1 h2).2 h
 ·rw[if_neg h];by_cases hx:x∈ids t
  ·exact kF (zI hn) (nI.2 ⟨jX hx,h⟩)
  ·rw[par_none hx,par_none fun h2=>hx (pJ.1 h2).1]
theorem qw{t:T}(ok:Ok t){i x y:Int}(hi:i=0∨i∈ids t)(hy:y∈walk t i)(hx:x∈kids t y):x∈walk t i:=ou ok _ hi (by omega) hy hx
theorem Ok.gone{t:T}(ok:Ok t){i:Int}(hi:i∈ids t):Ok (aF.gone (walk t i) t):=by
 obtain⟨h,hh⟩:=ok.acy;refine⟨zI ok.nd,fun r hr=>ok.Rw r (nI.1 hr).1,fun r hr=>?_,h,fun r hr=>hh r (nI.1 hr).1⟩;have h1:=nI.1 hr;rcases ok.pin r h1.1 with e|e
 ·exact .inl e
 ·exact .inr (pJ.2 ⟨e,fun hw=>h1.2 (qw ok (.inr hi) hw (fU.2 h1.1))⟩)
theorem vK{t:T}(ok:Ok t){i q:Int}(hi:i∈ids t)(hq:q∉walk t i):kids (aF.gone (walk t i) t) q=(kids t q).filter fun k=>decide (k≠i):=by
 rw[nK];refine List.filter_congr fun k hk=>?_;rw[decide_eq_decide];refine not_congr ⟨fun hw=>?_,fun e=>?_⟩
 ·rcases(dI ok (.inr hi)).1 hw with e|e
  ·exact e
  ·have hkk:=ok.kid hk;rcases(within_iff ok hkk.1 (.inr hi)).1 e with e2|e2
   ·exact absurd ((dI ok (.inr hi)).2 (.inl (hkk.2.symm.trans e2))) hq
   ·rw[hkk.2]at e2;exact absurd ((dI ok (.inr hi)).2 (.inr e2)) hq
 ·rw[e];exact(dI ok (.inr hi)).2 (.inl rfl)
theorem nO{t:T}(hn:(ids t).Nodup)(i:Int):(ids (del i t)).Nodup:=by
 unfold del ids at*;exact List.Nodup.sublist (List.Sublist.map _ List.filter_sublist) hn
theorem MG(t:T)(i:Int):i∉ids (del i t):=fun h=>by
 obtain⟨p,hp⟩:=bg.1 h;exact(kS.1 hp).2 rfl
theorem xg{t:T}{i x:Int}:x∈ids (del i t)↔x∈ids t∧x≠i:=by
 constructor
 ·intro h;obtain⟨p,hp⟩:=bg.1 h;have:=kS.1 hp;exact⟨bg.2 ⟨p,this.1⟩,this.2⟩
 ·rintro⟨h,h2⟩;obtain⟨p,hp⟩:=bg.1 h;exact bg.2 ⟨p,kS.2 ⟨hp,h2⟩⟩
def move(i p:Int)(n:Nat)(t:T):T:=put (i,p) n (del i t)
theorem iJ{t:T}{i p:Int}{n:Nat}(hi:i∈ids t){x:Int}:x∈ids (move i p n t)↔x∈ids t:=by
 unfold move;rw[kU,xg];simp only;constructor
 ·rintro(rfl|h)
  ·exact hi
  ·exact h.1
 ·intro h;by_cases e:x=i
  ·exact .inl e
  ·exact .inr ⟨h,e⟩
theorem Jy{t:T}(hn:(ids t).Nodup)(i p:Int)(n:Nat):(ids (move i p n t)).Nodup:=vz (nO hn i) (MG t i) n
theorem vJ{t:T}(hn:(ids t).Nodup)(i p:Int){n:Nat}(hl:n<=((kids t p).filter fun k=>decide (k≠i)).length)(q:Int) :
  kids (move i p n t) q=if q=p then ins n i ((kids t p).filter fun k=>decide (k≠i)) else (kids t q).filter fun k=>decide (k≠i):=by
 unfold move;rw[nJ (nO hn i) (by simp only;rw[tZ];exact hl)];simp only;by_cases h:q=p
 ·subst h;rw[if_pos rfl,if_pos rfl,tZ]
 ·rw[if_neg h,if_neg h,tZ]
theorem tJ{t:T}(hn:(ids t).Nodup)(i p:Int)(n:Nat)(x:Int):par (move i p n t) x=if x=i then p else par t x:=by
 unfold move;rw[xZ (nO hn i) (MG t i)];simp only;by_cases h:x=i
 ·rw[if_pos h,if_pos h]
 ·rw[if_neg h,if_neg h];by_cases hx:x∈ids t
  ·exact kF (nO hn i) (kS.2 ⟨jX hx,h⟩)
  ·rw[par_none hx,par_none fun h2=>hx (xg.1 h2).1]
theorem Ok.move{t:T}(ok:Ok t){i p:Int}(hi:i∈ids t)(hp:p=0∨p∈ids t)(hpi:p≠i)(hw:within t p i=false)(n:Nat):Ok (aF.move i p n t):=by
 obtain⟨h,hh⟩:=ok.acy;refine⟨Jy ok.nd i p n,fun r hr=>?_,fun r hr=>?_,fun x=>if x=i∨within t x i=true then h x+h p+1 else h x,fun r hr=>?_⟩
 ·rcases jG.1 hr with rfl|hr
  ·exact(show 1<=i∧i<=65535 from ok.Rw (i,aF.par t i) (jX hi))
  ·exact ok.Rw r (kS.1 hr).1
 ·rcases jG.1 hr with rfl|hr
  ·exact hp.imp id (iJ hi).2
  ·exact(ok.pin r (kS.1 hr).1).imp id (iJ hi).2
 ·rcases jG.1 hr with rfl|hr
  ·simp only[true_or,if_true];rw[if_neg (by rw[hw];simp[hpi])];omega
  ·have hm:=kS.1 hr;have hrm:=hh r hm.1;have hx:r.1∈ids t:=bg.2 ⟨r.2,hm.1⟩;have e1:par t r.1=r.2:=kF ok.nd hm.1
   have hiff:within t r.1 i=true↔r.2=i∨within t r.2 i=true:=by
    rw[within_iff ok hx (.inr hi),e1]
   by_cases hc:within t r.1 i=true
   ·have h2:=hiff.1 hc;simp only;rw[if_pos h2,if_pos (Or.inr hc)];omega
   ·have h2:¬(r.2=i∨within t r.2 i=true):=fun h=>hc (hiff.2 h);simp only;rw[if_neg h2,if_neg (fun e=>e.elim hm.2 hc)];exact hrm
theorem Dt{t u:T}(h:∀q,kids t q=kids u q){x:Int}:x∈ids t↔x∈ids u:=by
 constructor
 ·intro hx;have:=jH hx;rw[h]at this;exact bg.2 ⟨_,fU.1 this⟩
 ·intro hx;have:=jH hx;rw[←h]at this;exact bg.2 ⟨_,fU.1 this⟩
theorem Dq{t u:T}(_:Ok t)(ok':Ok u)(h:∀q,kids t q=kids u q)(x:Int):par t x=par u x:=by
 by_cases hx:x∈ids t
 ·have:=jH hx;rw[h]at this;exact(ok'.kid this).2.symm
 ·rw[par_none hx,par_none fun h2=>hx ((Dt h).2 h2)]
theorem iq{t u:T}(h:∀q,kids t q=kids u q)(i:Int):has t i=has u i:=by
 unfold has;rw[decide_eq_decide.2 (Dt h)]
theorem ui:∀{l:List Int} {n:Nat} (h:n<l.length),l.Nodup->ins n l[n] (l.filter fun k=>decide (k≠l[n]))=l
 |[],n,h,_=>by simp at h
 |a::l,0,_,hn=>by
  have hn':=List.nodup_cons.1 hn
  have e:((a::l).filter fun k=>decide (k≠a))=l:=by
   rw[List.filter_cons_of_neg (by simp),List.filter_eq_self.2 fun x hx=>by
    rw[decide_eq_true_eq];rintro rfl
    exact hn'.1 hx]
  show ins 0 a ((a::l).filter fun k=>decide (k≠a))=a::l;rw[e];rfl
 |a::l,n+1,h,hn=>by
  have hn':=List.nodup_cons.1 hn;have hl:n<l.length:=by simpa using h
  have hne:a≠l[n]:=fun e=>hn'.1 (by rw[e];exact List.getElem_mem hl);show ins (n+1) l[n] ((a::l).filter fun k=>decide (k≠l[n]))=a::l;rw[List.filter_cons_of_pos (by simpa using hne)];have:=ui hl hn'.2;unfold ins at this ⊢;rw[List.take_succ_cons,List.drop_succ_cons,List.cons_append,this]
def gJ(t:T)(i p n:Int):T×Int:=
 if i<1∨65535<i then (t,11) else if has t i=true then (t,15) else if has t p=false then (t,31) else if n<0∨((kids t p).length:Int)<n then (t,34) else (put (i,p) n.toNat t,0)
def jF(t:T)(i:Int):T×List Int×Int:=
 if i=0 then (t,[],33) else if has t i=false then (t,[],30) else (gone (walk t i) t,walk t i,0)
def jT(t:T)(i p n:Int):T×Int:=
 if i=0 then (t,33) else if has t i=false then (t,30) else if has t p=false then (t,31) else if p=i∨within t p i=true then (t,32) else
  if n<0∨(((kids t p).filter fun k=>decide (k≠i)).length:Int)<n then (t,34) else (move i p n.toNat t,0)
theorem yf{t:T}{i:Int}(h:¬has t i=true):i≠0∧i∉ids t:=by
 rw[ah]at h;exact⟨fun e=>h (.inl e),fun e=>h (.inr e)⟩
theorem qM{t:T}(ok:Ok t)(i p n:Int):Ok (gJ t i p n).1∧(gJ t i p n).1.length<=t.length+1:=by
 unfold gJ;by_cases h1:i<1∨65535<i
 ·rw[if_pos h1];exact⟨ok,Nat.le_succ _⟩
 rw[if_neg h1];by_cases h2:has t i=true
 ·rw[if_pos h2];exact⟨ok,Nat.le_succ _⟩
 rw[if_neg h2];by_cases h3:has t p=false
 ·rw[if_pos h3];exact⟨ok,Nat.le_succ _⟩
 rw[if_neg h3];by_cases h4:n<0∨((kids t p).length:Int)<n
 ·rw[if_pos h4];exact⟨ok,Nat.le_succ _⟩
 rw[if_neg h4];exact⟨ok.put (yf h2).2 (by omega) (by omega) (ah.1 (by simpa using h3)) _,Nat.le_of_eq (sZ ok.nd _ _)⟩
theorem sW{t:T}(ok:Ok t)(i:Int):Ok (jF t i).1∧(jF t i).1.length<=t.length:=by
 unfold jF;by_cases h1:i=0
 ·rw[if_pos h1];exact⟨ok,Nat.le_refl _⟩
 rw[if_neg h1];by_cases h2:has t i=false
 ·rw[if_pos h2];exact⟨ok,Nat.le_refl _⟩
 rw[if_neg h2];exact⟨ok.gone ((ah.1 (by simpa using h2)).resolve_left h1),List.length_filter_le _ _⟩
theorem Xx{t:T}(hn:(ids t).Nodup){i:Int}(hi:i∈ids t):(del i t).length+1=t.length:=by
 induction t with
 |nil=>cases hi
 |cons x t ih=>
  have hn':=List.nodup_cons.1 (show(x.1::ids t).Nodup from hn);unfold del;by_cases h:x.1=i
  ·rw[List.filter_cons_of_neg (by simpa using h),List.filter_eq_self.2 fun r hr=>by
    rw[decide_eq_true_eq];intro e
    exact hn'.1 (by rw[h,←e];exact bg.2 ⟨r.2,hr⟩)]
   rfl
  ·rw[List.filter_cons_of_pos (by simpa using h),List.length_cons]
   have hm:i∈ids t:=by
    rcases List.mem_cons.1 (show i∈x.1::ids t from hi) with e|e
    ·exact absurd e.symm h
    ·exact e
   have:=ih hn'.2 hm;unfold del at this;rw[this];rfl
theorem SA{t:T}(hn:(ids t).Nodup){i:Int}(hi:i∈ids t)(p:Int)(n:Nat):(move i p n t).length=t.length:=by
 unfold move;rw[sZ (nO hn i),Xx hn hi]
theorem qE{t:T}(ok:Ok t)(i p n:Int):Ok (jT t i p n).1∧(jT t i p n).1.length=t.length:=by
 unfold jT;by_cases h1:i=0
 ·rw[if_pos h1];exact⟨ok,rfl⟩
 rw[if_neg h1];by_cases h2:has t i=false
 ·rw[if_pos h2];exact⟨ok,rfl⟩
 rw[if_neg h2];by_cases h3:has t p=false
 ·rw[if_pos h3];exact⟨ok,rfl⟩
 rw[if_neg h3];by_cases h4:p=i∨within t p i=true
 ·rw[if_pos h4];exact⟨ok,rfl⟩
 rw[if_neg h4];by_cases h5:n<0∨(((kids t p).filter fun k=>decide (k≠i)).length:Int)<n
 ·rw[if_pos h5];exact⟨ok,rfl⟩
 rw[if_neg h5];have hi:=(ah.1 (show has t i=true by simpa using h2)).resolve_left h1;exact⟨ok.move hi (ah.1 (by simpa using h3)) (fun e=>h4 (.inl e)) (by simpa using fun e=>h4 (.inr e)) _,SA ok.nd hi _ _⟩
theorem Sz{t:T}(ok:Ok t){i p:Int}{n:Nat}(hi:i∈ids t)(ok2:Ok (move i p n t)){x:Int}(hx:x=0∨x∈ids t):x≠i->within t x i=false->within (move i p n t) x i=false:=by
 refine ok.pV (P:=fun x=>x≠i->within t x i=false->within (move i p n t) x i=false) ?_ ?_ hx
 ·intro _ _;rw[ku ok2,if_neg (fun h=>h.2.2 rfl)]
 ·intro y hy ih hne hw;have hy2:y∈ids (move i p n t):=(iJ hi).2 hy;have hi2:i∈ids (move i p n t):=(iJ hi).2 hi
  have hnot:¬(par t y=i∨within t (par t y) i=true):=fun h=>by
   rw[(within_iff ok hy (.inr hi)).2 h]at hw;cases hw
  have ih2:=ih (fun e=>hnot (.inl e)) (by simpa using fun e=>hnot (.inr e));cases hc:within (move i p n t) y i with
  |false=>rfl
  |true=>
   have h2:=(within_iff ok2 hy2 (.inr hi2)).1 hc;rw[tJ ok.nd,if_neg hne]at h2;rcases h2 with e|e
   ·exact absurd (.inl e) hnot
   ·rw[ih2]at e;cases e
theorem lH{t:T}(ok:Ok t){i:Int}(hi:i∈ids t):par t i≠i∧within t (par t i) i=false:=by
 have hd:=bP ok hi;refine⟨fun e=>by rw[e]at hd;omega,?_⟩;cases hc:within t (par t i) i with
 |false=>rfl
 |true=>have:=iY ok hc;omega
theorem zM(n:Nat)(i:Int)(l:List Int)(h:i∉l):(ins n i l).filter (fun k=>decide (k≠i))=l:=by
 unfold ins;rw[List.filter_append,List.filter_cons_of_neg (by simp),←List.filter_append,List.take_append_drop]
 exact List.filter_eq_self.2 fun x hx=>by
  rw[decide_eq_true_eq];rintro rfl;exact h hx
theorem yZ(i:Int)(l:List Int):i∉l.filter fun k=>decide (k≠i):=fun h=>by
 have:=List.mem_filter.1 h;simp at this
theorem jV{t:T}(ok:Ok t){i p:Int}{n:Nat}(hl:n<=((kids t p).filter fun k=>decide (k≠i)).length)(q:Int):((kids (move i p n t) q).filter fun k=>decide (k≠i))=(kids t q).filter fun k=>decide (k≠i):=by
 rw[vJ ok.nd i p hl];by_cases h:q=p
 ·subst h;rw[if_pos rfl,zM _ _ _ (yZ i _)]
 ·rw[if_neg h,List.filter_filter]
  congr 1
  funext k
  simp
theorem OQ{t:T}(ok:Ok t){i p:Int}{n at_:Nat}(hi:i∈ids t)(hl:n<=((kids t p).filter fun k=>decide (k≠i)).length)(hat:at_<(kids t (par t i)).length)(he:(kids t (par t i))[at_]=i)(ok2:Ok (move i p n t)) :
  jT (move i p n t) i (par t i) (at_:Nat)=(move i (par t i) at_ (move i p n t),0)∧∀q,kids (move i (par t i) at_ (move i p n t)) q=kids t q:=by
 have Xf:=ok.fQ hi;obtain⟨hne,hw⟩:=lH ok hi;have hi2:i∈ids (move i p n t):=(iJ hi).2 hi
 have hlen:at_<=((kids (move i p n t) (par t i)).filter fun k=>decide (k≠i)).length:=by
  rw[jV ok hl];have hb:=ui hat (eQ ok.nd (par t i));rw[he]at hb;have:=congrArg List.length hb;unfold ins at this;rw[List.length_append,List.length_cons,List.length_take,List.length_drop]at this;omega
 constructor
 ·unfold jT
  rw[if_neg (ok.uK hi),if_neg (by rw[ah.2 (.inr hi2)];decide),if_neg (by rw[ah.2 (Xf.imp id (iJ hi).2)];decide),if_neg (by
   rintro(e|e)
   ·exact hne e
   ·rw[Sz ok hi ok2 Xf hne hw]at e;cases e),if_neg (by omega),Int.toNat_natCast]
 ·intro q;rw[vJ ok2.nd i (par t i) hlen,jV ok hl,jV ok hl];by_cases h:q=par t i
  ·subst h;rw[if_pos rfl];have hb:=ui hat (eQ ok.nd (par t i));rw[he]at hb;exact hb
  ·rw[if_neg h];refine List.filter_eq_self.2 fun k hk=>?_;rw[decide_eq_true_eq];rintro rfl;exact h (ok.kid hk).2.symm
end Go.Proofs.YthmegninhpihkaaGreat.aF
