import Derived.Test.YthmegninhpihkaaGreatWScw
set_option maxHeartbeats 16000000
set_option maxRecDepth 100000
open Go.Proofs.Tryz
namespace Go.Proofs.YthmegninhpihkaaGreat
section
open Go.RowKit fF fO aF Go.Maps
structure BO(t:T)(Sn:Int->Prop)(i:Int)(k:Nat)(next row:List Int):Prop where
 nx:next=i::row.flatMap (kids t)
 sub:∀j,j∈row↔j∈next.take k∧¬Sn j
 le:k<=next.length
 nd:next.Nodup
 kS:row.Nodup
 deep:∀j∈next,has t j=true∧depth t i<=depth t j
 inw:∀j∈next,j=i∨within t j i=true
 up:∀v (hv:v<row.length),v=0∨par t row[v]∈row.take v
theorem BO.start{t:T}{Sn:Int->Prop}{i:Int}(hi:has t i=true):BO t Sn i 0 [i] []:=
 ⟨rfl,by simp,Nat.zero_le _,by simp,by simp,fun j hj=>by rw[List.mem_singleton.1 hj];exact⟨hi,nR⟩,fun j hj=>.inl (List.mem_singleton.1 hj),fun v hv=>absurd hv (by simp)⟩
section
variable {t:T}{Sn:Int->Prop}{i:Int}{k:Nat}{next row:List Int}
theorem BO.len(h:BO t Sn i k next row):next.length<=t.length+1:=by
 have:=dN (m:=0::ids t) h.nd fun x hx=>by
  rcases aj.1 (h.deep x hx).1 with e|e
  ·exact List.mem_cons.2 (.inl e)
  ·exact List.mem_cons_of_mem _ e
 rwa [List.length_cons,Fv]at this
theorem BO.skip(h:BO t Sn i k next row)(hk:k<next.length)(hs:Sn next[k]):BO t Sn i (k+1) next row:=by
 refine⟨h.nx,fun j=>?_,hk,h.nd,h.kS,h.deep,h.inw,h.up⟩;rw[h.sub,List.take_succ_eq_append_getElem hk,List.mem_append,List.mem_singleton];constructor
 ·exact fun h1=>⟨.inl h1.1,h1.2⟩
 ·rintro⟨h1|h1,h2⟩
  ·exact⟨h1,h2⟩
  ·exact absurd (h1 ▸ hs) h2
theorem BO.new(h:BO t Sn i k next row)(hk:k<next.length):next[k]∉row:=fun h1=>by
 have h2:=((h.sub _).1 h1).1;obtain⟨u,hu,e⟩:=List.mem_iff_getElem.1 h2;rw[List.getElem_take]at e;have hu2:u<k:=by rw[List.length_take]at hu;omega
 have:=List.pairwise_iff_getElem.1 h.nd u k (by omega) hk hu2;exact this e
theorem BO.go(ok:Ok t)(hi:i=0∨i∈ids t)(h:BO t Sn i k next row)(hk:k<next.length)(hs:¬Sn next[k]):BO t Sn i (k+1) (next++kids t next[k]) (row++[next[k]]):=by
 have hnew:=h.new hk;have hdk:=h.deep _ (List.getElem_mem hk)
 obtain⟨y,hy⟩:=aB (next[k])
 rw[hy]at hs hnew hdk ⊢
 have hfresh:∀c∈kids t y,c∉next:=fun c hc hm=>by
  have hp:=(ok.kid hc).2;have hd:=ed ok hc;rw[h.nx]at hm;rcases List.mem_cons.1 hm with e|e
  ·rw[e]at hd;omega
  ·obtain⟨r,hr,hcr⟩:=List.mem_flatMap.1 e;have:=(ok.kid hcr).2;exact hnew (by rw[←hp,this];exact hr)
 refine⟨by rw[h.nx,List.flatMap_append];simp,fun j=>?_,by rw[List.length_append];omega,?_,?_,fun j hj=>?_,fun j hj=>?_,fun v hv=>?_⟩
 ·rw[List.mem_append,List.mem_singleton,h.sub,List.take_append_of_le_length (by omega),List.take_succ_eq_append_getElem hk,List.mem_append,List.mem_singleton,hy];constructor
  ·rintro(h1|h1)
   ·exact⟨.inl h1.1,h1.2⟩
   ·exact⟨.inr h1,h1 ▸ hs⟩
  ·rintro⟨h1|h1,h2⟩
   ·exact .inl ⟨h1,h2⟩
   ·exact .inr h1
 ·exact List.nodup_append.2 ⟨h.nd,fB ok.nd y,fun a ha b hb e=>hfresh b hb (e ▸ ha)⟩
 ·exact List.nodup_append.2 ⟨h.kS,by simp,fun a ha b hb e=>hnew (by rw[←List.mem_singleton.1 hb,←e];exact ha)⟩
 ·rcases List.mem_append.1 hj with hj|hj
  ·exact h.deep j hj
  ·exact⟨aj.2 (.inr (ok.kid hj).1),by have:=ed ok hj;omega⟩
 ·rcases List.mem_append.1 hj with hj|hj
  ·exact h.inw j hj
  ·right;obtain⟨h1,h2⟩:=ok.kid hj;rw[aF.within_iff ok h1 hi,h2];exact h.inw y (by rw[←hy];exact List.getElem_mem hk)
 ·by_cases hlt:v<row.length
  ·rw[List.getElem_append_left hlt,List.take_append_of_le_length (by omega)];exact h.up v hlt
  ·rw[List.length_append,List.length_singleton]at hv;obtain rfl:v=row.length:=by omega
   have hym:y∈next:=by rw[←hy];exact List.getElem_mem hk
   simp only[List.getElem_append_right nR,Nat.sub_self,List.getElem_singleton,List.take_left];rw[h.nx]at hym;rcases List.mem_cons.1 hym with e|e
   ·left;cases hr:row with
    |nil=>rfl
    |cons a l=>
     exfalso
     have h0:k=0:=by
      rcases Nat.eq_zero_or_pos k with h0|h0
      ·exact h0
      ·have hz:next[0]'(by omega)=i:=by simp only[h.nx,List.getElem_cons_zero]
       have:=List.pairwise_iff_getElem.1 h.nd 0 k (by omega) hk h0;exact absurd (hz.trans (e.symm.trans hy.symm)) this
     have:=(h.sub a).1 (by rw[hr];exact List.mem_cons_self);rw[h0]at this;simp at this
   ·right;obtain⟨r,hr,hyr⟩:=List.mem_flatMap.1 e;rw[(ok.kid hyr).2];exact hr
theorem BO.done(ok:Ok t)(h:BO t Sn i k next row)(hk:next.length<=k)(hcl:∀j,Sn j->∀c∈kids t j,Sn c)(hi:i=0∨i∈ids t)(j:Int):j∈row↔(j=i∨within t j i=true)∧¬Sn j:=by
 have hsub:=h.sub;rw[List.take_of_length_le hk]at hsub;constructor
 ·intro hj;exact⟨h.inw j ((hsub j).1 hj).1,((hsub j).1 hj).2⟩
 ·rintro⟨hj,hs⟩
  obtain⟨n,hn⟩:∃n,depth t j<=n:=⟨_,nR⟩
  induction n generalizing j with
  |zero=>
   rcases hj with rfl|hj
   ·exact(hsub _).2 ⟨by rw[h.nx];exact List.mem_cons_self,hs⟩
   ·have:=jh ok hj;omega
  |succ n ih=>
   rcases hj with rfl|hj
   ·exact(hsub _).2 ⟨by rw[h.nx];exact List.mem_cons_self,hs⟩
   ·have hjj:=(bK hj).1;have hk:=jL hjj;have hp:=(aF.within_iff ok hjj hi).1 hj;have hd:=ed ok hk;have hr:=ih (par t j) hp (fun e=>hs (hcl _ e j hk)) (by omega);exact(hsub j).2 ⟨by rw[h.nx];exact List.mem_cons_of_mem _ (List.mem_flatMap.2 ⟨_,hr,hk⟩),hs⟩
end
end
section
open Go.RowKit fF fO aF Go.Maps
theorem iO{m:Mp}{op:Int}{cl:Bool}{r:Bx}{lk:Int}(h:Lu m op cl r lk=0):m.right=true∧(0<=op∧op<=255)∧lk=0∧(if cl=true then MO r=true else r=Bx.o):=by
 unfold Lu at h;by_cases h1:(m.right&&decide (0<=op∧op<=255))=true
 ·rw[if_pos h1]at h;rw[Bool.and_eq_true,decide_eq_true_eq]at h1;refine⟨h1.1,h1.2,?_⟩;by_cases h2:cl=true
  ·rw[if_pos h2]at h ⊢;by_cases h3:MO r=true
   ·rw[if_pos h3]at h;exact⟨h,h3⟩
   ·rw[if_neg h3]at h;cases h
  ·rw[if_neg h2]at h ⊢;by_cases h3:r=Bx.o
   ·rw[if_pos h3]at h;exact⟨h,h3⟩
   ·rw[if_neg h3]at h;cases h
 ·rw[if_neg h1]at h;cases h
theorem wV{m m':Mp}{op op':Int}{cl cl':Bool}{r r':Bx}{lk lk':Int}(h1:m.right=m'.right)(h2:decide (0<=op∧op<=255)=decide (0<=op'∧op'<=255))(h3:cl=cl'∧r=r'∨((if cl=true then MO r=true else r=Bx.o)∧(if cl'=true then MO r'=true else r'=Bx.o)))(h4:lk=lk'):Lu m op cl r lk=Lu m' op' cl' r' lk':=by
 subst h4;unfold Lu;rw[h1,h2];rcases h3 with ⟨rfl,rfl⟩|⟨h5,h6⟩
 ·rfl
 ·have e:∀{c:Bool} {q:Bx},(if c=true then MO q=true else q=Bx.o)->(if c=true then (if MO q=true then lk else 11) else (if q=Bx.o then lk else 10))=lk:=fun {c q} h=>by
   by_cases hc:c=true
   ·rw[if_pos hc]at h ⊢;rw[if_pos h]
   ·rw[if_neg hc]at h ⊢;rw[if_pos h]
  rw[e h5,e h6]
theorem wO:Nd.plain.chk=0:=by decide
theorem Pm{n:Nd}(h:n.chk=0)(o:dU):(bY n o).chk=(bY Nd.plain o).chk:=by
 obtain⟨h1,h2,h3,h4⟩:=iO h;obtain⟨p1,p2,p3,p4⟩:=iO wO;have d1:n.m.right=Nd.plain.m.right:=h1.trans p1.symm;have d2:decide (0<=n.op∧n.op<=255)=decide (0<=Nd.plain.op∧Nd.plain.op<=255):=(decide_eq_true h2).trans (decide_eq_true p2).symm;have d4:=h3.trans p3.symm;unfold bY Nd.chk;by_cases k4:o.k=4
 ·rw[if_pos k4,if_pos k4];exact wV rfl d2 (.inr ⟨h4,p4⟩) d4
 rw[if_neg k4,if_neg k4];by_cases k5:o.k=5
 ·rw[if_pos k5,if_pos k5];exact wV d1 d2 (.inl ⟨rfl,rfl⟩) d4
 rw[if_neg k5,if_neg k5];by_cases k6:o.k=6
 ·rw[if_pos k6,if_pos k6];exact wV d1 rfl (.inr ⟨h4,p4⟩) d4
 rw[if_neg k6,if_neg k6];by_cases k7:o.k=7
 ·rw[if_pos k7,if_pos k7];exact wV d1 d2 (.inr ⟨h4,p4⟩) rfl
 rw[if_neg k7,if_neg k7];by_cases k8:o.k=8
 ·rw[if_pos k8,if_pos k8];exact wV d1 d2 (.inr ⟨h4,p4⟩) d4
 rw[if_neg k8,if_neg k8];exact wV d1 d2 (.inr ⟨h4,p4⟩) d4
def Good(x:aJ):Prop:=∀i,(x.nd i).chk=0
theorem Good.m{x:aJ}(h:Good x)(i:Int):(x.nd i).m.right=true:=(iO (h i)).1
theorem Wx{M:Int}{x:aJ}(h:Good x)(o:dU):Good (fQ M x o).1:=by
 by_cases hz:(fQ M x o).2≠0
 ·rw[vk hz];exact h
 unfold fQ at hz ⊢;by_cases h1:o.k=1
 ·rw[if_pos h1];unfold fE;split
  ·exact h
  ·split
   ·exact h
   ·exact yU (P:=fun n:Nd=>n.chk=0) (f:=x.nd) h wO
 rw[if_neg h1]at hz ⊢;by_cases h2:o.k=2
 ·rw[if_pos h2];unfold fV;split<;>exact h
 rw[if_neg h2]at hz ⊢;by_cases h3:o.k=3
 ·rw[if_pos h3];unfold mg;split<;>exact h
 rw[if_neg h3]at hz ⊢;by_cases h4:4<=o.k∧o.k<=8
 ·rw[if_pos h4]at hz ⊢;unfold ny at hz ⊢;by_cases e1:has x.t o.i=false
  ·rw[if_pos e1];exact h
  rw[if_neg e1]at hz ⊢;by_cases e2:(bY Nd.plain o).chk≠0
  ·rw[if_pos e2];exact h
  rw[if_neg e2];refine yU (P:=fun n:Nd=>n.chk=0) (f:=x.nd) h ?_;have:=Pm (h o.i) o;rw[this]
  simpa using e2
 ·rw[if_neg h4];exact h
theorem oQ{M:Int}:∀(l:List dU) {x:aJ},Good x->Good (aT M x l).1
 |[],_,h=>h
 |o::l,x,h=>by
  rw[dC];split
  ·exact h
  ·exact oQ l (Wx h o)
theorem BB{l:List Int}(h:iH l=true):bZ (jT l)=true:=by
 unfold iH at h;rw[Bool.and_eq_true,Bool.and_eq_true,decide_eq_true_eq]at h;rw[(FZ h.1 h.2.1 h.2.2).1];exact h.2.2
theorem tN{m:Mp}{p:Pt}(h:m.takes p=true):bZ (m.take p).x=true∧bZ (m.take p).y=true:=by
 unfold Mp.take;rw[if_pos h];unfold Mp.takes at h;rw[Bool.and_eq_true]at h;exact⟨BB h.1,BB h.2⟩
theorem Ho{m n:Mp}(h:(m.fA [n]).2=0):(m.fA [n]).1.right=true:=by
 unfold Mp.fA at h ⊢;by_cases h1:m.right=true∧[n].all Mp.right=true
 ·rw[if_pos h1]at h ⊢;cases hb:m.iK n with
  |true=>
   have e:m.run [n]=(m.kQ n,true):=by unfold Mp.run Mp.run;rw[if_pos hb]
   rw[e];have h2:=hb;unfold Mp.iK at h2;rw[Bool.and_eq_true,Bool.and_eq_true]at h2;obtain⟨a1,a2⟩:=tN h2.1.1;obtain⟨a3,a4⟩:=tN h2.1.2;obtain⟨a5,a6⟩:=tN h2.2;unfold Mp.right Mp.l dM Mp.kQ;simp[a1,a2,a3,a4,a5,a6]
  |false=>
   have e:m.run [n]=(Mp.o,false):=by unfold Mp.run;rw[if_neg (by rw[hb];simp)]
   rw[e]at h;simp at h
 ·rw[if_neg h1]at h;simp at h
theorem Uo{m n:Mp}(h1:m.right=true)(h2:n.right=true):(m.fA [n]).2=0∨(m.fA [n]).2=35:=by
 unfold Mp.fA;rw[if_pos ⟨h1,by simp[h2]⟩];simp only;split
 ·exact .inl rfl
 ·exact .inr rfl
theorem jg{t:T}{nd:Int->Nd}(ok:Ok t)(h:∀i,(nd i).m.right=true){i:Int}(hi:i=0∨i∈ids t):∀q,aV t nd i=some q->q.right=true:=by
 refine ok.qJ (P:=fun i=>∀q,aV t nd i=some q->q.right=true) (fun q hq=>?_) (fun i hi ih q hq=>?_) hi
 ·rw[jX]at hq;rw[←Option.some.inj hq];exact h 0
 ·rw[lG ok nd hi]at hq;unfold Oc at hq;cases hw:aV t nd (par t i) with
  |none=>rw[hw]at hq;cases hq
  |some u=>
   rw[hw,Option.bind_some]at hq;by_cases hz:((nd i).m.fA [u]).2=0
   ·rw[if_pos hz]at hq;rw[←Option.some.inj hq];exact Ho hz
   ·rw[if_neg hz]at hq;cases hq
theorem BO.first{t:T}{Sn:Int->Prop}{i:Int}{k:Nat}{next row:List Int}(ok:Ok t)(h:BO t Sn i k next row)(hk:next.length<=k)(hcl:∀j,Sn j->∀c∈kids t j,Sn c)(hi:i=0∨i∈ids t)(h0:0<row.length):row[0]=i:=by
 have hd:=h.done ok hk hcl hi
 have hns:¬Sn i:=fun e=>by
  have hall:∀n j,depth t j<=n->(j=i∨within t j i=true)->Sn j:=fun n=>by
   induction n with
   |zero=>
    rintro j hj (rfl|hw)
    ·exact e
    ·have:=jh ok hw;omega
   |succ n ih=>
    rintro j hj (rfl|hw)
    ·exact e
    ·have hjj:=(bK hw).1;have hk:=jL hjj;exact hcl _ (ih (par t j) (by have:=ed ok hk;omega) ((aF.within_iff ok hjj hi).1 hw)) j hk
  have h1:=(hd row[0]).1 (List.getElem_mem h0);exact h1.2 (hall _ _ nR h1.1)
 obtain⟨v,hv,e⟩:=List.mem_iff_getElem.1 ((hd i).2 ⟨.inl rfl,hns⟩);rcases h.up v hv with rfl|h2
 ·exact e
 ·rw[e]at h2;have h3:=(h.sub _).1 (List.mem_of_mem_take h2);have h4:=h.deep _ (List.mem_of_mem_take h3.1);rcases hi with rfl|hi
  ·have:par t 0=-1:=par_none fun e=>ok.wU e rfl;rw[this]at h4;rcases aj.1 h4.1 with e|e
   ·cases e
   ·obtain⟨q,hq⟩:=bG.1 e;have:=(ok.UA _ hq).1;simp at this
  ·have:=bM ok hi;omega
structure vT(t:T)(Tc:Int->Prop)(rows:List (List Int))(Sn:Int->Prop):Prop where
 mem:∀j,Sn j↔∃r∈rows,j∈r
 cl:∀j,Sn j->∀c∈kids t j,Sn c
 hs:∀j,Sn j->has t j=true
 tc:∀j,Tc j->has t j=true->Sn j
 nd:rows.reverse.flatten.Nodup
 up:∀pre x post,rows.reverse.flatten=pre++x::post->x=0∨par t x∈pre∨¬Sn (par t x)
theorem vT.start(t:T):vT t (fun _=>False) [] (fun _=>False):=
 ⟨fun j=>by simp,fun _ h=>h.elim,fun _ h=>h.elim,fun _ h=>h.elim,by simp,fun pre x post h=>by simp at h⟩
theorem vT.tcs{t:T}{Tc Tc':Int->Prop}{rows:List (List Int)}{Sn:Int->Prop}(h:vT t Tc rows Sn)(hs:∀j,Tc' j->has t j=true->Tc j):vT t Tc' rows Sn:=⟨h.mem,h.cl,h.hs,fun j hj hh=>h.tc j (hs j hj hh) hh,h.nd,h.up⟩
theorem vT.add{t:T}{Tc Tc':Int->Prop}{rows:List (List Int)}{Sn Sn':Int->Prop}(ok:Ok t)(h:vT t Tc rows Sn){i:Int}{k:Nat}{next row:List Int}(hi:has t i=true)(u:BO t Sn i k next row)(hk:next.length<=k)(hT:∀j,Tc' j->Tc j∨j=i)(hS:∀j,Sn' j↔Sn j∨j∈row):vT t Tc' (rows++[row]) Sn':=by
 have hi':=aj.1 hi;have hd:=u.done ok hk h.cl hi'
 have hcl':∀j,Sn j∨j∈row->∀c∈kids t j,Sn c∨c∈row:=fun j hj c hc=>by
  by_cases hsn:Sn c
  ·exact .inl hsn
  ·right;rcases hj with hj|hj
   ·exact absurd (h.cl j hj c hc) hsn
   ·refine(hd c).2 ⟨.inr ?_,hsn⟩;obtain⟨h1,h2⟩:=ok.kid hc;rw[aF.within_iff ok h1 hi',h2];exact((hd j).1 hj).1
 have hhs:∀j,Sn j∨j∈row->has t j=true:=fun j hj=>by
  rcases hj with hj|hj
  ·exact h.hs j hj
  ·rcases((hd j).1 hj).1 with rfl|h2
   ·exact hi
   ·exact aj.2 (.inr (bK h2).1)
 refine⟨fun j=>?_,fun j hj c hc=>(hS c).2 (hcl' j ((hS j).1 hj) c hc),fun j hj=>hhs j ((hS j).1 hj),fun j hj hh=>(hS j).2 ?_,?_,fun pre x post e=>?_⟩
 ·rw[hS,h.mem];simp only[List.mem_append,List.mem_singleton];constructor
  ·rintro(⟨r,h1,h2⟩|h1)
   ·exact⟨r,.inl h1,h2⟩
   ·exact⟨row,.inr rfl,h1⟩
  ·rintro⟨r,h1|rfl,h2⟩
   ·exact .inl ⟨r,h1,h2⟩
   ·exact .inr h2
 ·rcases hT j hj with h1|rfl
  ·exact .inl (h.tc j h1 hh)
  ·by_cases hsn:Sn j
   ·exact .inl hsn
   ·exact .inr ((hd j).2 ⟨.inl rfl,hsn⟩)
 ·rw[List.reverse_append,List.reverse_singleton,List.singleton_append,List.flatten_cons,List.nodup_append];refine⟨u.kS,h.nd,fun a ha b hb e=>?_⟩;subst e;rw[List.mem_flatten]at hb;obtain⟨r,h1,h2⟩:=hb;exact((hd a).1 ha).2 ((h.mem a).2 ⟨r,List.mem_reverse.1 h1,h2⟩)
 ·rw[List.reverse_append,List.reverse_singleton,List.singleton_append,List.flatten_cons]at e;by_cases hx0:x=0
  ·exact .inl hx0
  right;rcases List.append_eq_append_iff.1 e with ⟨m,e1,e2⟩|⟨m,e1,e2⟩
  ·-- pre=row++m
   have hq:=h.up m x post e2;rcases hq with hq|hq|hq
   ·exact absurd hq hx0
   ·left;rw[e1];exact List.mem_append_right _ hq
   ·by_cases hr:par t x∈row
    ·left;rw[e1];exact List.mem_append_left _ hr
    ·right;rw[hS];exact fun h9=>h9.elim hq hr
  ·-- row=pre++m,x::post=m++old
   cases m with
   |nil=>
    rw[List.append_nil]at e1;rw[List.nil_append]at e2;rcases h.up [] x post (by simpa using e2.symm) with hq|hq|hq
    ·exact absurd hq hx0
    ·cases hq
    ·by_cases hr:par t x∈row
     ·left;rw[←e1];exact hr
     ·right;rw[hS];exact fun h9=>h9.elim hq hr
   |cons y m=>
    rw[List.cons_append]at e2
    injection e2 with e3 e4
    subst e3;have hlen:pre.length<row.length:=by rw[e1];simp
    have hx:row[pre.length]=x:=by simp only[e1,List.getElem_append_right nR,Nat.sub_self,List.getElem_cons_zero]
    have htk:row.take pre.length=pre:=by rw[e1,List.take_left]
    rcases u.up pre.length hlen with h0|h2
    ·have hf:=u.first ok hk h.cl hi' (by omega);have hxi:x=i:=by rw[←hx,←hf];simp only[h0]
     subst hxi;have hxx:=hi'.resolve_left hx0;have hkx:=jL hxx;have hxr:x∈row:=by rw[e1];simp
     right;rw[hS];rintro(h9|h9)
     ·exact((hd x).1 hxr).2 (h.cl _ h9 x hkx)
     ·have h3:=(u.sub _).1 h9;have h4:=u.deep _ (List.mem_of_mem_take h3.1);have:=bM ok hxx;omega
    ·left;rw[hx,htk]at h2;exact h2
structure P5(x:aJ)(pre:List Int)(fr:Int->Option Mp):Prop where
 yes:∀j∈pre,fr j=aV x.t x.nd j∧(fr j).isSome=true
 no:∀j,j∉pre->fr j=none
theorem P5.start(x:aJ):P5 x [] (fun _=>none):=⟨fun _ h=>(nomatch h),fun _ _=>rfl⟩
theorem OL{t:T}(ok:Ok t){Sn:Int->Prop}(hcl:∀j,Sn j->∀c∈kids t j,Sn c){p:Int}(hp:p=0∨p∈ids t):(∃j∈line t p,Sn j)∨Sn 0->Sn p:=by
 refine ok.qJ (P:=fun p=>(∃j∈line t p,Sn j)∨Sn 0->Sn p) (fun h=>?_) (fun i hi ih h=>?_) hp
 ·rcases h with ⟨j,hj,_⟩|h
  ·rw[mF]at hj;cases hj
  ·exact h
 ·rw[dZ ok hi]at h;rcases h with ⟨j,hj,hs⟩|h
  ·rcases List.mem_cons.1 hj with e|hj
   ·exact e ▸ hs
   ·exact hcl _ (ih (.inl ⟨j,hj,hs⟩)) i (jL hi)
  ·exact hcl _ (ih (.inr h)) i (jL hi)
theorem vT.rest{x:aJ}{Tc:Int->Prop}{rows:List (List Int)}{Sn:Int->Prop}(ok:Ok x.t)(h:vT x.t Tc rows Sn)(hs:dF x Tc){p:Int}(hp:has x.t p=true)(hn:¬Sn p):aV x.t x.nd p=some (x.ws p):=by
 have hp':=aj.1 hp;refine hs p hp (fun j hj ht=>hn (OL ok h.cl hp' (.inl ⟨j,hj,h.tc j ht (aj.2 (.inr (AA ok hp' hj)))⟩))) fun ht=>hn (OL ok h.cl hp' (.inr (h.tc 0 ht (aj.2 (.inl rfl)))))
theorem P5.step{x:aJ}{Tc:Int->Prop}{rows:List (List Int)}{Sn:Int->Prop}(ok:Ok x.t)(hg:Good x)(h:vT x.t Tc rows Sn)(hs:dF x Tc){pre post:List Int}{i:Int}{fr:Int->Option Mp}(hf:P5 x pre fr)(e:rows.reverse.flatten=pre++i::post) :
  ((gI x fr i).2=0∧P5 x (pre++[i]) (upd fr i (some (gI x fr i).1)))∨((gI x fr i).2=35∧has x.t i=true∧aV x.t x.nd i=none):=by
 have hmem:∀j,Sn j↔j∈rows.reverse.flatten:=fun j=>by
  rw[h.mem,List.mem_flatten];exact⟨fun⟨r,h1,h2⟩=>⟨r,List.mem_reverse.2 h1,h2⟩,fun⟨r,h1,h2⟩=>⟨r,List.mem_reverse.1 h1,h2⟩⟩
 have hi:has x.t i=true:=h.hs i ((hmem i).2 (by rw[e];simp));have hnd:gZ x i=x.nd i:=if_pos hi
 have hfin:∀q,aV x.t x.nd i=some q->P5 x (pre++[i]) (upd fr i (some q)):=fun q hq=>by
  refine⟨fun j hj=>?_,fun j hj=>?_⟩
  ·by_cases ej:j=i
   ·rw[ej,upd_same];exact⟨hq.symm,rfl⟩
   ·rw[upd_ne _ ej];rcases List.mem_append.1 hj with h1|h1
    ·exact hf.yes j h1
    ·exact absurd (List.mem_singleton.1 h1) ej
  ·have ej:j≠i:=fun ej=>hj (by rw[ej];simp);rw[upd_ne _ ej];exact hf.no j fun h1=>hj (List.mem_append_left _ h1)
 by_cases h0:i=0
 ·subst h0;left;have er:gI x fr 0=((x.nd 0).m,0):=by unfold gI;rw[if_pos rfl,hnd]
  rw[er];exact⟨rfl,hfin _ (jX _ _)⟩
 have hii:=(aj.1 hi).resolve_left h0;have hp:=ok.fG hii
 have hpw:aV x.t x.nd (par x.t i)=some ((fr (par x.t i)).getD (gy x (par x.t i))):=by
  by_cases hpp:par x.t i∈pre
  ·obtain⟨h1,h2⟩:=hf.yes _ hpp;rw[←h1];obtain⟨q,hq⟩:=Option.isSome_iff_exists.1 h2;rw[hq];rfl
  ·rw[hf.no _ hpp];rcases h.up pre i post e with h1|h1|h1
   ·exact absurd h1 h0
   ·exact absurd h1 hpp
   ·rw[vT.rest ok h hs (aj.2 hp) h1];show _=some (gy x (par x.t i));rw[show gy x (par x.t i)=x.ws (par x.t i) from if_pos (aj.2 hp)]
 have er:gI x fr i=(x.nd i).m.fA [(fr (par x.t i)).getD (gy x (par x.t i))]:=by unfold gI;rw[if_neg h0,hnd]
 rw[er];generalize (fr (par x.t i)).getD (gy x (par x.t i))=u at*;have hur:=jg ok hg.m hp u hpw
 have hw:aV x.t x.nd i=if ((x.nd i).m.fA [u]).2=0 then some ((x.nd i).m.fA [u]).1 else none:=by
  rw[lG ok _ hii,hpw];rfl
 rcases Uo (hg.m i) hur with hz|hz
 ·rw[if_pos hz]at hw;exact .inl ⟨hz,hfin _ hw⟩
 ·rw[if_neg (by rw[hz];decide)]at hw;exact .inr ⟨hz,hi,hw⟩
noncomputable def setSt (x:aJ):aJ×Int:=open Classical in if ∀i,has x.t i=true->aV x.t x.nd i≠none then (⟨x.t,x.nd,fun i=>(aV x.t x.nd i).getD (x.ws i)⟩,0) else (x,35)
theorem D7{x:aJ}{i:Int}(h:has x.t i=true)(hw:aV x.t x.nd i=none):setSt x=(x,35):=by
 unfold setSt;rw[if_neg fun e=>e i h hw]
theorem Qj{x:aJ}(h:(setSt x).2≠0):(setSt x).1=x:=by
 unfold setSt at h ⊢;split
 ·rename_i h1
  rw[if_pos h1]at h;exact absurd rfl h
 ·rfl
theorem P5.done{x:aJ}{Tc:Int->Prop}{rows:List (List Int)}{Sn:Int->Prop}(ok:Ok x.t)(h:vT x.t Tc rows Sn)(hs:dF x Tc){fr:Int->Option Mp}(hf:P5 x rows.reverse.flatten fr) :
  setSt x=(⟨x.t,x.nd,fun i=>(aV x.t x.nd i).getD (x.ws i)⟩,0)∧∀i,has x.t i=true->(aV x.t x.nd i).getD (x.ws i)=(fr i).getD (x.ws i):=by
 have hmem:∀j,Sn j↔j∈rows.reverse.flatten:=fun j=>by
  rw[h.mem,List.mem_flatten];exact⟨fun⟨r,h1,h2⟩=>⟨r,List.mem_reverse.2 h1,h2⟩,fun⟨r,h1,h2⟩=>⟨r,List.mem_reverse.1 h1,h2⟩⟩
 have hall:∀i,has x.t i=true->aV x.t x.nd i=some ((fr i).getD (x.ws i)):=fun i hi=>by
  by_cases hsn:Sn i
  ·obtain⟨h1,h2⟩:=hf.yes i ((hmem i).1 hsn);obtain⟨q,hq⟩:=Option.isSome_iff_exists.1 h2;rw[←h1,hq];rfl
  ·rw[hf.no i fun e=>hsn ((hmem i).2 e)];exact vT.rest ok h hs hi hsn
 refine⟨?_,fun i hi=>by rw[hall i hi];rfl⟩;unfold setSt;rw[if_pos fun i hi=>by rw[hall i hi];simp]
theorem C9{x:aJ}(h:(setSt x).2=0):dF (setSt x).1 fun _=>False:=by
 unfold setSt at h ⊢;split
 ·rename_i h1
  intro i hi _ _;have h2:=h1 i hi;show aV x.t x.nd i=some ((aV x.t x.nd i).getD (x.ws i));cases hw:aV x.t x.nd i with
  |none=>exact absurd hw h2
  |some q=>rfl
 ·rename_i h1
  rw[if_neg h1]at h;cases h
theorem uq(x:aJ):(setSt x).1.t=x.t:=by unfold setSt;split<;>rfl
theorem uu(x:aJ):(setSt x).1.nd=x.nd:=by unfold setSt;split<;>rfl
end
section
open Go.RowKit fF fO aF Go.Maps
abbrev Om:TypeId:=225
theorem Hm:prog.underlying Om=some (.map 3 250):=underlying225
theorem P6(w:World):(zeroValue 250).run prog w=.ok (.agg #[]) w:=by kernel_rfl
def fC(w:World)(ms:Nat)(Sn:Int->Prop):Prop:=∃es,VM w ms es∧(∀j,omap.look es j≠none↔Sn j)∧∀j v,omap.look es j=some v->v=.agg #[]
section
variable {w w':World}{ms:Nat}{Sn Sn':Int->Prop}
theorem fC.inside(h:fC w ms Sn):ms<w.heap.size:=h.elim fun _ h=>h.1.inside
theorem fC.stays(h:fC w ms Sn)(hb:w'.heap[ms]?=w.heap[ms]?):fC w' ms Sn:=by
 obtain⟨es,h1,h2⟩:=h;exact⟨es,h1.stays hb,h2⟩
theorem fC.below(h:fC w ms Sn)(hb:bz w w'):fC w' ms Sn:=h.stays (hb.block _ h.inside)
theorem fC.as(h:fC w ms Sn)(e:∀j,Sn j↔Sn' j):fC w ms Sn':=by
 obtain⟨es,h1,h2⟩:=h;exact⟨es,h1,fun j=>(h2.1 j).trans (e j),h2.2⟩
theorem fC.look(h:fC w ms Sn){i:Int}(hi:I64 i):∃q,(Instr.lookup Om (.map (some ms)) (.int .i64 i) true).run prog w=.ok (.tuple #[.agg #[],.bool q]) w∧(q=true↔Sn i):=by
 obtain⟨es,h1,h2,h3⟩:=h;have hl:=h1.look_ok Hm (P6 w) hi;have h4:=h2 i;have h5:=h3 i;cases hq:omap.look es i with
 |none=>rw[hq]at hl h4;exact⟨false,hl,by simpa using h4⟩
 |some v=>
  rw[hq]at hl h4;rw[h5 v hq]at hl;exact⟨true,hl,by simpa using h4⟩
theorem fC.put(h:fC w ms Sn){t:T}(hs:∀j,Sn j->has t j=true)(hn:t.length<=100000){i:Int}(hi:I64 i) :
  ∃w',(Instr.mapUpdate Om (.map (some ms)) (.int .i64 i) (.agg #[])).run prog w=.ok () w'∧fC w' ms (fun j=>Sn j∨j=i)∧w.grownBy w' (some ms):=by
 obtain⟨es,h1,h2,h3⟩:=h;have hle:=Jd (t:=t) h1.rises fun j hj=>hs j ((h2 j).1 hj);obtain⟨w',hrun,hm,hg⟩:=h1.store Hm hi (.agg #[]) (by have:=iJ i (.agg #[]) es;omega);refine⟨w',hrun,⟨_,hm,fun j=>?_,fun j v hv=>?_⟩,hg⟩
 ·rw[omap.dE];by_cases e:j=i
  ·rw[if_pos e];simp[e]
  ·rw[if_neg e,h2];simp[e]
 ·rw[omap.dE]at hv;by_cases e:j=i
  ·rw[if_pos e]at hv;exact(Option.some.inj hv).symm
  ·rw[if_neg e]at hv;exact h3 j v hv
end
def ApV(v u:Value):Prop:=∀k,v.ownBlock=some k->u.ownBlock≠some k
theorem ak.apart{α:Type}{T:TypeId}{k:Nat}{enc:α->List Value}{w w':World}{base:Nat}{v u:Value}{l:List α}(h:ak T k enc w base v l)(ha:ApV v u)(ht:ae (Ow u) (Ow u) w w'):ak T k enc w' base v l:=h.stays fun g hg=>(ht.far g (h.block hg).2 fun e=>ha g hg e).2
def UnQ(t:T)(ms:Nat)(Sn:Int->Prop)(i:Int)(w:World)(e:Ending)(w':World):Prop:=
 ∃(A:Option Addr) (c:Nat) (row next:List Int) (k:Nat),e=.returned (.slice A row.length c)∧aP w' w.heap.size (.slice A row.length c) row∧BO t Sn i k next row∧next.length<=k∧fC w' ms (fun j=>Sn j∨j∈row)∧ae (fun q=>q=ms) (fun q=>q=ms) w w'
theorem aU.Ir{α:Type}{k:Nat}{enc:α->List Value}{w:World}{l:List α}(h:aU k enc w none l):l=[]:=by
 cases l with
 |nil=>rfl
 |cons x l=>
  obtain⟨b,off,e,_⟩:=h (by simp);cases e
theorem Xe{w:World}{base b2:Nat}{v u:Value}{l xs:List Int}(h:aP w base v l)(k:aP w b2 u xs)(hn:l.length+xs.length<=1000000)(hb:base<=w.heap.size) :
  ∃v' w',(Builtin.append_ #[35,35] 35 #[v,u]).run prog w=.ok v' w'∧aP w' base v' (l++xs)∧w.grownBy w' v.ownBlock∧(v'.ownBlock=v.ownBlock∨v'.ownBlock=some w.heap.size):=by
 obtain⟨A,c,rfl,-,-,hr⟩:=ak.row k ig;cases A with
 |none=>
  obtain rfl:=aU.Ir hr;obtain⟨A2,c2,rfl,hle,-,-⟩:=ak.row h ig;obtain⟨i,hi,hz,hsize,hby⟩:=info_parts kV;refine⟨.slice A2 l.length c2,w,?_,by simpa using h,World.grownBy.refl _ _,.inl rfl⟩;rw[show(([]:List Int).length)=0 from rfl];cases A2<;>simp[Builtin.append_,run_underlying underlying35,sizeOf,typeInfo,hi,Builtin.lenOf,hle,run_firstCells_none,storeCells]
 |some a=>
  by_cases hx:xs=[]
  ·subst hx;obtain⟨A2,c2,rfl,hle,-,-⟩:=ak.row h ig;obtain⟨i,hi,hz,hsize,hby⟩:=info_parts kV;refine⟨.slice A2 l.length c2,w,?_,by simpa using h,World.grownBy.refl _ _,.inl rfl⟩;rw[show(([]:List Int).length)=0 from rfl];have hf:=run_firstCells_some (P:=prog) w i.size 0 a 0 c [] (by simp) (by simp);cases A2<;>simp[Builtin.append_,run_underlying underlying35,sizeOf,typeInfo,hi,Builtin.lenOf,hle,hf,storeCells,Result.andThen]
  ·obtain⟨b,off,e,-⟩:=hr (List.length_pos_iff.2 hx);obtain rfl:=Option.some.inj e;exact ak.app (P:=prog) underlying35 kV rfl (by decide) (by decide) ig uV h (fun _=>hr) (by omega) hb
theorem vz(z:Int)(w:World):(Instr.buildSlice 35 1 #[(0,.int .i64 z)]).run prog w=.ok (.slice (some ⟨w.heap.size,0,none⟩) 1 1) (w.alloc (.cells #[.int .i64 z] 3)):=by kernel_rfl
section
variable {w:World}{g b m:Nat}{s:Sh}{Z:ZZ}{x:aJ}
theorem sS(ms:Nat)(FS:∀W,ae (fun q=>q=ms) (fun q=>q=ms) w W->ax W g b m s Z x)(hn:x.t.length<=900)(Sn:Int->Prop)(hm:fC w ms Sn)(hs:∀j,Sn j->has x.t j=true)(i:Int)(hi:has x.t i=true) :
  Calls prog 100 #[.pointer (some ⟨g,0,none⟩),.int .i64 i,.map (some ms)] w (UnQ x.t ms Sn i w):=by
 have J9:=Hd FS;have HN:=Hd hn;have KF:=Hd hs;have HI:=Hd hi;have dW:Hid (Ok x.t):=(FS w (ae.refl _ _)).tree.ok;have hb3:bz w (w.alloc (.cells #[.int .i64 i] 3)):=bR.alloc nR _;have uj:Hid (fC (w.alloc (.cells #[.int .i64 i] 3)) ms (fun j=>Sn j∨j∈([]:List Int))):=(hm.below hb3).as fun j=>by simp
 have HT3:Hid (ae (fun q=>q=ms) (fun q=>q=ms) w (w.alloc (.cells #[.int .i64 i] 3))):=ae.below hb3;have HO3:Hid (aP (w.alloc (.cells #[.int .i64 i] 3)) w.heap.size (.slice (some ⟨w.heap.size,0,none⟩) [i].length 1) [i]):=ak.lit (T:=3) (enc:=ic) ig w [i] nR (by unfold maxLen;simp);have JK:Hid (BO x.t Sn i 0 [i] []):=BO.start hi;have HMB:Hid (ms<w.heap.size):=hm.inside;clear FS hn hs hi hm hb3;go_enter func100,ntmps100;go_wp2_with ((with_reducible refine gB ?_);refine iT _ _ _ rfl rfl (by simp[go_sem]) (vz i _) ?_)
 go_loopw [9,8,7] (fun x9 x8 x7 wr=>∃(k:Nat) (A:Option Addr) (c:Nat) (nx:List Int) (B:Option Addr) (d:Nat) (row:List Int),x9=.int .i64 k∧x8=.slice A nx.length c∧x7=.slice B row.length d∧Hid (aP wr w.heap.size (.slice A nx.length c) nx)∧Hid (aP wr w.heap.size (.slice B row.length d) row)∧Hid (ApV (.slice A nx.length c) (.slice B row.length d))∧Hid (fC wr ms (fun j=>Sn j∨j∈row))∧Hid (ae (fun q=>q=ms) (fun q=>q=ms) w wr)∧Hid (BO x.t Sn i k nx row)) (fun x9 _ _ _=>x.t.length+2 - (intOf x9).toNat)
 case atStart=>exact⟨0,_,1,[i],none,0,[],rfl,rfl,rfl,HO3.o,ak.nil _ _,(fun k _ e=>nomatch e),uj.o,HT3.o,JK.o⟩
 case round=>
  obtain⟨k,A,c,nx,B,d,row,rfl,rfl,rfl,HO,HR,HA,HM,HT,HU⟩:=hrel;generalize wr=wA at*;clear HO3 uj HT3 JK;have XT:Hid (nx.length<=x.t.length+1):=HU.o.len;have hll:(nx.length:Int)<=100000:=by have:=XT.o;have:=HN.o;omega
  by_cases hlt:k<nx.length
  ·have hkb:(k:Int)<=100000:=by omega
   have Z4:Hid (k<x.t.length+1):=by have:=XT.o;show _<_;omega
   have t1:decide (k<nx.length)=true:=by simpa using hlt
   have dV:=Hd hlt;obtain⟨A',c',ev,-,-,hrow⟩:=aP.kE HO.o;obtain⟨lb,lo,eA,hcell⟩:=hrow.at_ hlt;have ec:A'=A:=by injection ev with e1 _ _;exact e1.symm
   subst ec;subst eA;unfold eI at hcell;have hmem:nx[k]∈nx:=List.getElem_mem hlt;have HY:Hid (has x.t nx[k]=true):=(HU.o.deep _ hmem).1;have HSK:Hid (Sn nx[k]->BO x.t Sn i (k+1) nx row):=HU.o.skip hlt;have HGO:Hid (¬Sn nx[k]->BO x.t Sn i (k+1) (nx++kids x.t nx[k]) (row++[nx[k]])):=HU.o.go dW.o (aj.1 HI.o) hlt;have HNW:Hid (nx[k]∉row):=HU.o.new hlt;clear ev hrow hmem;generalize nx[k]=y at*;have Xw:Hid (I64 y):=lh dW.o HY.o;obtain⟨q,hlk,hq⟩:=HM.o.look Xw.o;have HQ:Hid (q=true↔Sn y):=hq.trans ⟨fun e=>e.resolve_right HNW.o,.inl⟩;clear hq
   have HDP:Hid (∀j,Sn j∨j∈row->has x.t j=true):=fun j hj=>hj.elim (KF.o j) fun h=>(HU.o.deep _ (List.mem_of_mem_take ((HU.o.sub j).1 h).1)).1
   have qR:Hid (row.length<=x.t.length+1):=by
    have:=dN (m:=nx) HU.o.kS fun j hj=>List.mem_of_mem_take ((HU.o.sub j).1 hj).1;exact Nat.le_trans this XT.o
   go_upto_region 8 with(fail)
   have sN:Hid (bz wA (wA.alloc (.cells #[] 250))):=bR.alloc nR _;generalize wA.alloc (.cells #[] 250)=w7 at*;have xK:=Hd (ak.below HO.o sN.o);have Yy:=Hd (ak.below HR.o sN.o);have JX:=Hd (HM.o.below sN.o);have TR:Hid (ae (fun q=>q=ms) (fun q=>q=ms) w w7):=HT.o.trans (ae.below sN.o);clear hlk hcell HO HR HM HT t1 hlt sN;cases q with
   |true=>
    have HU9:=Hd (HSK.o (HQ.o.1 rfl));clear HSK HGO HU;go_wp2_with (fail)
    go_roundw
    case rel=>exact⟨k+1,_,c,nx,B,d,row,by go_num,rfl,rfl,xK,Yy,HA,JX,TR,HU9⟩
    case measure=>have:=Z4.o;simp[intOf];omega
   |false=>
    have HNS:Hid (¬Sn y):=fun e=>by have:=HQ.o.2 e;cases this
    have HU9:=Hd (HGO.o HNS.o);obtain⟨w8,hrun8,hm8,MC⟩:=JX.o.put HDP.o (by have:=HN.o;omega) Xw.o;have HT8:Hid (ae (fun q=>q=ms) (fun q=>q=ms) w w8):=TR.o.trans (ae.grown MC fun k e=>(Option.some.inj e).symm)
    have HO8:Hid (aP w8 w.heap.size (.slice (some ⟨lb,lo,none⟩) nx.length c) nx):=ak.stays xK.o fun e he=>MC.block e (ak.block xK.o he).2 fun h=>by
     have h1:=Option.some.inj h;have h2:=(ak.block xK.o he).1;have h3:=HMB.o;omega
    have HR8:Hid (aP w8 w.heap.size (.slice B row.length d) row):=ak.stays Yy.o fun e he=>MC.block e (ak.block Yy.o he).2 fun h=>by
     have h1:=Option.some.inj h;have h2:=(ak.block Yy.o he).1;have h3:=HMB.o;omega
    have HM8:Hid (fC w8 ms (fun j=>Sn j∨j∈row++[y])):=hm8.as fun j=>by simp[or_assoc]
    clear hm8 MC HSK HGO HU HQ JX xK Yy TR HDP
    go_upto_region 10 with(fail)
    clear hrun8;obtain⟨v9,w9,hrun,L9,jA,Yt⟩:=Pz HR8.o y (c:=1) (by have:=qR.o;have:=HN.o;omega) HT8.o.size;have lU:ae (Ow (.slice B row.length d)) (Ow (.slice B row.length d)) w8 w9:=(ae.below (bR.alloc nR _)).trans (ae.grown jA fun k hk=>hk);have ZI:Hid (ae (fun q=>q=ms) (fun q=>q=ms) w w9):=HT8.o.own lU fun k hk=>(ak.block HR8.o hk).1;have ZU:Hid (aP w9 w.heap.size (.slice (some ⟨lb,lo,none⟩) nx.length c) nx):=ak.apart HO8.o HA.o lU
    have GY:Hid (fC w9 ms (fun j=>Sn j∨j∈row++[y])):=HM8.o.stays (lU.far ms HM8.o.inside fun e=>by
     have h2:=(ak.block HR8.o e).1;have h3:=HMB.o
     omega).2
    obtain⟨B9,d9,rfl,-,-,-⟩:=ak.row L9 ig;have Du:=Hd L9
    have HA9:Hid (ApV (.slice (some ⟨lb,lo,none⟩) nx.length c) (.slice B9 (row++[y]).length d9)):=fun k hk e=>by
     rcases Yt with h|h
     ·exact HA.o k hk (h ▸ e)
     ·have h1:=Option.some.inj (h.symm.trans e);have h2:=(ak.block HO8.o hk).2;omega
    clear L9 jA Yt lU HT8 HO8 HR8 HM8 HA
    go_upto_region 11 with(first|((with_reducible refine gB ?_);refine iT _ _ _ rfl rfl (by simp[go_sem]) (vz y _) ?_)|(at_builtin;refine bg rfl _ _ 35 35 35 rfl rfl _ _ _ _ rfl rfl hrun ?_;clear hrun))
    have xR:=Hd (Un (J9.o w9 ZI.o).tree (by have:=HN.o;omega) y Xw.o);unfold oU at xR;obtain⟨⟨c0,-,-,-,-,-⟩,i0⟩:=(J9.o w9 ZI.o).top;have hinv:=AL (.pointer (some ⟨b,0,none⟩));go_wp2_with (fail);refine xR.o.mono ?_;rintro e w10 ⟨kv,rfl,a1n,V5⟩;obtain⟨KA,KC,rfl,-,-,-⟩:=ak.row a1n ig;have a14:Hid (ae (fun q=>q=ms) (fun q=>q=ms) w w10):=ZI.o.trans (ae.below V5);have ZV:=Hd (ak.below ZU.o V5);have Gp:=Hd (ak.below Du.o V5);have NT:=Hd (GY.o.below V5)
    obtain⟨v11,uf,hrun,a1m,a3C,a3w⟩:=Xe ZV.o a1n (by have:=gJ x.t y;have:=XT.o;have:=HN.o;omega) a14.o.size;have Zb:ae (Ow (.slice (some ⟨lb,lo,none⟩) nx.length c)) (Ow (.slice (some ⟨lb,lo,none⟩) nx.length c)) w10 uf:=ae.grown a3C fun k hk=>hk;have a1Z:Hid (ae (fun q=>q=ms) (fun q=>q=ms) w uf):=a14.o.own Zb fun k hk=>(ak.block ZV.o hk).1;have nC:Hid (aP uf w.heap.size (.slice B9 (row++[y]).length d9) (row++[y])):=ak.apart Gp.o (fun k hk e=>HA9.o k e hk) Zb
    have a2g:Hid (fC uf ms (fun j=>Sn j∨j∈row++[y])):=NT.o.stays (Zb.far ms NT.o.inside fun e=>by
     have h2:=(ak.block ZV.o e).1;have h3:=HMB.o
     omega).2
    obtain⟨A11,c11,rfl,-,-,-⟩:=ak.row a1m ig;have a6g:=Hd a1m
    have a6I:Hid (ApV (.slice A11 (nx++kids x.t y).length c11) (.slice B9 (row++[y]).length d9)):=fun k hk e=>by
     rcases a3w with h|h
     ·exact HA9.o k (h ▸ hk) e
     ·have h1:=Option.some.inj (h.symm.trans hk);have h2:=(ak.block Gp.o e).2;omega
    clear a1n V5 a1m a3C a3w Zb a14 ZV Gp NT ZI ZU Du GY HA9 xR c0 i0 hinv;go_wp2_with (at_builtin;refine bg rfl _ _ 35 35 35 rfl rfl _ _ _ _ rfl rfl hrun ?_;clear hrun)
    go_roundw
    case rel=>exact⟨k+1,A11,c11,nx++kids x.t y,B9,d9,row++[y],by go_num,by simp,by simp,a6g,nC,a6I,a2g,a1Z,HU9⟩
    case measure=>have:=Z4.o;simp[intOf];omega
  ·have t1:decide (k<nx.length)=false:=by simpa using hlt
   have HKK:Hid (nx.length<=k):=Nat.le_of_not_lt hlt;clear hlt;go_wp2_with (fail);go_ret;exact⟨B,d,row,nx,k,rfl,HR.o,HU.o,HKK.o,HM.o,HT.o⟩
end
end
end Go.Proofs.YthmegninhpihkaaGreat
