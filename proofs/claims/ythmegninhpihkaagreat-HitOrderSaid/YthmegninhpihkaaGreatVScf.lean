import Derived.Test.YthmegninhpihkaaGreatVScw
set_option maxHeartbeats 16000000
set_option maxRecDepth 100000
open Go.Proofs.Tryz
namespace Go.Proofs.YthmegninhpihkaaGreat
section
open Go.RowKit fG gm aF Go.Maps
structure Ar(t:T)(Sn:Int->Prop)(i:Int)(k:Nat)(next row:List Int):Prop where
 nx:next=i::row.flatMap (kids t)
 sub:∀j,j∈row↔j∈next.take k∧¬Sn j
 le:k<=next.length
 nd:next.Nodup
 lG:row.Nodup
 deep:∀j∈next,has t j=true∧depth t i<=depth t j
 inw:∀j∈next,j=i∨within t j i=true
 up:∀v (hv:v<row.length),v=0∨par t row[v]∈row.take v
theorem Ar.start{t:T}{Sn:Int->Prop}{i:Int}(hi:has t i=true):Ar t Sn i 0 [i] []:=
 ⟨rfl,by simp,Nat.zero_le _,by simp,by simp,fun j hj=>by rw[List.mem_singleton.1 hj];exact⟨hi,nR⟩,fun j hj=>.inl (List.mem_singleton.1 hj),fun v hv=>absurd hv (by simp)⟩
section
variable {t:T}{Sn:Int->Prop}{i:Int}{k:Nat}{next row:List Int}
theorem Ar.len(h:Ar t Sn i k next row):next.length<=t.length+1:=by
 have:=dK (m:=0::ids t) h.nd fun x hx=>by
  rcases ah.1 (h.deep x hx).1 with e|e
  ·exact List.mem_cons.2 (.inl e)
  ·exact List.mem_cons_of_mem _ e
 rwa [List.length_cons,Eb]at this
theorem Ar.skip(h:Ar t Sn i k next row)(hk:k<next.length)(hs:Sn next[k]):Ar t Sn i (k+1) next row:=by
 refine⟨h.nx,fun j=>?_,hk,h.nd,h.lG,h.deep,h.inw,h.up⟩;rw[h.sub,List.take_succ_eq_append_getElem hk,List.mem_append,List.mem_singleton];constructor
 ·exact fun h1=>⟨.inl h1.1,h1.2⟩
 ·rintro⟨h1|h1,h2⟩
  ·exact⟨h1,h2⟩
  ·exact absurd (h1 ▸ hs) h2
theorem Ar.new(h:Ar t Sn i k next row)(hk:k<next.length):next[k]∉row:=fun h1=>by
 have h2:=((h.sub _).1 h1).1;obtain⟨u,hu,e⟩:=List.mem_iff_getElem.1 h2;rw[List.getElem_take]at e;have hu2:u<k:=by rw[List.length_take]at hu;omega
 have:=List.pairwise_iff_getElem.1 h.nd u k (by omega) hk hu2;exact this e
theorem Ar.go(ok:Ok t)(hi:i=0∨i∈ids t)(h:Ar t Sn i k next row)(hk:k<next.length)(hs:¬Sn next[k]):Ar t Sn i (k+1) (next++kids t next[k]) (row++[next[k]]):=by
 have hnew:=h.new hk;have hdk:=h.deep _ (List.getElem_mem hk)
 obtain⟨y,hy⟩:=aC (next[k])
 rw[hy]at hs hnew hdk ⊢
 have hfresh:∀c∈kids t y,c∉next:=fun c hc hm=>by
  have hp:=(ok.kid hc).2;have hd:=dU ok hc;rw[h.nx]at hm;rcases List.mem_cons.1 hm with e|e
  ·rw[e]at hd;omega
  ·obtain⟨r,hr,hcr⟩:=List.mem_flatMap.1 e;have:=(ok.kid hcr).2;exact hnew (by rw[←hp,this];exact hr)
 refine⟨by rw[h.nx,List.flatMap_append];simp,fun j=>?_,by rw[List.length_append];omega,?_,?_,fun j hj=>?_,fun j hj=>?_,fun v hv=>?_⟩
 ·rw[List.mem_append,List.mem_singleton,h.sub,List.take_append_of_le_length (by omega),List.take_succ_eq_append_getElem hk,List.mem_append,List.mem_singleton,hy];constructor
  ·rintro(h1|h1)
   ·exact⟨.inl h1.1,h1.2⟩
   ·exact⟨.inr h1,h1 ▸ hs⟩
  ·rintro⟨h1|h1,h2⟩
   ·exact .inl ⟨h1,h2⟩
   ·exact .inr h1
 ·exact List.nodup_append.2 ⟨h.nd,eQ ok.nd y,fun a ha b hb e=>hfresh b hb (e ▸ ha)⟩
 ·exact List.nodup_append.2 ⟨h.lG,by simp,fun a ha b hb e=>hnew (by rw[←List.mem_singleton.1 hb,←e];exact ha)⟩
 ·rcases List.mem_append.1 hj with hj|hj
  ·exact h.deep j hj
  ·exact⟨ah.2 (.inr (ok.kid hj).1),by have:=dU ok hj;omega⟩
 ·rcases List.mem_append.1 hj with hj|hj
  ·exact h.inw j hj
  ·right;obtain⟨h1,h2⟩:=ok.kid hj;rw[aF.within_iff ok h1 hi,h2];exact h.inw y (by rw[←hy];exact List.getElem_mem hk)
 ·by_cases hlt:v<row.length
  ·rw[List.getElem_append_left hlt,List.take_append_of_le_length (by omega)];exact h.up v hlt
  ·rw[List.length_append,List.length_singleton]at hv;obtain rfl:v=row.length:=by omega
   have hym:y∈next:=by rw[←hy];exact List.getElem_mem hk
   simp only[List.getElem_append_right nR,Nat.sub_self,List.getElem_singleton,List.take_left];rw[h.nx]at hym;rcases List.mem_cons.1 hym with e|e
   ·left;cases hr:row with
    |nil=>rfl
    |cons a l=>
     exfalso
     have h0:k=0:=by
      rcases Nat.eq_zero_or_pos k with h0|h0
      ·exact h0
      ·have hz:next[0]'(by omega)=i:=by simp only[h.nx,List.getElem_cons_zero]
       have:=List.pairwise_iff_getElem.1 h.nd 0 k (by omega) hk h0;exact absurd (hz.trans (e.symm.trans hy.symm)) this
     have:=(h.sub a).1 (by rw[hr];exact List.mem_cons_self);rw[h0]at this;simp at this
   ·right;obtain⟨r,hr,hyr⟩:=List.mem_flatMap.1 e;rw[(ok.kid hyr).2];exact hr
theorem Ar.done(ok:Ok t)(h:Ar t Sn i k next row)(hk:next.length<=k)(hcl:∀j,Sn j->∀c∈kids t j,Sn c)(hi:i=0∨i∈ids t)(j:Int):j∈row↔(j=i∨within t j i=true)∧¬Sn j:=by
 have hsub:=h.sub;rw[List.take_of_length_le hk]at hsub;constructor
 ·intro hj;exact⟨h.inw j ((hsub j).1 hj).1,((hsub j).1 hj).2⟩
 ·rintro⟨hj,hs⟩
  obtain⟨n,hn⟩:∃n,depth t j<=n:=⟨_,nR⟩
  induction n generalizing j with
  |zero=>
   rcases hj with rfl|hj
   ·exact(hsub _).2 ⟨by rw[h.nx];exact List.mem_cons_self,hs⟩
   ·have:=iY ok hj;omega
  |succ n ih=>
   rcases hj with rfl|hj
   ·exact(hsub _).2 ⟨by rw[h.nx];exact List.mem_cons_self,hs⟩
   ·have hjj:=(bH hj).1;have hk:=jH hjj;have hp:=(aF.within_iff ok hjj hi).1 hj;have hd:=dU ok hk;have hr:=ih (par t j) hp (fun e=>hs (hcl _ e j hk)) (by omega);exact(hsub j).2 ⟨by rw[h.nx];exact List.mem_cons_of_mem _ (List.mem_flatMap.2 ⟨_,hr,hk⟩),hs⟩
end
end
section
open Go.RowKit fG gm aF Go.Maps
theorem lJ{m:Mp}{op:Int}{cl:Bool}{r:Bx}{lk:Int}(h:Jw m op cl r lk=0):m.right=true∧(0<=op∧op<=255)∧lk=0∧(if cl=true then J8 r=true else r=Bx.o):=by
 unfold Jw at h;by_cases h1:(m.right&&decide (0<=op∧op<=255))=true
 ·rw[if_pos h1]at h;rw[Bool.and_eq_true,decide_eq_true_eq]at h1;refine⟨h1.1,h1.2,?_⟩;by_cases h2:cl=true
  ·rw[if_pos h2]at h ⊢;by_cases h3:J8 r=true
   ·rw[if_pos h3]at h;exact⟨h,h3⟩
   ·rw[if_neg h3]at h;cases h
  ·rw[if_neg h2]at h ⊢;by_cases h3:r=Bx.o
   ·rw[if_pos h3]at h;exact⟨h,h3⟩
   ·rw[if_neg h3]at h;cases h
 ·rw[if_neg h1]at h;cases h
theorem vI{m m':Mp}{op op':Int}{cl cl':Bool}{r r':Bx}{lk lk':Int}(h1:m.right=m'.right)(h2:decide (0<=op∧op<=255)=decide (0<=op'∧op'<=255))(h3:cl=cl'∧r=r'∨((if cl=true then J8 r=true else r=Bx.o)∧(if cl'=true then J8 r'=true else r'=Bx.o)))(h4:lk=lk'):Jw m op cl r lk=Jw m' op' cl' r' lk':=by
 subst h4;unfold Jw;rw[h1,h2];rcases h3 with ⟨rfl,rfl⟩|⟨h5,h6⟩
 ·rfl
 ·have e:∀{c:Bool} {q:Bx},(if c=true then J8 q=true else q=Bx.o)->(if c=true then (if J8 q=true then lk else 11) else (if q=Bx.o then lk else 10))=lk:=fun {c q} h=>by
   by_cases hc:c=true
   ·rw[if_pos hc]at h ⊢;rw[if_pos h]
   ·rw[if_neg hc]at h ⊢;rw[if_pos h]
  rw[e h5,e h6]
theorem vG:Nd.plain.chk=0:=by decide
theorem Ns{n:Nd}(h:n.chk=0)(o:dH):(bT n o).chk=(bT Nd.plain o).chk:=by
 obtain⟨h1,h2,h3,h4⟩:=lJ h;obtain⟨p1,p2,p3,p4⟩:=lJ vG;have d1:n.m.right=Nd.plain.m.right:=h1.trans p1.symm;have d2:decide (0<=n.op∧n.op<=255)=decide (0<=Nd.plain.op∧Nd.plain.op<=255):=(decide_eq_true h2).trans (decide_eq_true p2).symm;have d4:=h3.trans p3.symm;unfold bT Nd.chk;by_cases k4:o.k=4
 ·rw[if_pos k4,if_pos k4];exact vI rfl d2 (.inr ⟨h4,p4⟩) d4
 rw[if_neg k4,if_neg k4];by_cases k5:o.k=5
 ·rw[if_pos k5,if_pos k5];exact vI d1 d2 (.inl ⟨rfl,rfl⟩) d4
 rw[if_neg k5,if_neg k5];by_cases k6:o.k=6
 ·rw[if_pos k6,if_pos k6];exact vI d1 rfl (.inr ⟨h4,p4⟩) d4
 rw[if_neg k6,if_neg k6];by_cases k7:o.k=7
 ·rw[if_pos k7,if_pos k7];exact vI d1 d2 (.inr ⟨h4,p4⟩) rfl
 rw[if_neg k7,if_neg k7];by_cases k8:o.k=8
 ·rw[if_pos k8,if_pos k8];exact vI d1 d2 (.inr ⟨h4,p4⟩) d4
 rw[if_neg k8,if_neg k8];exact vI d1 d2 (.inr ⟨h4,p4⟩) d4
def Good(x:aJ):Prop:=∀i,(x.nd i).chk=0
theorem Good.m{x:aJ}(h:Good x)(i:Int):(x.nd i).m.right=true:=(lJ (h i)).1
theorem TS{M:Int}{x:aJ}(h:Good x)(o:dH):Good (eU M x o).1:=by
 by_cases hz:(eU M x o).2≠0
 ·rw[uq hz];exact h
 unfold eU at hz ⊢;by_cases h1:o.k=1
 ·rw[if_pos h1];unfold dV;split
  ·exact h
  ·split
   ·exact h
   ·exact xX (P:=fun n:Nd=>n.chk=0) (f:=x.nd) h vG
 rw[if_neg h1]at hz ⊢;by_cases h2:o.k=2
 ·rw[if_pos h2];unfold fJ;split<;>exact h
 rw[if_neg h2]at hz ⊢;by_cases h3:o.k=3
 ·rw[if_pos h3];unfold lK;split<;>exact h
 rw[if_neg h3]at hz ⊢;by_cases h4:4<=o.k∧o.k<=8
 ·rw[if_pos h4]at hz ⊢;unfold kQ at hz ⊢;by_cases e1:has x.t o.i=false
  ·rw[if_pos e1];exact h
  rw[if_neg e1]at hz ⊢;by_cases e2:(bT Nd.plain o).chk≠0
  ·rw[if_pos e2];exact h
  rw[if_neg e2];refine xX (P:=fun n:Nd=>n.chk=0) (f:=x.nd) h ?_;have:=Ns (h o.i) o;rw[this]
  simpa using e2
 ·rw[if_neg h4];exact h
theorem nT{M:Int}:∀(l:List dH) {x:aJ},Good x->Good (aO M x l).1
 |[],_,h=>h
 |o::l,x,h=>by
  rw[bW];split
  ·exact h
  ·exact nT l (TS h o)
theorem zZ{l:List Int}(h:iE l=true):bY (jO l)=true:=by
 unfold iE at h;rw[Bool.and_eq_true,Bool.and_eq_true,decide_eq_true_eq]at h;rw[(Em h.1 h.2.1 h.2.2).1];exact h.2.2
theorem rW{m:Mp}{p:Pt}(h:m.takes p=true):bY (m.take p).x=true∧bY (m.take p).y=true:=by
 unfold Mp.take;rw[if_pos h];unfold Mp.takes at h;rw[Bool.and_eq_true]at h;exact⟨zZ h.1,zZ h.2⟩
theorem Fz{m n:Mp}(h:(m.eP [n]).2=0):(m.eP [n]).1.right=true:=by
 unfold Mp.eP at h ⊢;by_cases h1:m.right=true∧[n].all Mp.right=true
 ·rw[if_pos h1]at h ⊢;cases hb:m.iG n with
  |true=>
   have e:m.run [n]=(m.kz n,true):=by unfold Mp.run Mp.run;rw[if_pos hb]
   rw[e];have h2:=hb;unfold Mp.iG at h2;rw[Bool.and_eq_true,Bool.and_eq_true]at h2;obtain⟨a1,a2⟩:=rW h2.1.1;obtain⟨a3,a4⟩:=rW h2.1.2;obtain⟨a5,a6⟩:=rW h2.2;unfold Mp.right Mp.l dO Mp.kz;simp[a1,a2,a3,a4,a5,a6]
  |false=>
   have e:m.run [n]=(Mp.o,false):=by unfold Mp.run;rw[if_neg (by rw[hb];simp)]
   rw[e]at h;simp at h
 ·rw[if_neg h1]at h;simp at h
theorem Ri{m n:Mp}(h1:m.right=true)(h2:n.right=true):(m.eP [n]).2=0∨(m.eP [n]).2=35:=by
 unfold Mp.eP;rw[if_pos ⟨h1,by simp[h2]⟩];simp only;split
 ·exact .inl rfl
 ·exact .inr rfl
theorem mF{t:T}{nd:Int->Nd}(ok:Ok t)(h:∀i,(nd i).m.right=true){i:Int}(hi:i=0∨i∈ids t):∀q,aN t nd i=some q->q.right=true:=by
 refine ok.pV (P:=fun i=>∀q,aN t nd i=some q->q.right=true) (fun q hq=>?_) (fun i hi ih q hq=>?_) hi
 ·rw[jQ]at hq;rw[←Option.some.inj hq];exact h 0
 ·rw[kM ok nd hi]at hq;unfold LJ at hq;cases hw:aN t nd (par t i) with
  |none=>rw[hw]at hq;cases hq
  |some u=>
   rw[hw,Option.bind_some]at hq;by_cases hz:((nd i).m.eP [u]).2=0
   ·rw[if_pos hz]at hq;rw[←Option.some.inj hq];exact Fz hz
   ·rw[if_neg hz]at hq;cases hq
theorem Ar.first{t:T}{Sn:Int->Prop}{i:Int}{k:Nat}{next row:List Int}(ok:Ok t)(h:Ar t Sn i k next row)(hk:next.length<=k)(hcl:∀j,Sn j->∀c∈kids t j,Sn c)(hi:i=0∨i∈ids t)(h0:0<row.length):row[0]=i:=by
 have hd:=h.done ok hk hcl hi
 have hns:¬Sn i:=fun e=>by
  have hall:∀n j,depth t j<=n->(j=i∨within t j i=true)->Sn j:=fun n=>by
   induction n with
   |zero=>
    rintro j hj (rfl|hw)
    ·exact e
    ·have:=iY ok hw;omega
   |succ n ih=>
    rintro j hj (rfl|hw)
    ·exact e
    ·have hjj:=(bH hw).1;have hk:=jH hjj;exact hcl _ (ih (par t j) (by have:=dU ok hk;omega) ((aF.within_iff ok hjj hi).1 hw)) j hk
  have h1:=(hd row[0]).1 (List.getElem_mem h0);exact h1.2 (hall _ _ nR h1.1)
 obtain⟨v,hv,e⟩:=List.mem_iff_getElem.1 ((hd i).2 ⟨.inl rfl,hns⟩);rcases h.up v hv with rfl|h2
 ·exact e
 ·rw[e]at h2;have h3:=(h.sub _).1 (List.mem_of_mem_take h2);have h4:=h.deep _ (List.mem_of_mem_take h3.1);rcases hi with rfl|hi
  ·have:par t 0=-1:=par_none fun e=>ok.uK e rfl;rw[this]at h4;rcases ah.1 h4.1 with e|e
   ·cases e
   ·obtain⟨q,hq⟩:=bg.1 e;have:=(ok.Rw _ hq).1;simp at this
  ·have:=bP ok hi;omega
structure uM(t:T)(Tc:Int->Prop)(rows:List (List Int))(Sn:Int->Prop):Prop where
 mem:∀j,Sn j↔∃r∈rows,j∈r
 cl:∀j,Sn j->∀c∈kids t j,Sn c
 hs:∀j,Sn j->has t j=true
 tc:∀j,Tc j->has t j=true->Sn j
 nd:rows.reverse.flatten.Nodup
 up:∀pre x post,rows.reverse.flatten=pre++x::post->x=0∨par t x∈pre∨¬Sn (par t x)
theorem uM.start(t:T):uM t (fun _=>False) [] (fun _=>False):=
 ⟨fun j=>by simp,fun _ h=>h.elim,fun _ h=>h.elim,fun _ h=>h.elim,by simp,fun pre x post h=>by simp at h⟩
theorem uM.YG{t:T}{Tc Tc':Int->Prop}{rows:List (List Int)}{Sn:Int->Prop}(h:uM t Tc rows Sn)(hs:∀j,Tc' j->has t j=true->Tc j):uM t Tc' rows Sn:=⟨h.mem,h.cl,h.hs,fun j hj hh=>h.tc j (hs j hj hh) hh,h.nd,h.up⟩
theorem uM.add{t:T}{Tc Tc':Int->Prop}{rows:List (List Int)}{Sn Sn':Int->Prop}(ok:Ok t)(h:uM t Tc rows Sn){i:Int}{k:Nat}{next row:List Int}(hi:has t i=true)(u:Ar t Sn i k next row)(hk:next.length<=k)(hT:∀j,Tc' j->Tc j∨j=i)(hS:∀j,Sn' j↔Sn j∨j∈row):uM t Tc' (rows++[row]) Sn':=by
 have hi':=ah.1 hi;have hd:=u.done ok hk h.cl hi'
 have hcl':∀j,Sn j∨j∈row->∀c∈kids t j,Sn c∨c∈row:=fun j hj c hc=>by
  by_cases hsn:Sn c
  ·exact .inl hsn
  ·right;rcases hj with hj|hj
   ·exact absurd (h.cl j hj c hc) hsn
   ·refine(hd c).2 ⟨.inr ?_,hsn⟩;obtain⟨h1,h2⟩:=ok.kid hc;rw[aF.within_iff ok h1 hi',h2];exact((hd j).1 hj).1
 have hhs:∀j,Sn j∨j∈row->has t j=true:=fun j hj=>by
  rcases hj with hj|hj
  ·exact h.hs j hj
  ·rcases((hd j).1 hj).1 with rfl|h2
   ·exact hi
   ·exact ah.2 (.inr (bH h2).1)
 refine⟨fun j=>?_,fun j hj c hc=>(hS c).2 (hcl' j ((hS j).1 hj) c hc),fun j hj=>hhs j ((hS j).1 hj),fun j hj hh=>(hS j).2 ?_,?_,fun pre x post e=>?_⟩
 ·rw[hS,h.mem];simp only[List.mem_append,List.mem_singleton];constructor
  ·rintro(⟨r,h1,h2⟩|h1)
   ·exact⟨r,.inl h1,h2⟩
   ·exact⟨row,.inr rfl,h1⟩
  ·rintro⟨r,h1|rfl,h2⟩
   ·exact .inl ⟨r,h1,h2⟩
   ·exact .inr h2
 ·rcases hT j hj with h1|rfl
  ·exact .inl (h.tc j h1 hh)
  ·by_cases hsn:Sn j
   ·exact .inl hsn
   ·exact .inr ((hd j).2 ⟨.inl rfl,hsn⟩)
 ·rw[List.reverse_append,List.reverse_singleton,List.singleton_append,List.flatten_cons,List.nodup_append];refine⟨u.lG,h.nd,fun a ha b hb e=>?_⟩;subst e;rw[List.mem_flatten]at hb;obtain⟨r,h1,h2⟩:=hb;exact((hd a).1 ha).2 ((h.mem a).2 ⟨r,List.mem_reverse.1 h1,h2⟩)
 ·rw[List.reverse_append,List.reverse_singleton,List.singleton_append,List.flatten_cons]at e;by_cases hx0:x=0
  ·exact .inl hx0
  right;rcases List.append_eq_append_iff.1 e with ⟨m,e1,e2⟩|⟨m,e1,e2⟩
  ·-- pre=row++m
   have hq:=h.up m x post e2;rcases hq with hq|hq|hq
   ·exact absurd hq hx0
   ·left;rw[e1];exact List.mem_append_right _ hq
   ·by_cases hr:par t x∈row
    ·left;rw[e1];exact List.mem_append_left _ hr
    ·right;rw[hS];exact fun h9=>h9.elim hq hr
  ·-- row=pre++m,x::post=m++old
   cases m with
   |nil=>
    rw[List.append_nil]at e1;rw[List.nil_append]at e2;rcases h.up [] x post (by simpa using e2.symm) with hq|hq|hq
    ·exact absurd hq hx0
    ·cases hq
    ·by_cases hr:par t x∈row
     ·left;rw[←e1];exact hr
     ·right;rw[hS];exact fun h9=>h9.elim hq hr
   |cons y m=>
    rw[List.cons_append]at e2
    injection e2 with e3 e4
    subst e3;have hlen:pre.length<row.length:=by rw[e1];simp
    have hx:row[pre.length]=x:=by simp only[e1,List.getElem_append_right nR,Nat.sub_self,List.getElem_cons_zero]
    have htk:row.take pre.length=pre:=by rw[e1,List.take_left]
    rcases u.up pre.length hlen with h0|h2
    ·have hf:=u.first ok hk h.cl hi' (by omega);have hxi:x=i:=by rw[←hx,←hf];simp only[h0]
     subst hxi;have hxx:=hi'.resolve_left hx0;have hkx:=jH hxx;have hxr:x∈row:=by rw[e1];simp
     right;rw[hS];rintro(h9|h9)
     ·exact((hd x).1 hxr).2 (h.cl _ h9 x hkx)
     ·have h3:=(u.sub _).1 h9;have h4:=u.deep _ (List.mem_of_mem_take h3.1);have:=bP ok hxx;omega
    ·left;rw[hx,htk]at h2;exact h2
structure NV(x:aJ)(pre:List Int)(fr:Int->Option Mp):Prop where
 yes:∀j∈pre,fr j=aN x.t x.nd j∧(fr j).isSome=true
 no:∀j,j∉pre->fr j=none
theorem NV.start(x:aJ):NV x [] (fun _=>none):=⟨fun _ h=>(nomatch h),fun _ _=>rfl⟩
theorem MN{t:T}(ok:Ok t){Sn:Int->Prop}(hcl:∀j,Sn j->∀c∈kids t j,Sn c){p:Int}(hp:p=0∨p∈ids t):(∃j∈line t p,Sn j)∨Sn 0->Sn p:=by
 refine ok.pV (P:=fun p=>(∃j∈line t p,Sn j)∨Sn 0->Sn p) (fun h=>?_) (fun i hi ih h=>?_) hp
 ·rcases h with ⟨j,hj,_⟩|h
  ·rw[kJ]at hj;cases hj
  ·exact h
 ·rw[dJ ok hi]at h;rcases h with ⟨j,hj,hs⟩|h
  ·rcases List.mem_cons.1 hj with e|hj
   ·exact e ▸ hs
   ·exact hcl _ (ih (.inl ⟨j,hj,hs⟩)) i (jH hi)
  ·exact hcl _ (ih (.inr h)) i (jH hi)
theorem uM.rest{x:aJ}{Tc:Int->Prop}{rows:List (List Int)}{Sn:Int->Prop}(ok:Ok x.t)(h:uM x.t Tc rows Sn)(hs:dC x Tc){p:Int}(hp:has x.t p=true)(hn:¬Sn p):aN x.t x.nd p=some (x.ws p):=by
 have hp':=ah.1 hp;refine hs p hp (fun j hj ht=>hn (MN ok h.cl hp' (.inl ⟨j,hj,h.tc j ht (ah.2 (.inr (tY ok hp' hj)))⟩))) fun ht=>hn (MN ok h.cl hp' (.inr (h.tc 0 ht (ah.2 (.inl rfl)))))
theorem NV.step{x:aJ}{Tc:Int->Prop}{rows:List (List Int)}{Sn:Int->Prop}(ok:Ok x.t)(hg:Good x)(h:uM x.t Tc rows Sn)(hs:dC x Tc){pre post:List Int}{i:Int}{fr:Int->Option Mp}(hf:NV x pre fr)(e:rows.reverse.flatten=pre++i::post) :
  ((gu x fr i).2=0∧NV x (pre++[i]) (upd fr i (some (gu x fr i).1)))∨((gu x fr i).2=35∧has x.t i=true∧aN x.t x.nd i=none):=by
 have hmem:∀j,Sn j↔j∈rows.reverse.flatten:=fun j=>by
  rw[h.mem,List.mem_flatten];exact⟨fun⟨r,h1,h2⟩=>⟨r,List.mem_reverse.2 h1,h2⟩,fun⟨r,h1,h2⟩=>⟨r,List.mem_reverse.1 h1,h2⟩⟩
 have hi:has x.t i=true:=h.hs i ((hmem i).2 (by rw[e];simp));have hnd:gX x i=x.nd i:=if_pos hi
 have hfin:∀q,aN x.t x.nd i=some q->NV x (pre++[i]) (upd fr i (some q)):=fun q hq=>by
  refine⟨fun j hj=>?_,fun j hj=>?_⟩
  ·by_cases ej:j=i
   ·rw[ej,upd_same];exact⟨hq.symm,rfl⟩
   ·rw[upd_ne _ ej];rcases List.mem_append.1 hj with h1|h1
    ·exact hf.yes j h1
    ·exact absurd (List.mem_singleton.1 h1) ej
  ·have ej:j≠i:=fun ej=>hj (by rw[ej];simp);rw[upd_ne _ ej];exact hf.no j fun h1=>hj (List.mem_append_left _ h1)
 by_cases h0:i=0
 ·subst h0;left;have er:gu x fr 0=((x.nd 0).m,0):=by unfold gu;rw[if_pos rfl,hnd]
  rw[er];exact⟨rfl,hfin _ (jQ _ _)⟩
 have hii:=(ah.1 hi).resolve_left h0;have hp:=ok.fQ hii
 have hpw:aN x.t x.nd (par x.t i)=some ((fr (par x.t i)).getD (fZ x (par x.t i))):=by
  by_cases hpp:par x.t i∈pre
  ·obtain⟨h1,h2⟩:=hf.yes _ hpp;rw[←h1];obtain⟨q,hq⟩:=Option.isSome_iff_exists.1 h2;rw[hq];rfl
  ·rw[hf.no _ hpp];rcases h.up pre i post e with h1|h1|h1
   ·exact absurd h1 h0
   ·exact absurd h1 hpp
   ·rw[uM.rest ok h hs (ah.2 hp) h1];show _=some (fZ x (par x.t i));rw[show fZ x (par x.t i)=x.ws (par x.t i) from if_pos (ah.2 hp)]
 have er:gu x fr i=(x.nd i).m.eP [(fr (par x.t i)).getD (fZ x (par x.t i))]:=by unfold gu;rw[if_neg h0,hnd]
 rw[er];generalize (fr (par x.t i)).getD (fZ x (par x.t i))=u at*;have hur:=mF ok hg.m hp u hpw
 have hw:aN x.t x.nd i=if ((x.nd i).m.eP [u]).2=0 then some ((x.nd i).m.eP [u]).1 else none:=by
  rw[kM ok _ hii,hpw];rfl
 rcases Ri (hg.m i) hur with hz|hz
 ·rw[if_pos hz]at hw;exact .inl ⟨hz,hfin _ hw⟩
 ·rw[if_neg (by rw[hz];decide)]at hw;exact .inr ⟨hz,hi,hw⟩
noncomputable def setSt (x:aJ):aJ×Int:=open Classical in if ∀i,has x.t i=true->aN x.t x.nd i≠none then (⟨x.t,x.nd,fun i=>(aN x.t x.nd i).getD (x.ws i)⟩,0) else (x,35)
theorem CB{x:aJ}{i:Int}(h:has x.t i=true)(hw:aN x.t x.nd i=none):setSt x=(x,35):=by
 unfold setSt;rw[if_neg fun e=>e i h hw]
theorem Om{x:aJ}(h:(setSt x).2≠0):(setSt x).1=x:=by
 unfold setSt at h ⊢;split
 ·rename_i h1
  rw[if_pos h1]at h;exact absurd rfl h
 ·rfl
theorem NV.done{x:aJ}{Tc:Int->Prop}{rows:List (List Int)}{Sn:Int->Prop}(ok:Ok x.t)(h:uM x.t Tc rows Sn)(hs:dC x Tc){fr:Int->Option Mp}(hf:NV x rows.reverse.flatten fr) :
  setSt x=(⟨x.t,x.nd,fun i=>(aN x.t x.nd i).getD (x.ws i)⟩,0)∧∀i,has x.t i=true->(aN x.t x.nd i).getD (x.ws i)=(fr i).getD (x.ws i):=by
 have hmem:∀j,Sn j↔j∈rows.reverse.flatten:=fun j=>by
  rw[h.mem,List.mem_flatten];exact⟨fun⟨r,h1,h2⟩=>⟨r,List.mem_reverse.2 h1,h2⟩,fun⟨r,h1,h2⟩=>⟨r,List.mem_reverse.1 h1,h2⟩⟩
 have hall:∀i,has x.t i=true->aN x.t x.nd i=some ((fr i).getD (x.ws i)):=fun i hi=>by
  by_cases hsn:Sn i
  ·obtain⟨h1,h2⟩:=hf.yes i ((hmem i).1 hsn);obtain⟨q,hq⟩:=Option.isSome_iff_exists.1 h2;rw[←h1,hq];rfl
  ·rw[hf.no i fun e=>hsn ((hmem i).2 e)];exact uM.rest ok h hs hi hsn
 refine⟨?_,fun i hi=>by rw[hall i hi];rfl⟩;unfold setSt;rw[if_pos fun i hi=>by rw[hall i hi];simp]
theorem Bo{x:aJ}(h:(setSt x).2=0):dC (setSt x).1 fun _=>False:=by
 unfold setSt at h ⊢;split
 ·rename_i h1
  intro i hi _ _;have h2:=h1 i hi;show aN x.t x.nd i=some ((aN x.t x.nd i).getD (x.ws i));cases hw:aN x.t x.nd i with
  |none=>exact absurd hw h2
  |some q=>rfl
 ·rename_i h1
  rw[if_neg h1]at h;cases h
theorem sU(x:aJ):(setSt x).1.t=x.t:=by unfold setSt;split<;>rfl
theorem sV(x:aJ):(setSt x).1.nd=x.nd:=by unfold setSt;split<;>rfl
end
section
open Go.RowKit fG gm aF Go.Maps
abbrev LX:TypeId:=225
theorem Fq:prog.underlying LX=some (.map 3 250):=underlying225
theorem NW(w:World):(zeroValue 250).run prog w=.ok (.agg #[]) w:=by kernel_rfl
def eX(w:World)(ms:Nat)(Sn:Int->Prop):Prop:=∃es,VM w ms es∧(∀j,omap.look es j≠none↔Sn j)∧∀j v,omap.look es j=some v->v=.agg #[]
section
variable {w w':World}{ms:Nat}{Sn Sn':Int->Prop}
theorem eX.inside(h:eX w ms Sn):ms<w.heap.size:=h.elim fun _ h=>h.1.inside
theorem eX.stays(h:eX w ms Sn)(hb:w'.heap[ms]?=w.heap[ms]?):eX w' ms Sn:=by
 obtain⟨es,h1,h2⟩:=h;exact⟨es,h1.stays hb,h2⟩
theorem eX.below(h:eX w ms Sn)(hb:bz w w'):eX w' ms Sn:=h.stays (hb.block _ h.inside)
theorem eX.as(h:eX w ms Sn)(e:∀j,Sn j↔Sn' j):eX w ms Sn':=by
 obtain⟨es,h1,h2⟩:=h;exact⟨es,h1,fun j=>(h2.1 j).trans (e j),h2.2⟩
theorem eX.look(h:eX w ms Sn){i:Int}(hi:I64 i):∃q,(Instr.lookup LX (.map (some ms)) (.int .i64 i) true).run prog w=.ok (.tuple #[.agg #[],.bool q]) w∧(q=true↔Sn i):=by
 obtain⟨es,h1,h2,h3⟩:=h;have hl:=h1.look_ok Fq (NW w) hi;have h4:=h2 i;have h5:=h3 i;cases hq:omap.look es i with
 |none=>rw[hq]at hl h4;exact⟨false,hl,by simpa using h4⟩
 |some v=>
  rw[hq]at hl h4;rw[h5 v hq]at hl;exact⟨true,hl,by simpa using h4⟩
theorem eX.put(h:eX w ms Sn){t:T}(hs:∀j,Sn j->has t j=true)(hn:t.length<=100000){i:Int}(hi:I64 i) :
  ∃w',(Instr.mapUpdate LX (.map (some ms)) (.int .i64 i) (.agg #[])).run prog w=.ok () w'∧eX w' ms (fun j=>Sn j∨j=i)∧w.grownBy w' (some ms):=by
 obtain⟨es,h1,h2,h3⟩:=h;have hle:=Hf (t:=t) h1.rises fun j hj=>hs j ((h2 j).1 hj);obtain⟨w',hrun,hm,hg⟩:=h1.store Fq hi (.agg #[]) (by have:=iF i (.agg #[]) es;omega);refine⟨w',hrun,⟨_,hm,fun j=>?_,fun j v hv=>?_⟩,hg⟩
 ·rw[omap.dw];by_cases e:j=i
  ·rw[if_pos e];simp[e]
  ·rw[if_neg e,h2];simp[e]
 ·rw[omap.dw]at hv;by_cases e:j=i
  ·rw[if_pos e]at hv;exact(Option.some.inj hv).symm
  ·rw[if_neg e]at hv;exact h3 j v hv
end
def YD(v u:Value):Prop:=∀k,v.ownBlock=some k->u.ownBlock≠some k
theorem ax.apart{α:Type}{T:TypeId}{k:Nat}{enc:α->List Value}{w w':World}{base:Nat}{v u:Value}{l:List α}(h:ax T k enc w base v l)(ha:YD v u)(ht:ae (Ow u) (Ow u) w w'):ax T k enc w' base v l:=h.stays fun g hg=>(ht.far g (h.block hg).2 fun e=>ha g hg e).2
def UnQ(t:T)(ms:Nat)(Sn:Int->Prop)(i:Int)(w:World)(e:Ending)(w':World):Prop:=
 ∃(A:Option Addr) (c:Nat) (row next:List Int) (k:Nat),e=.returned (.slice A row.length c)∧aU w' w.heap.size (.slice A row.length c) row∧Ar t Sn i k next row∧next.length<=k∧eX w' ms (fun j=>Sn j∨j∈row)∧ae (fun q=>q=ms) (fun q=>q=ms) w w'
theorem aV.Gp{α:Type}{k:Nat}{enc:α->List Value}{w:World}{l:List α}(h:aV k enc w none l):l=[]:=by
 cases l with
 |nil=>rfl
 |cons x l=>
  obtain⟨b,off,e,_⟩:=h (by simp);cases e
theorem Ur{w:World}{base b2:Nat}{v u:Value}{l xs:List Int}(h:aU w base v l)(k:aU w b2 u xs)(hn:l.length+xs.length<=1000000)(hb:base<=w.heap.size) :
  ∃v' w',(Builtin.append_ #[35,35] 35 #[v,u]).run prog w=.ok v' w'∧aU w' base v' (l++xs)∧w.grownBy w' v.ownBlock∧(v'.ownBlock=v.ownBlock∨v'.ownBlock=some w.heap.size):=by
 obtain⟨A,c,rfl,-,-,hr⟩:=ax.row k iR;cases A with
 |none=>
  obtain rfl:=aV.Gp hr;obtain⟨A2,c2,rfl,hle,-,-⟩:=ax.row h iR;obtain⟨i,hi,hz,hsize,hby⟩:=info_parts lN;refine⟨.slice A2 l.length c2,w,?_,by simpa using h,World.grownBy.refl _ _,.inl rfl⟩;rw[show(([]:List Int).length)=0 from rfl];cases A2<;>simp[Builtin.append_,run_underlying underlying35,sizeOf,typeInfo,hi,Builtin.lenOf,hle,run_firstCells_none,storeCells]
 |some a=>
  by_cases hx:xs=[]
  ·subst hx;obtain⟨A2,c2,rfl,hle,-,-⟩:=ax.row h iR;obtain⟨i,hi,hz,hsize,hby⟩:=info_parts lN;refine⟨.slice A2 l.length c2,w,?_,by simpa using h,World.grownBy.refl _ _,.inl rfl⟩;rw[show(([]:List Int).length)=0 from rfl];have hf:=run_firstCells_some (P:=prog) w i.size 0 a 0 c [] (by simp) (by simp);cases A2<;>simp[Builtin.append_,run_underlying underlying35,sizeOf,typeInfo,hi,Builtin.lenOf,hle,hf,storeCells,Result.andThen]
  ·obtain⟨b,off,e,-⟩:=hr (List.length_pos_iff.2 hx);obtain rfl:=Option.some.inj e;exact ax.app (P:=prog) underlying35 lN rfl (by decide) (by decide) iR zA h (fun _=>hr) (by omega) hb
theorem uw(z:Int)(w:World):(Instr.buildSlice 35 1 #[(0,.int .i64 z)]).run prog w=.ok (.slice (some ⟨w.heap.size,0,none⟩) 1 1) (w.alloc (.cells #[.int .i64 z] 3)):=by kernel_rfl
section
variable {w:World}{g b m:Nat}{s:Sh}{Z:ZZ}{x:aJ}
theorem rD(ms:Nat)(FS:∀W,ae (fun q=>q=ms) (fun q=>q=ms) w W->ak W g b m s Z x)(hn:x.t.length<=900)(Sn:Int->Prop)(hm:eX w ms Sn)(hs:∀j,Sn j->has x.t j=true)(i:Int)(hi:has x.t i=true) :
  Calls prog 100 #[.pointer (some ⟨g,0,none⟩),.int .i64 i,.map (some ms)] w (UnQ x.t ms Sn i w):=by
 have IQ:=Hd FS;have HN:=Hd hn;have Qo:=Hd hs;have HI:=Hd hi;have dY:Hid (Ok x.t):=(FS w (ae.refl _ _)).tree.ok;have hb3:bz w (w.alloc (.cells #[.int .i64 i] 3)):=bR.alloc nR _;have sK:Hid (eX (w.alloc (.cells #[.int .i64 i] 3)) ms (fun j=>Sn j∨j∈([]:List Int))):=(hm.below hb3).as fun j=>by simp
 have HT3:Hid (ae (fun q=>q=ms) (fun q=>q=ms) w (w.alloc (.cells #[.int .i64 i] 3))):=ae.below hb3;have Zn:Hid (aU (w.alloc (.cells #[.int .i64 i] 3)) w.heap.size (.slice (some ⟨w.heap.size,0,none⟩) [i].length 1) [i]):=ax.lit (T:=3) (enc:=ic) iR w [i] nR (by unfold maxLen;simp);have Ir:Hid (Ar x.t Sn i 0 [i] []):=Ar.start hi;have Zr:Hid (ms<w.heap.size):=hm.inside;clear FS hn hs hi hm hb3;go_enter func100,ntmps100;go_wp2_with ((with_reducible refine gB ?_);refine jv _ _ _ rfl rfl (by simp[go_sem]) (uw i _) ?_)
 go_loopw [9,8,7] (fun x9 x8 x7 wr=>∃(k:Nat) (A:Option Addr) (c:Nat) (nx:List Int) (B:Option Addr) (d:Nat) (row:List Int),x9=.int .i64 k∧x8=.slice A nx.length c∧x7=.slice B row.length d∧Hid (aU wr w.heap.size (.slice A nx.length c) nx)∧Hid (aU wr w.heap.size (.slice B row.length d) row)∧Hid (YD (.slice A nx.length c) (.slice B row.length d))∧Hid (eX wr ms (fun j=>Sn j∨j∈row))∧Hid (ae (fun q=>q=ms) (fun q=>q=ms) w wr)∧Hid (Ar x.t Sn i k nx row)) (fun x9 _ _ _=>x.t.length+2 - (intOf x9).toNat)
 case atStart=>exact⟨0,_,1,[i],none,0,[],rfl,rfl,rfl,Zn.o,ax.nil _ _,(fun k _ e=>nomatch e),sK.o,HT3.o,Ir.o⟩
 case round=>
  obtain⟨k,A,c,nx,B,d,row,rfl,rfl,rfl,HO,HR,HA,HM,HT,HU⟩:=hrel;generalize wr=wA at*;clear Zn sK HT3 Ir;have U0:Hid (nx.length<=x.t.length+1):=HU.o.len;have hll:(nx.length:Int)<=100000:=by have:=U0.o;have:=HN.o;omega
  by_cases hlt:k<nx.length
  ·have hkb:(k:Int)<=100000:=by omega
   have Ya:Hid (k<x.t.length+1):=by have:=U0.o;show _<_;omega
   have t1:decide (k<nx.length)=true:=by simpa using hlt
   have gQ:=Hd hlt;obtain⟨A',c',ev,-,-,hrow⟩:=aU.lM HO.o;obtain⟨lb,lo,eA,hcell⟩:=hrow.at_ hlt;have ec:A'=A:=by injection ev with e1 _ _;exact e1.symm
   subst ec;subst eA;unfold eI at hcell;have hmem:nx[k]∈nx:=List.getElem_mem hlt;have HY:Hid (has x.t nx[k]=true):=(HU.o.deep _ hmem).1;have HSK:Hid (Sn nx[k]->Ar x.t Sn i (k+1) nx row):=HU.o.skip hlt;have HGO:Hid (¬Sn nx[k]->Ar x.t Sn i (k+1) (nx++kids x.t nx[k]) (row++[nx[k]])):=HU.o.go dY.o (ah.1 HI.o) hlt;have HNW:Hid (nx[k]∉row):=HU.o.new hlt;clear ev hrow hmem;generalize nx[k]=y at*;have UG:Hid (I64 y):=mX dY.o HY.o;obtain⟨q,hlk,hq⟩:=HM.o.look UG.o;have HQ:Hid (q=true↔Sn y):=hq.trans ⟨fun e=>e.resolve_right HNW.o,.inl⟩;clear hq
   have HDP:Hid (∀j,Sn j∨j∈row->has x.t j=true):=fun j hj=>hj.elim (Qo.o j) fun h=>(HU.o.deep _ (List.mem_of_mem_take ((HU.o.sub j).1 h).1)).1
   have qU:Hid (row.length<=x.t.length+1):=by
    have:=dK (m:=nx) HU.o.lG fun j hj=>List.mem_of_mem_take ((HU.o.sub j).1 hj).1;exact Nat.le_trans this U0.o
   go_upto_region 8 with(fail)
   have sN:Hid (bz wA (wA.alloc (.cells #[] 250))):=bR.alloc nR _;generalize wA.alloc (.cells #[] 250)=w7 at*;have wJ:=Hd (ax.below HO.o sN.o);have V5:=Hd (ax.below HR.o sN.o);have IE:=Hd (HM.o.below sN.o);have QQ:Hid (ae (fun q=>q=ms) (fun q=>q=ms) w w7):=HT.o.trans (ae.below sN.o);clear hlk hcell HO HR HM HT t1 hlt sN;cases q with
   |true=>
    have HU9:=Hd (HSK.o (HQ.o.1 rfl));clear HSK HGO HU;go_wp2_with (fail)
    go_roundw
    case rel=>exact⟨k+1,_,c,nx,B,d,row,by go_num,rfl,rfl,wJ,V5,HA,IE,QQ,HU9⟩
    case measure=>have:=Ya.o;simp[intOf];omega
   |false=>
    have HNS:Hid (¬Sn y):=fun e=>by have:=HQ.o.2 e;cases this
    have HU9:=Hd (HGO.o HNS.o);obtain⟨w8,hrun8,hm8,JQ⟩:=IE.o.put HDP.o (by have:=HN.o;omega) UG.o;have HT8:Hid (ae (fun q=>q=ms) (fun q=>q=ms) w w8):=QQ.o.trans (ae.grown JQ fun k e=>(Option.some.inj e).symm)
    have HO8:Hid (aU w8 w.heap.size (.slice (some ⟨lb,lo,none⟩) nx.length c) nx):=ax.stays wJ.o fun e he=>JQ.block e (ax.block wJ.o he).2 fun h=>by
     have h1:=Option.some.inj h;have h2:=(ax.block wJ.o he).1;have h3:=Zr.o;omega
    have HR8:Hid (aU w8 w.heap.size (.slice B row.length d) row):=ax.stays V5.o fun e he=>JQ.block e (ax.block V5.o he).2 fun h=>by
     have h1:=Option.some.inj h;have h2:=(ax.block V5.o he).1;have h3:=Zr.o;omega
    have HM8:Hid (eX w8 ms (fun j=>Sn j∨j∈row++[y])):=hm8.as fun j=>by simp[or_assoc]
    clear hm8 JQ HSK HGO HU HQ IE wJ V5 QQ HDP
    go_upto_region 10 with(fail)
    clear hrun8;obtain⟨v9,w9,hrun,ho9,mZ,VS⟩:=ND HR8.o y (c:=1) (by have:=qU.o;have:=HN.o;omega) HT8.o.size;have lu:ae (Ow (.slice B row.length d)) (Ow (.slice B row.length d)) w8 w9:=(ae.below (bR.alloc nR _)).trans (ae.grown mZ fun k hk=>hk);have XR:Hid (ae (fun q=>q=ms) (fun q=>q=ms) w w9):=HT8.o.own lu fun k hk=>(ax.block HR8.o hk).1;have HO9:Hid (aU w9 w.heap.size (.slice (some ⟨lb,lo,none⟩) nx.length c) nx):=ax.apart HO8.o HA.o lu
    have EZ:Hid (eX w9 ms (fun j=>Sn j∨j∈row++[y])):=HM8.o.stays (lu.far ms HM8.o.inside fun e=>by
     have h2:=(ax.block HR8.o e).1;have h3:=Zr.o
     omega).2
    obtain⟨B9,d9,rfl,-,-,-⟩:=ax.row ho9 iR;have HR9:=Hd ho9
    have HA9:Hid (YD (.slice (some ⟨lb,lo,none⟩) nx.length c) (.slice B9 (row++[y]).length d9)):=fun k hk e=>by
     rcases VS with h|h
     ·exact HA.o k hk (h ▸ e)
     ·have h1:=Option.some.inj (h.symm.trans e);have h2:=(ax.block HO8.o hk).2;omega
    clear ho9 mZ VS lu HT8 HO8 HR8 HM8 HA
    go_upto_region 11 with(first|((with_reducible refine gB ?_);refine jv _ _ _ rfl rfl (by simp[go_sem]) (uw y _) ?_)|(at_builtin;refine bG rfl _ _ 35 35 35 rfl rfl _ _ _ _ rfl rfl hrun ?_;clear hrun))
    have EJ:=Hd (LW (IQ.o w9 XR.o).tree (by have:=HN.o;omega) y UG.o);unfold nU at EJ;obtain⟨⟨c0,-,-,-,-,-⟩,i0⟩:=(IQ.o w9 XR.o).top;have hinv:=ug (.pointer (some ⟨b,0,none⟩));go_wp2_with (fail);refine EJ.o.mono ?_;rintro e w10 ⟨kv,rfl,a0f,TC⟩;obtain⟨KA,KC,rfl,-,-,-⟩:=ax.row a0f iR;have a0M:Hid (ae (fun q=>q=ms) (fun q=>q=ms) w w10):=XR.o.trans (ae.below TC);have X6:=Hd (ax.below HO9.o TC);have a0P:=Hd (ax.below HR9.o TC);have Lm:=Hd (EZ.o.below TC)
    obtain⟨v11,BZ,hrun,a0e,a14,a1V⟩:=Ur X6.o a0f (by have:=gy x.t y;have:=U0.o;have:=HN.o;omega) a0M.o.size;have Xe:ae (Ow (.slice (some ⟨lb,lo,none⟩) nx.length c)) (Ow (.slice (some ⟨lb,lo,none⟩) nx.length c)) w10 BZ:=ae.grown a14 fun k hk=>hk;have a0L:Hid (ae (fun q=>q=ms) (fun q=>q=ms) w BZ):=a0M.o.own Xe fun k hk=>(ax.block X6.o hk).1;have mg:Hid (aU BZ w.heap.size (.slice B9 (row++[y]).length d9) (row++[y])):=ax.apart a0P.o (fun k hk e=>HA9.o k e hk) Xe
    have a0V:Hid (eX BZ ms (fun j=>Sn j∨j∈row++[y])):=Lm.o.stays (Xe.far ms Lm.o.inside fun e=>by
     have h2:=(ax.block X6.o e).1;have h3:=Zr.o
     omega).2
    obtain⟨A11,c11,rfl,-,-,-⟩:=ax.row a0e iR;have a4s:=Hd a0e
    have a4U:Hid (YD (.slice A11 (nx++kids x.t y).length c11) (.slice B9 (row++[y]).length d9)):=fun k hk e=>by
     rcases a1V with h|h
     ·exact HA9.o k (h ▸ hk) e
     ·have h1:=Option.some.inj (h.symm.trans hk);have h2:=(ax.block a0P.o e).2;omega
    clear a0f TC a0e a14 a1V Xe a0M X6 a0P Lm XR HO9 HR9 EZ HA9 EJ c0 i0 hinv;go_wp2_with (at_builtin;refine bG rfl _ _ 35 35 35 rfl rfl _ _ _ _ rfl rfl hrun ?_;clear hrun)
    go_roundw
    case rel=>exact⟨k+1,A11,c11,nx++kids x.t y,B9,d9,row++[y],by go_num,by simp,by simp,a4s,mg,a4U,a0V,a0L,HU9⟩
    case measure=>have:=Ya.o;simp[intOf];omega
  ·have t1:decide (k<nx.length)=false:=by simpa using hlt
   have HKK:Hid (nx.length<=k):=Nat.le_of_not_lt hlt;clear hlt;go_wp2_with (fail);go_ret;exact⟨B,d,row,nx,k,rfl,HR.o,HU.o,HKK.o,HM.o,HT.o⟩
end
end
end Go.Proofs.YthmegninhpihkaaGreat
