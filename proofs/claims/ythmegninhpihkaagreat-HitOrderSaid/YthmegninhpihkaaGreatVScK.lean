import Derived.Test.YthmegninhpihkaaGreatVScE
import Derived.Test.YthmegninhpihkaaGreatVScI
import Derived.BigRegion
set_option maxHeartbeats 16000000
set_option maxRecDepth 100000
open Go.Proofs.Tryz
namespace Go.Proofs.YthmegninhpihkaaGreat
section
open Go.RowKit aF xk Go.Shelf
attribute [local go_sem] Oper.semAt_some
structure KS(S:bF)(A W:World):Prop where
 os:W.os=A.os
 tape:W.tape=A.tape
 output:W.output=A.output
 size:A.heap.size<=W.heap.size
 same:∀k,k<A.heap.size->¬S k->W.heap[k]?=A.heap[k]?
theorem KS.refl(S:bF)(A:World):KS S A A:=⟨rfl,rfl,rfl,nR,fun _ _ _=>rfl⟩
theorem KS.step{S:bF}{A W W':World}(h:KS S A W)(h1:W'.os=W.os)(h2:W'.tape=W.tape)(h3:W'.output=W.output)(h4:W.heap.size<=W'.heap.size)(hs:∀k,k<A.heap.size->¬S k->W'.heap[k]?=W.heap[k]?):KS S A W':=
 ⟨h1.trans h.os,h2.trans h.tape,h3.trans h.output,Nat.le_trans h.size h4,fun k hk hn=>(hs k hk hn).trans (h.same k hk hn)⟩
theorem KS.below{S:bF}{A W W':World}(h:KS S A W)(hb:Below A.heap.size W W'):KS S A W':=h.step hb.os hb.tape hb.output hb.size fun k hk _=>hb.block k hk
theorem KS.grown{S:bF}{A W W':World}{row:Option Nat}(h:KS S A W)(hg:W.grownBy W' row)(hr:∀j,row=some j->A.heap.size<=j∨S j):KS S A W':=h.step hg.os hg.tape hg.output hg.size fun k hk hn=>hg.block k (Nat.lt_of_lt_of_le hk h.size) fun e=>by
 rcases hr k e.symm with h1|h1
 ·omega
 ·exact hn h1
theorem KS.bk{S:bF}{A W W':World}(h:KS S A W)(hb:Bk A.heap.size W W'):KS S A W':=h.below (hb.below nR h.size)
theorem KS.st{S:bF}{T:TypeId->Bool}{n:Nat}{A W W':World}(h:KS S A W)(hs:ST T n W W')(hn:A.heap.size<=n):KS S A W':=h.below (hs.aQ hn h.size)
theorem KS.turn{S S':bF}{A W W':World}(h:KS S A W)(ht:ae S' S' W W')(hs:∀k,k<A.heap.size->S' k->S k):KS S A W':=h.step ht.os ht.tape ht.output ht.size fun k hk hn=>(ht.far k (Nat.lt_of_lt_of_le hk h.size) fun e=>hn (hs k hk e)).2
theorem MapAt.st{w w':World}{m:Nat}{es:L}{T:TypeId->Bool}{n:Nat}(h:MapAt w m es)(hs:ST T n w w'):MapAt w' m es:=by
 obtain⟨es',clock,h1,h2⟩:=h.own;exact h.stays ((hs.far m _ h1 fun _=>⟨rfl,fun _ _ _ e=>(nomatch e)⟩).trans h1.symm)
theorem MapAt.bk{w w':World}{m:Nat}{es:L}{B:Nat}(h:MapAt w m es)(hb:Bk B w w'):MapAt w' m es:=by
 obtain⟨es',clock,h1,h2⟩:=h.own;exact h.stays ((hb.keep h1 rfl).trans h1.symm)
structure DJ(w5:World)(m:Nat)(es:L)(b:Bool)(wx:World):Prop where
 yes:b=true->MapAt wx m es∧w5.grownBy wx (some m)
 no:b=false->wx=w5
def S1(g:Nat)(v:Value):bF:=fun k=>k=g∨v.ownBlock=some k
structure H1(W0:World)(base g:Nat)(v:Value)(l:List Int)(x:Int)(i5 i6 i7:Bool)(xb xa:Value)(w:World):Prop where
 rel:ae (S1 g v) (S1 g v) W0 w
 jr:base<=w.heap.size
 one:Half base g v l x i5 i6 i7 xb xa w
section
variable {W0:World}{base g:Nat}{v:Value}{l:List Int}{x:Int}{i5 i6 i7:Bool}{xb xa:Value}{w w':World}
theorem H1.slots{ub ua:Value}(h:H1 W0 base g v l x i5 i6 i7 xb xa w)(e1:ub=xb)(e2:ua=xa):H1 W0 base g v l x i5 i6 i7 ub ua w:=by
 rw[e1,e2];exact h
theorem H1.make(h:H1 W0 base g v l x i5 i6 i7 xb xa w)(eA:i6=false):H1 W0 base g v l x true i6 i7 (.slice (some ⟨w.heap.size,0,none⟩) 1 1) xa (w.alloc (.cells #[.int .i64 x] kP)):=by
 have hb:bz w (w.alloc (.cells #[.int .i64 x] kP)):=bR.alloc nR _;exact⟨h.rel.trans (ae.below hb),Nat.le_trans h.jr hb.size,h.one.make eA⟩
theorem H1.app(h:H1 W0 base g v l x i5 i6 i7 xb xa w)(eB:i5=true)(eA:i6=false)(hn:l.length<=900000) :
  ∃v' w',(Builtin.append_ #[bU,bU] bU #[v,xb]).run prog w=.ok v' w'∧H1 W0 base g v l x i5 true i7 xb v' w'∧ae (S1 g v) (S1 g v) w w':=by
 obtain⟨v',w',h1,h2,h3,h4⟩:=h.one.app eB eA hn h.jr;have ht:ae (S1 g v) (S1 g v) w w':=ae.grown h3 fun k hk=>.inr hk;exact⟨v',w',h1,⟨h.rel.trans ht,Nat.le_trans h.jr h3.size,h2⟩,ht⟩
theorem H1.put(h:H1 W0 base g v l x i5 i6 i7 xb xa w)(eA:i6=true):H1 W0 base g v l x i5 i6 true xb xa (w.setCell ⟨g,0,none⟩ xa)∧ae (S1 g v) (S1 g v) w (w.setCell ⟨g,0,none⟩ xa):=by
 have ht:ae (S1 g v) (S1 g v) w (w.setCell ⟨g,0,none⟩ xa):=ae.set (a:=⟨g,0,none⟩) (.inl rfl) xa;exact⟨⟨h.rel.trans ht,by simpa[World.setCell]using h.jr,h.one.put eA⟩,ht⟩
end
section
variable {w:World}{b:Nat}{s:Sh}{t:T}
def RmQ(b:Nat)(s:Sh)(t:T)(r:T×List Int×Int)(w:World)(e:Ending)(w':World):Prop:=
 ∃s' v,e=.returned (.tuple #[v,.int .i64 r.2.2])∧aX w' b s' r.1∧aU w' w.heap.size v r.2.1∧ae (gq b s t) (gq b s' r.1) w w'
theorem Jd(ok:Ok t){i x:Int}(hi:i∈ids t)(hx:x∈aF.walk t i):(kids t x).filter (fun k=>decide (k≠i))=kids t x:=List.filter_eq_self.2 fun k hk=>by
 rw[decide_eq_true_eq];rintro rfl;obtain⟨h1,h2⟩:=lH ok hi;rw[(ok.kid hk).2]at h1 h2;rcases(dI ok (.inr hi)).1 hx with e|e
 ·exact h1 e
 ·rw[h2]at e;cases e
theorem ZC(t:T)(i:Int)(d:Nat):(wd t i d).map (·.1)=aF.walk t i:=by
 unfold wd;rw[List.map_map];exact List.map_id' _
theorem DF(h:aX w b s t)(hn:t.length<=1000)(i:Int)(hi:I64 i) :
  Calls prog 117 #[.pointer (some ⟨b,0,none⟩),.int .i64 i] w (RmQ b s t (jF t i) w):=by
 obtain⟨R,hR⟩:=aC (jF t i)
 have HQ:=Hd hR;rw[hR];clear hR;unfold jF at HQ
 obtain⟨w0,hw0⟩:∃w0,w0=w.alloc (.cells #[.pointer (some ⟨b,0,none⟩)] 88):=⟨_,rfl⟩
 have hb0:bz w w0:=by rw[hw0];exact bR.alloc nR _
 have hx0:au w0 w.heap.size [.pointer (some ⟨b,0,none⟩)] 88:=by rw[hw0];exact au.new w _ _
 have HT0:=Hd (h.below hb0);have HT:=Hd h;have lD:=Hd (a1q (h.below hb0) i hi);have HB0:=Hd hb0;have HX0:=Hd hx0;unfold SS O0 at lD;have HW0:=Hd hw0;by_cases h1:i=0
 ·have jP:=Hd (HQ.o.symm.trans (if_pos h1));simp only[if_pos h1]at lD;rw[if_neg (by decide)]at lD;rw[hw0]at lD;clear h1 HQ h hn hi hw0 hb0 hx0;refine bQ func117 rfl ?_;simp only[ntmps117,List.size_toArray,List.length_cons,List.length_nil,Nat.reduceAdd,Nat.reduceSub,Array.replicate_succ,Array.replicate_zero,List.push_toArray,List.append_toArray,List.nil_append,List.cons_append];go_wp2_with (fail);refine lD.o.mono ?_;rintro e w1 ⟨rfl,hw1⟩;rw[←HW0.o]at hw1;subst hw1;go_wp2_with (fail)
  refine dG w.heap.size trivial fun w' hb=>⟨_,results_tmp2 rfl _ _ _,?_⟩
  rw[jP.o];have hb1:=HB0.o.trans (hb.below nR HB0.o.size);exact⟨s,_,rfl,HT.o.below hb1,ax.nil _ _,ae.below hb1⟩
 have sH:=Hd (HQ.o.symm.trans (if_neg h1));simp only[if_neg h1]at lD;clear HQ;by_cases hx:has t i=true
 case neg=>
  have hx':has t i=false:=by simpa using hx
  have jP:=Hd (sH.o.trans (if_pos hx'));simp only[if_pos hx']at lD;rw[if_neg (by decide)]at lD;rw[hw0]at lD;clear h1 sH h hn hi hx hx' hw0 hb0 hx0;refine bQ func117 rfl ?_;simp only[ntmps117,List.size_toArray,List.length_cons,List.length_nil,Nat.reduceAdd,Nat.reduceSub,Array.replicate_succ,Array.replicate_zero,List.push_toArray,List.append_toArray,List.nil_append,List.cons_append];go_wp2_with (fail);refine lD.o.mono ?_;rintro e w1 ⟨rfl,hw1⟩;rw[←HW0.o]at hw1;subst hw1;go_wp2_with (fail)
  refine dG w.heap.size trivial fun w' hb=>⟨_,results_tmp2 rfl _ _ _,?_⟩
  rw[jP.o];have hb1:=HB0.o.trans (hb.below nR HB0.o.size);exact⟨s,_,rfl,HT.o.below hb1,ax.nil _ _,ae.below hb1⟩
 have hx':¬has t i=false:=by simp[hx]
 have jP:=Hd (sH.o.trans (if_neg hx'));simp only[if_neg hx',if_true]at lD;have hii:=(ah.1 hx).resolve_left h1;rw[hw0]at lD;have IG:=Hd (Rh (h.below hb0) (by omega) hii);have HI:=Hd hii;have HN:=Hd hn;clear sH hx' h1 h hn hi hx hii hw0 hb0 hx0;refine bQ func117 rfl ?_;simp only[ntmps117,List.size_toArray,List.length_cons,List.length_nil,Nat.reduceAdd,Nat.reduceSub,Array.replicate_succ,Array.replicate_zero,List.push_toArray,List.append_toArray,List.nil_append,List.cons_append];go_wp2_with (fail);refine lD.o.mono ?_;rintro e w1 ⟨rfl,hw1⟩
 rw[←HW0.o]at hw1;subst hw1;go_wp2_with (fail);refine IG.o.mono ?_;rintro e w2 ⟨v',rfl,hraw,hT⟩
 obtain⟨s2,hs2⟩:∃s2:Sh,s2=⟨s.m,s.g,cZ s.v (par t i) v'⟩:=⟨_,rfl⟩
 have hsg:s2.g=s.g:=by rw[hs2]
 have hsm:s2.m=s.m:=by rw[hs2]
 rw[←hs2]at hraw hT;have HRW:=Hd hraw;have HT2:=Hd hT
 have hx2:au w2 w.heap.size [.pointer (some ⟨b,0,none⟩)] 88:=HX0.o.stays (hT.far _ HX0.o.inside fun e=>by
  have hb0:=HB0.o;rcases e with e|e|⟨j,hj,e|e⟩
  ·have:=HT.o.raw.blk.inside;omega
  ·obtain⟨es,hm,_⟩:=HT.o.raw.map;have:=hm.inside;omega
  ·have:=(HT.o.raw.node j hj).blk.inside;omega
  ·have:=(ax.block (HT.o.raw.node j hj).own e).2;omega).2
 have VZ:=Hd hx2;have HS2:=Hd (And.intro hsg hsm);clear hraw hT hx2 IG lD hs2 hsg hsm;go_wp2_with (fail)
 obtain⟨w3,hw3⟩:∃w3,w3=w2.alloc (.cells #[.slice none 0 0] bU):=⟨_,rfl⟩
 have HW3:=Hd hw3;rw[show w2.alloc (Obj.cells #[Value.slice none 0 0] 35)=w3 from hw3.symm];clear hw3;refine(YP (s.g i) w3).mono ?_;rintro e w4 ⟨rfl,hw4⟩;have hb3:bz w2 w3:=by rw[HW3.o];exact bR.alloc nR _
 have hb4:bz w3 w4:=by rw[hw4];exact bR.alloc nR _
 have hg3:au w3 w2.heap.size [.slice none 0 0] bU:=by rw[HW3.o];exact au.new w2 _ _
 have hc4:au w4 w3.heap.size [.pointer (some ⟨s.g i,0,none⟩)] jg:=by rw[hw4];exact au.new w3 _ _
 have Ec:bz w2 w4:=hb3.trans (hb4.mono hb3.size);have a4T:=Hd Ec;have HG4:Hid (au w4 w2.heap.size [.slice none 0 0] bU):=hg3.stays (hb4.block _ hg3.inside);have HX4:Hid (au w4 w.heap.size [.pointer (some ⟨b,0,none⟩)] 88):=VZ.o.stays (Ec.block _ VZ.o.inside);have HR4:=Hd (HRW.o.below Ec)
 have xP:Hid (w4.cell? ⟨w3.heap.size,0,none⟩=some (.pointer (some ⟨s2.g i,0,none⟩))):=by
  show _=_;rw[HS2.o.1];exact hc4.blk.cell 0
 have UF:Hid (w.heap.size<w2.heap.size∧w2.heap.size<w4.heap.size):=⟨VZ.o.inside,HG4.o.inside⟩
 have HHW:Hid (∀x∈aF.walk t i,has t x=true):=fun x hx=>by
  rcases(dI HT.o.ok (.inr HI.o)).1 hx with e|e
  ·rw[e];exact ah.2 (.inr HI.o)
  ·exact ah.2 (.inr (bH e).1)
 have EI:Hid ((wd t i 0).length<=1001):=by
  have:=kN HT.o.ok (.inr HI.o:i=0∨i∈ids t);have:=HN.o;rw[mV];show _<=_;omega
 have EX:Hid (∀W,KS (fun k=>k=s.m∨k=w2.heap.size) w4 W->Ql W s2 (eH t) (cZ (Bi t) i none) (fun q=>(kids t q).filter fun k=>decide (k≠i))):=fun W hk j hj=>by
  have hn:=HR4.o.node j hj;have hnw:=HRW.o.node j hj;refine hn.stays (hk.same _ hn.blk.inside ?_) fun k hk'=>hk.same k (ax.block hn.own hk').2 ?_
  ·rintro(e|e)
   ·exact HR4.o.Ju hj (e.trans HS2.o.2.symm)
   ·have:=hnw.blk.inside;omega
  ·rintro(e|e)
   ·obtain⟨es,hm,_⟩:=HR4.o.map;rw[HS2.o.2]at hm;exact hm.D6 hn.own (e ▸ hk')
   ·have:=(ax.block hnw.own hk').2;omega
 clear hb3 hb4 hg3 hc4 Ec hw4;go_wp2_with (fail)
 refine jZ (gf:=146) (lb:=#[.pointer (some ⟨w3.heap.size,0,none⟩)]) rfl (enters_of func146 ag rfl) (es:=pz s2.g (wd t i 0)) (R:=ST sT) (Kp:=KT kT)
  (fun W1 hb=>BV HT.o.ok (.inr HI.o) (by have:=HN.o;omega) (fun x hx=>⟨HHW.o x hx,Jd HT.o.ok HI.o hx⟩) (eG hb xP.o) (EX.o W1 ((KS.refl _ _).bk hb))) KT.trans (fun A B hb=>KT.bk hb) (fun n A B h=>h.keeps)
  (fun e he=>by obtain⟨j,_,rfl⟩:=List.mem_map.1 he;rfl)
  (fun k W=>KS (fun k=>k=s.m∨k=w2.heap.size) w4 W∧(∃es,MapAt W s.m es∧∀j g,omap.look es j=some g↔(eH t j∧j∉(aF.walk t i).take k)∧s2.g j=g)∧∃v,au W w2.heap.size [v] bU∧aU W w4.heap.size v ((aF.walk t i).take k))
  (fun _ _ _=>False) (fun k A B h hr=>?hI) (fun _ _ _ _ h _=>h.elim) ⟨KS.refl _ _,by
   obtain⟨es,hm,hl⟩:=HR4.o.map;rw[HS2.o.2]at hm
   exact⟨es,hm,fun j g=>by rw[hl,List.take_zero];simp⟩,_,HG4.o,by rw[List.take_zero];exact ax.nil _ _⟩ ?a1 ?assign ?body ?done (fun _ _ _ _ _ _ h _=>h.elim)
 case hI=>
  obtain⟨hk,⟨es,hm,hl⟩,v,hx,ho⟩:=h;rcases hr with ⟨n,hn,hr⟩|hb
  ·exact⟨hk.st hr hn,⟨es,hm.st hr,hl⟩,v,hx.st hr (by decide),ax.st ho hr (by decide)⟩
  ·exact⟨hk.bk hb,⟨es,hm.bk hb,hl⟩,v,hx.bk hb,ax.bk ho hb⟩
 case assign=>
  intro l j hj W9 KK Ef;rw[yH]
  gi_wp2
  exact Ef
 case done=>
  rintro D W9 hD ⟨hk,⟨es,hm,hl⟩,v,hx,ho⟩ hd;rw[fM,mV,List.take_length]at ho;rw[fM,mV,List.take_length]at hl;have cb:=hx.blk.cell 0;have zb:=hx.inside;simp only[List.getElem?_cons_zero]at cb;have HZ:=Hd (And.intro hk (And.intro hm (And.intro hl ho)));clear hk hm hl hx ho;go_wp2_with (fail)
  refine dG w4.heap.size ⟨⟨D,rfl,hD,hd,by simp⟩,trivial⟩ fun w' hb=>⟨_,results_tmp2 rfl _ _ _,?_⟩
  obtain⟨hk,hm,hl,ho⟩:=HZ.o;rw[jP.o];have hks:=hk.bk hb;have hsm:=HS2.o.2;have hin:∀k,gq b s t k->k<w.heap.size:=HT.o.raw.inside;have hmw:s.m<w.heap.size:=hin _ (.inr (.inl rfl));have hbw:b<w.heap.size:=hin _ (.inl rfl);have hz:=UF.o
  have hH:∀j,eH (aF.gone (aF.walk t i) t) j↔(eH t j∧j∉aF.walk t i):=fun j=>by
   unfold eH;rw[ah,ah,pJ];constructor
   ·rintro(e|e)
    ·subst e;refine⟨.inl rfl,fun h0=>?_⟩;rcases(dI HT.o.ok (.inr HI.o)).1 h0 with e|e
     ·exact HT.o.ok.uK HI.o e.symm
     ·exact HT.o.ok.uK (bH e).1 rfl
    ·exact⟨.inr e.1,e.2⟩
   ·rintro⟨e|e,h0⟩
    ·exact .inl e
    ·exact .inr ⟨e,h0⟩
  have hraw:a2t w' b s2 (aF.gone (aF.walk t i) t):=by
   refine⟨HR4.o.blk.stays (hks.same _ HR4.o.blk.inside fun e=>?_),⟨es,by rw[hsm];exact hm.bk hb,fun j g=>by rw[hl,hH]⟩,fun j hj=>?_,fun j k hj hk=>HR4.o.inj j k ((hH j).1 hj).1 ((hH k).1 hk).1,fun j k y hj hk=>HR4.o.apart j k y ((hH j).1 hj).1 ((hH k).1 hk).1⟩
   ·rcases e with e|e
    ·obtain⟨es4,hm4,_⟩:=HR4.o.map;rw[hsm,←e]at hm4;exact hm4.dR HR4.o.blk
    ·omega
   ·obtain⟨hj1,hj2⟩:=(hH j).1 hj;have hji:j≠i:=fun e=>hj2 (by rw[e,walk_eq HT.o.ok];exact List.mem_cons_self);have hn:=EX.o w' hks j hj1;rw[aH _ hji]at hn;rw[vK HT.o.ok HI.o hj2]
    have e:Bi (aF.gone (aF.walk t i) t) j=Bi t j:=by
     unfold Bi;rw[yX HT.o.ok.nd,if_neg hj2]
    rw[e];exact hn
  refine⟨s2,v,rfl,⟨hraw,HT.o.ok.gone HI.o⟩,ax.weaken (ax.bk ho hb) (by omega),?_⟩;have hb0:=HB0.o;have Ec:=a4T.o;have ht2:=HT2.o;have hs0:=hb0.size;refine⟨hks.os.trans (Ec.os.trans (ht2.os.trans hb0.os)),hks.tape.trans (Ec.tape.trans (ht2.tape.trans hb0.tape)),hks.output.trans (Ec.output.trans (ht2.output.trans hb0.output)),by have:=hks.size;omega,fun k hk' hn=>?_⟩;obtain⟨h5,h6⟩:=ht2.far k (by omega) hn;refine⟨fun e=>h5 ?_,?_⟩
  ·rcases e with e|e|⟨j,hj,e⟩
   ·exact .inl e
   ·exact .inr (.inl e)
   ·exact .inr (.inr ⟨j,((hH j).1 hj).1,e⟩)
  ·rw[hks.same k (by omega) (fun e=>by
    rcases e with e|e
    ·exact hn (.inr (.inl e))
    ·omega),Ec.block k (by omega),h6,hb0.block k hk']
 case body=>
  rintro l j hj W9 ⟨hk,⟨es,hm,hl⟩,v,hx,ho⟩
  obtain⟨x,d,hxd⟩:∃x d,(wd t i 0).getD j (0,0)=(x,d):=⟨_,_,rfl⟩
  have hjl:j<(wd t i 0).length:=by rw[fM]at hj;exact hj
  have hmem:(wd t i 0)[j]=(x,d):=by rw[List.getD_eq_getElem?_getD,List.getElem?_eq_getElem hjl]at hxd;exact hxd
  have hxw:x∈aF.walk t i:=QZ (i:=i) (d:=0) (by rw[←hmem];exact List.getElem_mem hjl);have htx:=HHW.o x hxw
  have htk:(aF.walk t i).take (j+1)=(aF.walk t i).take j++[x]:=by
   rw[←ZC t i 0,List.take_succ_eq_append_getElem (by rw[List.length_map];exact hjl),List.getElem_map,hmem]
  rw[List.getD_eq_getElem?_getD]at hxd;rw[hxd,HS2.o.1];obtain⟨A1,n1,k1,rfl⟩:=ax.shape ho;have uO:=Hd htk
  have IJ:Hid (((aF.walk t i).take j).length<=900000):=by
   have:=EI.o;rw[mV]at this;show _<=_;rw[List.length_take];omega
  have h64:I64 x:=by
   rcases ah.1 htx with e|e
   ·subst e;constructor<;>decide
   ·obtain⟨p,hp⟩:=bg.1 e;have:=HT.o.ok.Rw _ hp;simp only at this;constructor<;>omega
  generalize (aF.walk t i).take j=l1 at*;have hbn:=(EX.o W9 hk x htx).blk;rw[HS2.o.1]at hbn
  have hbx:=HX4.o.stays (hk.same _ HX4.o.inside fun e=>by
   have hmw:s.m<w.heap.size:=HT.o.raw.inside _ (.inr (.inl rfl));have:=UF.o
   rcases e with e|e<;>omega)
  have hbt:=HR4.o.blk.stays (hk.same _ HR4.o.blk.inside fun e=>by
   rcases e with e|e
   ·obtain⟨es4,hm4,_⟩:=HR4.o.map;rw[HS2.o.2,←e]at hm4;exact hm4.dR HR4.o.blk
   ·have:b<w.heap.size:=HT.o.raw.inside _ (.inl rfl);have:=UF.o
    omega)
  rw[HS2.o.2]at hbt
  have hS:∀k,S1 w2.heap.size (.slice A1 n1 k1) k->∃cu T,W9.heap[k]?=some (Obj.cells cu T (0,0))∧(T=bU∨T=kP):=by
   rintro k (e|e)
   ·rw[e];exact⟨_,_,hx,.inl rfl⟩
   ·obtain⟨cu,hc⟩:=ax.typed ho e;exact⟨cu,_,hc,.inr rfl⟩
  have NQ:=Hd hS
  have HSG:Hid (∀k,S1 w2.heap.size (.slice A1 n1 k1) k->k=w2.heap.size∨w4.heap.size<=k):=by
   rintro k (e|e)
   ·exact .inl e
   ·exact .inr (ax.block ho e).1
  have HST:Hid (∀W' k cs T,ae (S1 w2.heap.size (.slice A1 n1 k1)) (S1 w2.heap.size (.slice A1 n1 k1)) W9 W'->au W9 k cs T->T≠bU->T≠kP->au W' k cs T):=fun W' k cs T ht hb' h1 h2=>hb'.stays (ht.far k hb'.inside fun e=>by
   obtain⟨cu,T',hc,hT⟩:=NQ.o _ e;have:=hb'.symm.trans hc;simp only[Option.some.injEq,Obj.cells.injEq]at this;rcases hT with rfl|rfl
   ·exact h1 this.2.1
   ·exact h2 this.2.1).2
  have UZ:Hid (∀W',ae (S1 w2.heap.size (.slice A1 n1 k1)) (S1 w2.heap.size (.slice A1 n1 k1)) W9 W'->W'.cell? ⟨s.g x,0,none⟩=some (.int .i64 x)∧s.g x<W'.heap.size):=fun W' ht=>
   have b':=HST.o W' _ _ _ ht hbn (by decide) (by decide)
   ⟨b'.blk.cell 0,b'.inside⟩
  have AY:Hid (H1 W9 w4.heap.size w2.heap.size (.slice A1 n1 k1) l1 x false false false undef undef W9.drew):=by
   have hd:bz W9 W9.drew:=bR.drew;exact⟨ae.below hd,Nat.le_trans hk.size hd.size,⟨hx.stays (hd.block _ hx.inside),ax.below ho hd,nofun,nofun⟩⟩
  have HBN:=Hd hbn;have Lt:=Hd hbx;have HBT:=Hd hbt;have HK:=Hd hk;have HM:=Hd (And.intro hm hl);have H64:=Hd h64;clear hxd hjl hmem hxw htx htk hS hk hm hl hx ho hj h64 hbn hbx hbt;refine wpIn_block (wpIn_seq ?_)
  refine CG.dL (ae (S1 w2.heap.size (.slice A1 n1 k1)) (S1 w2.heap.size (.slice A1 n1 k1))) (fun L V wx=>H1 W9 w4.heap.size w2.heap.size (.slice A1 n1 k1) l1 x (L 5) (L 6) (L 7) (V 30) (V 31) wx∧(L 7=true->L 0=true)∧(L 6=true->L 5=true)) [25,26,27,28,29,30,31] ag ag ag (fun _=>ae.refl _ _) (fun _ _ _ h k=>h.trans k) (fun i=>(match i with
   |0=>rV (.slice A1 n1 k1)
   |1|2|3=>rV (.pointer (some ⟨s.g x,0,none⟩))
   |4=>rV (.int .i64 x)
   |_=>ra:regs.kW (ae (S1 w2.heap.size (.slice A1 n1 k1)) (S1 w2.heap.size (.slice A1 n1 k1)))).p) (fun _=>regs.kW.mono _) ag (ae.below (bR.drew)) (⟨H1.slots AY.o rfl rfl,nofun,nofun⟩) ⟨?_,?_,?_,?_,?_,?_,?_,?_,trivial⟩ ?_
  ·refine fK fun L a w1 hh=>?_;have h8:=hh.p 8 w2.heap.size 0;have e11:=cO hh.st.2.1 hh.un;have bx:=hh.st.1.one.box;rw[e11]at bx;have cb:=bx.blk.cell 0;have zb:=bx.inside;simp only[cur,cond_false,List.getElem?_cons_zero]at cb;have hJ:=hh.j;clear hh;go_simp;exact⟨_,rfl,ae.refl _ _,rfl,⟨H1.slots hJ.o.1 sn sn,aj hJ.o.2.1 (.inl (by decide)),aj hJ.o.2.2 (.inl (by decide))⟩⟩
  ·refine fK fun L a w1 hh=>?_;have h9:=hh.p 9 (s.g x) 0;have hJ:=hh.j;clear hh;go_simp;exact⟨_,rfl,ae.refl _ _,rfl,⟨H1.slots hJ.o.1 sn sn,aj hJ.o.2.1 (.inl (by decide)),aj hJ.o.2.2 (.inl (by decide))⟩⟩
  ·refine fK fun L a w1 hh=>?_;have IX:=rq (hh.d 1 26);obtain⟨cx,zx⟩:=UZ.o _ hh.rel;have hJ:=hh.j;clear hh;go_simp;exact⟨_,rfl,ae.refl _ _,rfl,⟨H1.slots hJ.o.1 sn sn,aj hJ.o.2.1 (.inl (by decide)),aj hJ.o.2.2 (.inl (by decide))⟩⟩
  ·refine fK fun L a w1 hh=>?_;have h27:=rq (hh.d 2 27);have hJ:=hh.j;clear hh;go_simp;exact⟨_,rfl,ae.refl _ _,rfl,⟨H1.slots hJ.o.1 sn sn,aj hJ.o.2.1 (.inl (by decide)),aj hJ.o.2.2 (.inl (by decide))⟩⟩
  ·refine fK fun L a w1 hh=>?_;have h28:=rq (hh.d 3 28);obtain⟨cx,zx⟩:=UZ.o _ hh.rel;have hJ:=hh.j;clear hh;go_simp;exact⟨_,rfl,ae.refl _ _,rfl,⟨H1.slots hJ.o.1 sn sn,aj hJ.o.2.1 (.inl (by decide)),aj hJ.o.2.2 (.inl (by decide))⟩⟩
  ·refine fK fun L a w1 hh=>?_;have CW:=rq (hh.d 4 29);have hJ:=Hd hh.st;have hsz:=Hd hh.size;have e6:=Hd (cO hJ.o.2.2 hh.un);clear hh;go_simp;exact⟨_,rfl,ae.below (bR.alloc nR _),trivial,⟨H1.slots (H1.make hJ.o.1 e6.o) (bM.bI (by rw[hsz.o];simp)) sn,aj hJ.o.2.1 (.inl (by decide)),aj hJ.o.2.2 (.inl (by decide))⟩⟩
  ·refine fK fun L a w1 hh=>?_;have hJ:=Hd hh.st;have hsz:=Hd hh.size;obtain⟨v9,w9,hrun,YX,lu⟩:=H1.app hJ.o.1 (hh.up 5 ag) hh.un IJ.o;exact yF (.tmp 25) (.tmp 30) 35 35 35 rfl rfl (hh.d 0 25) rfl hrun ⟨v9,rfl,lu,trivial,⟨H1.slots YX sn (bM.bI (by rw[hsz.o];simp)),aj hJ.o.2.1 (.inl (by decide)),aj hJ.o.2.2 (.inr (hh.up 5 ag))⟩⟩
  ·refine fK fun L a w1 hh=>?_;have h8:=hh.p 8 w2.heap.size 0;have h6:=hh.up 6 ag;have ho:=hh.st.1.one.own;rw[h6]at ho;obtain⟨A9,n9,c9,e33⟩:=ax.shape ho;have e33:bM.sl a 31=.slice A9 n9 c9:=e33;have h31:a.tmps[31]?.getD undef=.slice A9 n9 c9:=rq (e33);have bx:=hh.st.1.one.box;have cb:=bx.blk.cell 0;have fb:=bx.blk.free 0;have zb:=bx.inside;simp only[List.getElem?_cons_zero]at cb;have hJ:=Hd hh.st;have hP:=H1.put hh.st.1 h6;have hU:=Hd (hh.up 0 ag);rw[e33]at hP;have HE:=Hd e33;have HP:=Hd hP;clear hh h6 ho bx hP e33;go_simp
   exact⟨HP.o.2,⟨undef,trivial⟩,H1.slots HP.o.1 rfl HE.o,aj hJ.o.2.1 (.inr hU.o),aj hJ.o.2.2 (.inl (by decide))⟩
  intro L w5 val hL hJ hR hv;obtain⟨hJ,-⟩:=hJ;have h1:=hJ.one;rw[hL 6 (by decide),hL 7 (by decide)]at h1;simp only[regs.aG,List.map_cons,List.map_nil];simp only[Act.put,List.setIfInBounds_toArray,List.set_cons_zero,List.set_cons_succ];have HH1:=Hd h1;have kL:=Hd hR
  have hms:¬S1 w2.heap.size (.slice A1 n1 k1) s.m:=fun e=>by
   obtain⟨cu,T,hc,_⟩:=NQ.o _ e;obtain⟨es',clock,h2,_⟩:=HM.o.1.own;rw[hc]at h2;cases h2
  have Ya:=Hd hms;have MX:MapAt w5 s.m es:=HM.o.1.stays (hR.far _ HM.o.1.inside hms).2;have o8:Hid (MapAt w5.drew s.m es):=MX.stays rfl;have hX5:=HST.o w5 _ _ _ hR Lt.o (by decide) (by decide);have hB5:=HST.o w5 _ _ _ hR HBT.o (by decide) (by decide);have hN5:=HST.o w5 _ _ _ hR HBN.o (by decide) (by decide);have I5:Hid (au w5.drew w.heap.size [.pointer (some ⟨b,0,none⟩)] 88):=hX5;have gI:Hid (au w5.drew b [.map (some s.m)] yL):=hB5
  have Zp:Hid (w5.drew.cell? ⟨s.g x,0,none⟩=some (.int .i64 x)∧s.g x<w5.drew.heap.size):=⟨hN5.blk.cell 0,hN5.inside⟩
  clear hv hL hJ hR h1 hms MX hX5 hB5 hN5
  skip
  skip
  skip
  skip
  skip
  skip
  generalize val 31=y31 at*;simp only[Exit.then]
  refine CG.dL (fun _ _=>True) (fun L V wx=>DJ w5.drew s.m (omap.del x es) (L 8) wx∧(L 8=true->L 3=true)∧(L 3=true->L 2=true)∧(L 2=true->L 1=true)∧(L 1=true->L 0=true)∧(L 8=true->L 7=true)∧(L 7=true->L 6=true)∧(L 6=true->L 5=true)∧(L 5=true->L 4=true)) [32,33,34,35,36,37,38,39] ag ag ag (fun _=>trivial) (fun _ _ _ _ _=>trivial) (fun i=>(match i with
   |0|1|2=>rp b 0
   |3=>rV (.map (some s.m))
   |4|5|6=>rV (.pointer (some ⟨s.g x,0,none⟩))
   |7=>rV (.int .i64 x)
   |_=>ra:regs.kW (fun _ _=>True)).p) (fun _=>regs.kW.mono _) ag (trivial) (⟨⟨nofun,fun _=>rfl⟩,nofun,nofun,nofun,nofun,nofun,nofun,nofun,nofun⟩) ⟨?_,?_,?_,?_,?_,?_,?_,?_,?_,trivial⟩ ?_
  ·refine fK fun L a w1 hh=>?_;have h2:=hh.p 2 w.heap.size 0;have hw:=hh.st.1.no (cO (fun e=>hh.st.2.2.2.2.1 (hh.st.2.2.2.1 (hh.st.2.2.1 (hh.st.2.1 (e))))) hh.un);subst hw;have cX:=I5.o.blk.cell 0;have zX:=I5.o.inside;have cB:=gI.o.blk.cell 0;have zB:=gI.o.inside;obtain⟨cN,zN⟩:=Zp.o;simp only[List.getElem?_cons_zero]at cX cB
   have hJ:=hh.j;clear hh;go_simp;exact⟨_,rfl,rfl,hJ.o.1,aj hJ.o.2.1 (.inl (by decide)),aj hJ.o.2.2.1 (.inl (by decide)),aj hJ.o.2.2.2.1 (.inl (by decide)),aj hJ.o.2.2.2.2.1 (.inl (by decide)),aj hJ.o.2.2.2.2.2.1 (.inl (by decide)),aj hJ.o.2.2.2.2.2.2.1 (.inl (by decide)),aj hJ.o.2.2.2.2.2.2.2.1 (.inl (by decide)),aj hJ.o.2.2.2.2.2.2.2.2 (.inl (by decide))⟩
  ·refine fK fun L a w1 hh=>?_;have h32:=rq (hh.d 0 32);have hw:=hh.st.1.no (cO (fun e=>hh.st.2.2.2.1 (hh.st.2.2.1 (hh.st.2.1 (e)))) hh.un);subst hw;have cX:=I5.o.blk.cell 0;have zX:=I5.o.inside;have cB:=gI.o.blk.cell 0;have zB:=gI.o.inside;obtain⟨cN,zN⟩:=Zp.o;simp only[List.getElem?_cons_zero]at cX cB;have hJ:=Hd hh.st;have hU:=Hd (hh.up 0 ag);clear hh;go_simp
   exact⟨_,rfl,rfl,hJ.o.1,aj hJ.o.2.1 (.inl (by decide)),aj hJ.o.2.2.1 (.inl (by decide)),aj hJ.o.2.2.2.1 (.inl (by decide)),aj hJ.o.2.2.2.2.1 (.inr hU.o),aj hJ.o.2.2.2.2.2.1 (.inl (by decide)),aj hJ.o.2.2.2.2.2.2.1 (.inl (by decide)),aj hJ.o.2.2.2.2.2.2.2.1 (.inl (by decide)),aj hJ.o.2.2.2.2.2.2.2.2 (.inl (by decide))⟩
  ·refine fK fun L a w1 hh=>?_;have VV:=rq (hh.d 1 33);have hw:=hh.st.1.no (cO (fun e=>hh.st.2.2.1 (hh.st.2.1 (e))) hh.un);subst hw;have cX:=I5.o.blk.cell 0;have zX:=I5.o.inside;have cB:=gI.o.blk.cell 0;have zB:=gI.o.inside;obtain⟨cN,zN⟩:=Zp.o;simp only[List.getElem?_cons_zero]at cX cB;have hJ:=Hd hh.st;have hU:=Hd (hh.up 1 ag);clear hh;go_simp
   exact⟨_,rfl,rfl,hJ.o.1,aj hJ.o.2.1 (.inl (by decide)),aj hJ.o.2.2.1 (.inl (by decide)),aj hJ.o.2.2.2.1 (.inr hU.o),aj hJ.o.2.2.2.2.1 (.inl (by decide)),aj hJ.o.2.2.2.2.2.1 (.inl (by decide)),aj hJ.o.2.2.2.2.2.2.1 (.inl (by decide)),aj hJ.o.2.2.2.2.2.2.2.1 (.inl (by decide)),aj hJ.o.2.2.2.2.2.2.2.2 (.inl (by decide))⟩
  ·refine fK fun L a w1 hh=>?_;have Xm:=rq (hh.d 2 34);have hw:=hh.st.1.no (cO (fun e=>hh.st.2.1 (e)) hh.un);subst hw;have cX:=I5.o.blk.cell 0;have zX:=I5.o.inside;have cB:=gI.o.blk.cell 0;have zB:=gI.o.inside;obtain⟨cN,zN⟩:=Zp.o;simp only[List.getElem?_cons_zero]at cX cB;have hJ:=Hd hh.st;have hU:=Hd (hh.up 2 ag);clear hh;go_simp
   exact⟨_,rfl,rfl,hJ.o.1,aj hJ.o.2.1 (.inl (by decide)),aj hJ.o.2.2.1 (.inr hU.o),aj hJ.o.2.2.2.1 (.inl (by decide)),aj hJ.o.2.2.2.2.1 (.inl (by decide)),aj hJ.o.2.2.2.2.2.1 (.inl (by decide)),aj hJ.o.2.2.2.2.2.2.1 (.inl (by decide)),aj hJ.o.2.2.2.2.2.2.2.1 (.inl (by decide)),aj hJ.o.2.2.2.2.2.2.2.2 (.inl (by decide))⟩
  ·refine fK fun L a w1 hh=>?_;have h9:=hh.p 9 (s.g x) 0;have hw:=hh.st.1.no (cO (fun e=>hh.st.2.2.2.2.2.2.2.2 (hh.st.2.2.2.2.2.2.2.1 (hh.st.2.2.2.2.2.2.1 (hh.st.2.2.2.2.2.1 (e))))) hh.un);subst hw;have cX:=I5.o.blk.cell 0;have zX:=I5.o.inside;have cB:=gI.o.blk.cell 0;have zB:=gI.o.inside;obtain⟨cN,zN⟩:=Zp.o;simp only[List.getElem?_cons_zero]at cX cB
   have hJ:=hh.j;clear hh;go_simp;exact⟨_,rfl,rfl,hJ.o.1,aj hJ.o.2.1 (.inl (by decide)),aj hJ.o.2.2.1 (.inl (by decide)),aj hJ.o.2.2.2.1 (.inl (by decide)),aj hJ.o.2.2.2.2.1 (.inl (by decide)),aj hJ.o.2.2.2.2.2.1 (.inl (by decide)),aj hJ.o.2.2.2.2.2.2.1 (.inl (by decide)),aj hJ.o.2.2.2.2.2.2.2.1 (.inl (by decide)),aj hJ.o.2.2.2.2.2.2.2.2 (.inl (by decide))⟩
  ·refine fK fun L a w1 hh=>?_;have Xl:=rq (hh.d 4 36);have hw:=hh.st.1.no (cO (fun e=>hh.st.2.2.2.2.2.2.2.1 (hh.st.2.2.2.2.2.2.1 (hh.st.2.2.2.2.2.1 (e)))) hh.un);subst hw;have cX:=I5.o.blk.cell 0;have zX:=I5.o.inside;have cB:=gI.o.blk.cell 0;have zB:=gI.o.inside;obtain⟨cN,zN⟩:=Zp.o;simp only[List.getElem?_cons_zero]at cX cB;have hJ:=Hd hh.st;have hU:=Hd (hh.up 4 ag);clear hh;go_simp
   exact⟨_,rfl,rfl,hJ.o.1,aj hJ.o.2.1 (.inl (by decide)),aj hJ.o.2.2.1 (.inl (by decide)),aj hJ.o.2.2.2.1 (.inl (by decide)),aj hJ.o.2.2.2.2.1 (.inl (by decide)),aj hJ.o.2.2.2.2.2.1 (.inl (by decide)),aj hJ.o.2.2.2.2.2.2.1 (.inl (by decide)),aj hJ.o.2.2.2.2.2.2.2.1 (.inl (by decide)),aj hJ.o.2.2.2.2.2.2.2.2 (.inr hU.o)⟩
  ·refine fK fun L a w1 hh=>?_;have h37:=rq (hh.d 5 37);have hw:=hh.st.1.no (cO (fun e=>hh.st.2.2.2.2.2.2.1 (hh.st.2.2.2.2.2.1 (e))) hh.un);subst hw;have cX:=I5.o.blk.cell 0;have zX:=I5.o.inside;have cB:=gI.o.blk.cell 0;have zB:=gI.o.inside;obtain⟨cN,zN⟩:=Zp.o;simp only[List.getElem?_cons_zero]at cX cB;have hJ:=Hd hh.st;have hU:=Hd (hh.up 5 ag);clear hh;go_simp
   exact⟨_,rfl,rfl,hJ.o.1,aj hJ.o.2.1 (.inl (by decide)),aj hJ.o.2.2.1 (.inl (by decide)),aj hJ.o.2.2.2.1 (.inl (by decide)),aj hJ.o.2.2.2.2.1 (.inl (by decide)),aj hJ.o.2.2.2.2.2.1 (.inl (by decide)),aj hJ.o.2.2.2.2.2.2.1 (.inl (by decide)),aj hJ.o.2.2.2.2.2.2.2.1 (.inr hU.o),aj hJ.o.2.2.2.2.2.2.2.2 (.inl (by decide))⟩
  ·refine fK fun L a w1 hh=>?_;have h38:=rq (hh.d 6 38);have hw:=hh.st.1.no (cO (fun e=>hh.st.2.2.2.2.2.1 (e)) hh.un);subst hw;have cX:=I5.o.blk.cell 0;have zX:=I5.o.inside;have cB:=gI.o.blk.cell 0;have zB:=gI.o.inside;obtain⟨cN,zN⟩:=Zp.o;simp only[List.getElem?_cons_zero]at cX cB;have hJ:=Hd hh.st;have hU:=Hd (hh.up 6 ag);clear hh;go_simp
   exact⟨_,rfl,rfl,hJ.o.1,aj hJ.o.2.1 (.inl (by decide)),aj hJ.o.2.2.1 (.inl (by decide)),aj hJ.o.2.2.2.1 (.inl (by decide)),aj hJ.o.2.2.2.2.1 (.inl (by decide)),aj hJ.o.2.2.2.2.2.1 (.inl (by decide)),aj hJ.o.2.2.2.2.2.2.1 (.inr hU.o),aj hJ.o.2.2.2.2.2.2.2.1 (.inl (by decide)),aj hJ.o.2.2.2.2.2.2.2.2 (.inl (by decide))⟩
  ·refine fK fun L a w1 hh=>?_;have hw:=hh.st.1.no hh.un;subst hw;obtain⟨w9,hrun,hm9,mZ⟩:=o8.o.drop H64.o _
   exact ZB (.tmp 35) (.tmp 39) 195 3 _ rfl rfl (hh.d 3 35) (hh.d 7 39) hrun ⟨_,rfl,trivial,trivial,⟨fun _=>⟨hm9,mZ⟩,fun e=>absurd e (by simp[regs.upd])⟩,aj hh.st.2.1 (.inr (hh.up 3 ag)),aj hh.st.2.2.1 (.inl (by decide)),aj hh.st.2.2.2.1 (.inl (by decide)),aj hh.st.2.2.2.2.1 (.inl (by decide)),aj hh.st.2.2.2.2.2.1 (.inr (hh.up 7 ag)),aj hh.st.2.2.2.2.2.2.1 (.inl (by decide)),aj hh.st.2.2.2.2.2.2.2.1 (.inl (by decide)),aj hh.st.2.2.2.2.2.2.2.2 (.inl (by decide))⟩
  intro L w6 a4W hL hJ _ _;obtain⟨hm6,BC⟩:=hJ.1.yes (hL 8 (by decide));have hd:bz w5 w5.drew:=bR.drew;have hR:=kL.o;have hmi:=HM.o.1.inside
  have hk:∀(k:Nat) (o:Obj),W9.heap[k]?=some o->(∀cu:Array Value,o≠Obj.cells cu bU (0,0)∧o≠Obj.cells cu kP (0,0))->k≠s.m->w6.heap[k]?=some o:=fun k o hk hn hne=>by
   have hlt:=(Array.getElem?_eq_some_iff.1 hk).1
   have h2:=(hR.far k hlt fun e=>by
    obtain⟨cu,T,hc,hT⟩:=NQ.o k e;have e2:=hk.symm.trans hc
    injection e2 with e2
    rcases hT with rfl|rfl
    ·exact(hn cu).1 e2
    ·exact(hn cu).2 e2).2
   refine(BC.block k (Nat.lt_of_lt_of_le hlt hR.size) fun e=>hne (Option.some.inj e)).trans (h2.trans hk)
  have hmo:∀o,W9.heap[s.m]?=some o->∃es clock,o=Obj.map es clock:=fun o ho=>by
   obtain⟨es',clock,h2,_⟩:=HM.o.1.own;rw[h2]at ho;exact⟨_,_,(Option.some.inj ho).symm⟩
  have hsz:W9.heap.size<=w6.heap.size:=Nat.le_trans hR.size BC.size;refine⟨fun k o h3 h4=>hk k o h3 (fun cu=>⟨fun e=>(by subst e;cases h4),fun e=>(by subst e;cases h4)⟩) (fun e=>?_),⟨hsz,fun k cu ty fr h3 h4=>hk k _ h3 (fun cu'=>⟨fun e=>?_,fun e=>?_⟩) (fun e=>?_)⟩,?_,⟨_,hm6,fun j' g=>?_⟩,y31,HH1.o.box.stays (BC.block _ HH1.o.box.inside fun e=>?_),?_⟩
  ·rw[e]at h3;obtain⟨_,_,rfl⟩:=hmo o h3;cases h4
  ·injection e with _ e _
   rw[e]at h4;exact absurd h4 (by decide)
  ·injection e with _ e _
   rw[e]at h4;exact absurd h4 (by decide)
  ·rw[e]at h3;obtain⟨_,_,e2⟩:=hmo _ h3;cases e2
  ·refine((HK.o.turn hR fun k hk' e=>(HSG.o k e).elim .inr fun e2=>by omega).below (hd.mono (Nat.le_trans HK.o.size hR.size))).grown BC fun j' e=>.inr (.inl (Option.some.inj e).symm)
  ·rw[uO.o,omap.tX];by_cases e:j'=x
   ·rw[if_pos e,e];simp
   ·rw[if_neg e,HM.o.2];simp[e,HS2.o.1]
  ·have hmw:s.m<w.heap.size:=HT.o.raw.inside _ (.inr (.inl rfl));have:=Option.some.inj e;have:=UF.o;omega
  ·rw[uO.o];have QH:aU w5 w4.heap.size y31 (l1++[x]):=HH1.o.own;refine ax.stays QH fun k hk'=>BC.block k (ax.block QH hk').2 fun e=>?_;have e2:=Option.some.inj e;have:=(ax.block QH hk').1;have hmw:s.m<w.heap.size:=HT.o.raw.inside _ (.inr (.inl rfl));have:=UF.o;omega
end
end
section
open Go.RowKit aF xk
theorem SE(w:World)(o:Option Value)(ho:o=none∨∃n:Int,o=some (.int .i64 n)):(Instr.makeMap 195 o).run prog w=.ok (.map (some w.heap.size)) (w.alloc (.map #[] 0)):=by
 rcases ho with rfl|⟨n,rfl⟩
 ·rfl
 ·simp[Instr.makeMap,run_underlying underlying195,asInt,asIntOf,newObj,Result.andThen];rfl
theorem tnew(w:World):Calls prog 52 #[] w fun e w'=>∃b s,e=.returned (.pointer (some ⟨b,0,none⟩))∧aX w' b s []∧bz w w'∧∀k,gq b s [] k->w.heap.size<=k:=by
 have hmm:=fun w=>SE w none (.inl rfl);have hm0:=(Jz w).stays (w':=(w.alloc (.map #[] 0)).alloc (y9 0)) (Below.heap_alloc _ _ _ (by simp));obtain⟨w2,hrun,hm2,hg⟩:=hm0.store (i:=0) (by constructor<;>decide) (w.heap.size+1) (by show[_].length<=_;simp);have HM:=Hd (And.intro hm2 hg);clear hm0 hm2 hg;go_enter func52,ntmps52;go_wp2_with (fail);go_ret;obtain⟨hm2,hg⟩:=HM.o;have hgs:=hg.size;simp only[World.size_alloc]at hgs
 have hb:bz w w2:=(((Below.refl _ w).alloc nR (.map #[] 0)).alloc (by simp) (y9 0)).grown hg (by simp;omega) (fun k e=>by rw[←Option.some.inj e];exact nR);have hb2:bz w2 (w2.alloc (.cells #[.map (some w.heap.size)] yL)):=bR.alloc nR _;have hH:∀j,eH [] j↔j=0:=fun j=>by unfold eH;rw[ah];simp[ids]
 refine⟨_,⟨w.heap.size,fun _=>w.heap.size+1,fun _=>.slice none 0 0⟩,rfl,⟨⟨au.new w2 [.map (some w.heap.size)] _,⟨_,hm2.stays (hb2.block _ hm2.inside),fun j g=>?_⟩,fun j hj=>?_,fun j k hj hk _=>((hH j).1 hj).trans ((hH k).1 hk).symm,fun j k x _ _ e=>(nomatch e)⟩,Jt⟩,hb.trans (hb2.mono hb.size),?_⟩
 ·rw[omap.dw,hH];by_cases e:j=0
  ·rw[if_pos e];simp[e]
  ·rw[if_neg e];simp[e,omap.look_nil]
 ·obtain rfl:=(hH j).1 hj;refine⟨au.stays (w:=w2) ?_ (hb2.block (w.heap.size+1) (by omega)),ax.nil _ _⟩
  exact(hg.block (w.heap.size+1) (by simp) (fun e=>by have:=Option.some.inj e;omega)).trans (by
   have:=heap_alloc_new (w.alloc (.map #[] 0)) (y9 0);rw[World.size_alloc]at this
   exact this)
 ·rintro k (e|e|⟨j,_,e|e⟩)
  ·rw[e];exact hb.size
  ·rw[e];exact nR
  ·rw[e];simp
  ·cases e
def KQ(w:World)(v:Value)(l:List Nat)(ids:List Int):Prop:=∃A c,v=.slice A l.length c∧l.length=ids.length∧∀j (hj:j<l.length),∃g o,A=some ⟨g,0,none⟩∧o=l[j]∧w.cell? ⟨g,j,none⟩=some (.pointer (some ⟨o,0,none⟩))∧∃p v,au w o [.int .i64 (ids.getD j 0),p,v] mG
theorem KQ.below{w w':World}{v:Value}{l:List Nat}{ids:List Int}(h:KQ w v l ids)(hb:bz w w'):KQ w' v l ids:=by
 obtain⟨A,c,e,hl,hh⟩:=h;refine⟨A,c,e,hl,fun j hj=>?_⟩;obtain⟨g,o,e1,e2,hc,p,v,hb'⟩:=hh j hj;exact⟨g,o,e1,e2,(hb.cell (World.block_lt_of_cell? w ⟨g,j,none⟩ hc)).trans hc,p,v,hb'.stays (hb.block _ hb'.inside)⟩
end
section
open Go.RowKit aF xk
theorem below_grown{w w':World}(h:bz w w'):w.grownBy w' none:=⟨h.os,h.tape,h.output,h.size,fun k hk _=>h.block k hk⟩
section
variable {w:World}{b b2:Nat}{s s2:Sh}{t u:T}
end
end
section
open Go.RowKit aF xk
structure EC(w:World)(b:Nat)(s:Sh)(H:Int->Prop)(P:Int->Option Int)(K:Int->List Int)(x:Int)(a:Nat)(l:List (Option Nat)):Prop where
 blk:au w b [.map (some s.m)] yL
 map:∃es,MapAt w s.m es∧∀i g,omap.look es i=some g↔H i∧s.g i=g
 node:∀i,H i->i≠x->qg w (s.g i) i ((P i).map s.g) (s.v i) (ks s (K i))
 hole:au w (s.g x) [.int .i64 x,ptrTo ((P x).map s.g),.slice (some ⟨a,0,none⟩) l.length l.length] mG
 row:au w a (l.map ptrTo) jg
 inj:∀i j,H i->H j->s.g i=s.g j->i=j
 apart:∀i j k,H i->H j->i≠x->j≠x->(s.v i).ownBlock=some k->(s.v j).ownBlock=some k->i=j
 new:∀i,H i->i≠x->(s.v i).ownBlock≠some a
section
variable {w w':World}{b:Nat}{s:Sh}{H:Int->Prop}{P:Int->Option Int}{K:Int->List Int}{x:Int}{a:Nat}{l:List (Option Nat)}
theorem EC.stays(h:EC w b s H P K x a l)(hb:∀k cs T,au w k cs T->(T=yL∨T=mG∨k=a)->w'.heap[k]?=w.heap[k]?)(hm:w'.heap[s.m]?=w.heap[s.m]?)(ho:∀i k,H i->i≠x->(s.v i).ownBlock=some k->w'.heap[k]?=w.heap[k]?):EC w' b s H P K x a l:=by
 obtain⟨es,hm',hl⟩:=h.map;exact⟨h.blk.stays (hb _ _ _ h.blk (.inl rfl)),⟨es,hm'.stays hm,hl⟩,fun i hi hx=>(h.node i hi hx).stays (hb _ _ _ (h.node i hi hx).blk (.inr (.inl rfl))) fun k hk=>ho i k hi hx hk,h.hole.stays (hb _ _ _ h.hole (.inr (.inl rfl))),h.row.stays (hb _ _ _ h.row (.inr (.inr rfl))),h.inj,h.apart,h.new⟩
theorem EC.below(h:EC w b s H P K x a l)(hb:bz w w'):EC w' b s H P K x a l:=by
 obtain⟨es,hm',hl⟩:=h.map;exact h.stays (fun k cs T hk _=>hb.block k hk.inside) (hb.block _ hm'.inside) fun i k hi hx hk=>hb.block k (ax.block (h.node i hi hx).own hk).2
theorem EC.move(h:EC w b s H P K x a l)(hb:∀k,k<w.heap.size->w'.heap[k]?=w.heap[k]?):EC w' b s H P K x a l:=by
 obtain⟨es,hm',hl⟩:=h.map;exact h.stays (fun k cs T hk _=>hb k hk.inside) (hb _ hm'.inside) fun i k hi hx hk=>hb k (ax.block (h.node i hi hx).own hk).2
end
end
section
open Go.RowKit aF xk
structure a4V(ar j:Nat)(l:List (Option Nat))(o:Option Nat)(b:Bool)(w:World):Prop where
 no:b=false->au w ar (l.map ptrTo) jg
 yes:b=true->au w ar ((l.set j o).map ptrTo) jg
section
variable {w:World}{b:Nat}{s:Sh}{t:T}
end
end
section
open Go.RowKit aF
structure O4 where
 k:Int
 i:Int
 p:Int
 n:Int
def O4.cs(o:O4):List Value:=(Vl o.k o.i o.p o.n)
structure O4.ok(o:O4):Prop where
 k:I64 o.k
 i:I64 o.i
 p:I64 o.p
 n:I64 o.n
theorem ae.wide{S S' U:bF}{w w':World}(h:ae S S' w w')(hs:∀k,S k->U k):ae U U w w':=
 ⟨h.os,h.tape,h.output,h.size,fun k hk hn=>⟨hn,(h.far k hk fun e=>hn (hs k e)).2⟩⟩
theorem AA.apart{w:World}{A:Option Addr}(hy:AA w A){b:Nat}{s:Sh}{H:Int->Prop}{P:Int->Option Int}{K:Int->List Int}(h:Raw w b s H P K){a:Addr}(e:A=some a):¬jL b s H a.block:=by
 obtain⟨cs,fz,hc⟩:=hy a e;rintro(hk|hk|⟨i,hi,hk|hk⟩)
 ·have h1:w.heap[b]?=_:=h.blk;rw[hk]at hc;have:=hc.symm.trans h1;simp only[Option.some.injEq,Obj.cells.injEq]at this;exact absurd this.2.1 (by decide)
 ·obtain⟨es,hm,_⟩:=h.map;obtain⟨es',clock,h1,_⟩:=hm.own;rw[hk]at hc;have:=hc.symm.trans h1;cases this
 ·have h1:w.heap[s.g i]?=_:=(h.node i hi).blk;rw[hk]at hc;have:=hc.symm.trans h1;simp only[Option.some.injEq,Obj.cells.injEq]at this;exact absurd this.2.1 (by decide)
 ·obtain⟨cur,fr,h1⟩:=(h.node i hi).own.typed hk;have:=hc.symm.trans h1;simp only[Option.some.injEq,Obj.cells.injEq]at this;exact absurd this.2.1 (by decide)
theorem AA.dR{w:World}{A:Option Addr}(hy:AA w A){a:Addr}(e:A=some a){g:Nat}{cs:List Value}{T:TypeId}(hb:au w g cs T)(hT:T≠128):a.block≠g:=fun e2=>by
 obtain⟨cs',fz,hc⟩:=hy a e;have h1:w.heap[g]?=_:=hb;rw[e2]at hc;have:=h1.symm.trans hc;simp only[Option.some.injEq,Obj.cells.injEq]at this;exact hT this.2.1
theorem aP.stays{w w':World}{v:Value}{t:T}(h:aP w v t)(hb:∀A c a,v=.slice A t.length c->AA w A->A=some a->w'.heap[a.block]?=w.heap[a.block]?):aP w' v t:=by
 obtain⟨A,c,e,hr,hy⟩:=h;refine⟨A,c,e,fun hn=>?_,fun a ea=>?_⟩
 ·obtain⟨g,off,ea,hc⟩:=hr hn;refine⟨g,off,ea,fun j hj i v hi=>?_⟩;have h1:=hb A c _ e hy ea;have h2:=hc j hj i v hi;simp only[World.cell?]at h2 ⊢;rw[h1];exact h2
 ·obtain⟨cs,fz,h1⟩:=hy a ea;exact⟨cs,fz,(hb A c a e hy ea).trans h1⟩
section
variable {w w':World}{g b:Nat}{s:Sh}{v:Value}{t:T}
structure DoF(W:World)(g b ob:Nat)(v:Value)(k i p n:Int):Prop where
 p0:W.cell? ⟨g,0,none⟩=some (.pointer (some ⟨b,0,none⟩))
 p1:W.cell? ⟨g,1,none⟩=some v
 pi:g<W.heap.size
 o0:W.cell? ⟨ob,0,none⟩=some (.int .i64 k)
 o1:W.cell? ⟨ob,1,none⟩=some (.int .i64 i)
 o2:W.cell? ⟨ob,2,none⟩=some (.int .i64 p)
 o3:W.cell? ⟨ob,3,none⟩=some (.int .i64 n)
 oi:ob<W.heap.size
theorem aU.turn{w w':World}{S S':bF}{B:Nat}(hS:∀k,S k->k<B){x:Value}{l:List Int}(h:aU w B x l)(ht:ae S S' w w'):aU w' B x l:=
 ax.stays h fun g hg=>(ht.far g (ax.block h hg).2 (fun e=>by have:=hS g e;have:=(ax.block h hg).1;omega)).2
structure DoJ(b:Nat)(s:Sh)(t t':T)(w0:World)(d:Bool)(w:World):Prop where
 no:d=false->aX w b s t
 yes:d=true->∃s',aX w b s' t'∧ae (gq b s t) (gq b s' t') w0 w
end
end
section
section
open Go.RowKit fG gm
structure Lk where
 k:Int
 W:Int
 H:Int
 p:Nat
 iw:Int
 ih:Int
 l:List Nat
structure Nd where
 m:Mp
 op:Int
 hi:Bool
 cl:Bool
 r:Bx
 lk:Lk
structure dH where
 k:Int
 i:Int
 p:Int
 n:Int
 m:Mp
 r:Bx
 on:Bool
 N:Int
 lk:Lk
def Lk.cs(q:Lk)(A:Option Addr)(c:Nat):List Value:=(Vj q.k q.W q.H q.p q.iw q.ih A q.l.length c)
def Bx.QL(r:Bx):List Value:=(Vl r.a r.b r.c r.d)
def Nd.cs(n:Nd)(A:Option Addr)(c:Nat):List Value:=(Vc n.m.a n.m.b n.m.c n.m.d n.m.e n.m.f n.op n.hi n.cl n.r.a n.r.b n.r.c n.r.d n.lk.k n.lk.W n.lk.H n.lk.p n.lk.iw n.lk.ih A n.lk.l.length c)
def dH.cs(o:dH)(A:Option Addr)(c:Nat):List Value:=[.int .i64 o.k,.int .i64 o.i,.int .i64 o.p,.int .i64 o.n,.int .i64 o.m.a,.int .i64 o.m.b,.int .i64 o.m.c,.int .i64 o.m.d,.int .i64 o.m.e,.int .i64 o.m.f,.int .i64 o.r.a,.int .i64 o.r.b,.int .i64 o.r.c,.int .i64 o.r.d,.bool o.on,.int .i64 o.N,
 .int .i64 o.lk.k,.int .i64 o.lk.W,.int .i64 o.lk.H,.int .u32 (o.lk.p:Nat),.int .i64 o.lk.iw,.int .i64 o.lk.ih,.slice A o.lk.l.length c]
def dZ(n:Nd)(A:Option Addr)(c:Nat)(u:Mp):List Value:=[.int .i64 n.m.a,.int .i64 n.m.b,.int .i64 n.m.c,.int .i64 n.m.d,.int .i64 n.m.e,.int .i64 n.m.f,.int .i64 n.op,.bool n.hi,.bool n.cl,.int .i64 n.r.a,.int .i64 n.r.b,.int .i64 n.r.c,.int .i64 n.r.d,
 .int .i64 n.lk.k,.int .i64 n.lk.W,.int .i64 n.lk.H,.int .u32 (n.lk.p:Nat),.int .i64 n.lk.iw,.int .i64 n.lk.ih,.slice A n.lk.l.length c,.int .i64 u.a,.int .i64 u.b,.int .i64 u.c,.int .i64 u.d,.int .i64 u.e,.int .i64 u.f]
def Nd.v(n:Nd)(A:Option Addr)(c:Nat):Value:=.agg (n.cs A c).toArray
def dH.v(o:dH)(A:Option Addr)(c:Nat):Value:=.agg (o.cs A c).toArray
def YI(n:Nd)(A:Option Addr)(c:Nat)(u:Mp):Value:=.agg (dZ n A c u).toArray
theorem Nd.one(n:Nd)(A:Option Addr)(c:Nat):(n.cs A c).all (·.oneCell')=true:=rfl
theorem Lk.one(q:Lk)(A:Option Addr)(c:Nat):(q.cs A c).all (·.oneCell')=true:=rfl
theorem Mp.one1(m:Mp):m.cs.all (·.oneCell')=true:=rfl
theorem dH.one(o:dH)(A:Option Addr)(c:Nat):(o.cs A c).all (·.oneCell')=true:=rfl
theorem Gg(n:Nd)(A:Option Addr)(c:Nat)(u:Mp):(dZ n A c u).all (·.oneCell')=true:=rfl
def Nd.plain:Nd:=⟨Mp.one,255,false,false,Bx.o,⟨0,0,0,0,0,0,[]⟩⟩
def Nd.chk(n:Nd):Int:=Jw n.m n.op n.cl n.r (Bz n.lk.k n.lk.W n.lk.H n.lk.p n.lk.iw n.lk.ih n.lk.l)
def bT(n:Nd)(o:dH):Nd:=
 if o.k=4 then { n with m:=o.m } else if o.k=5 then { n with cl:=o.on,r:=o.r } else if o.k=6 then { n with op:=o.N } else if o.k=7 then { n with lk:=o.lk } else if o.k=8 then { n with hi:=o.on } else n
def aW{α:Type}(o:dH)(x y:α):α:=if o.k=7 then x else y
theorem on_any(o:dH)(Ao:Option Addr)(co:Nat)(n:Nd)(An:Option Addr)(cn:Nat)(w:World) :
  Calls prog 124 #[o.v Ao co,n.v An cn] w (aZ ((bT n o).v (aW o Ao An) (aW o co cn)) w):=by
 have HB0:Hid (bz w (((w.alloc (.cells (o.cs Ao co).toArray 85)).alloc (.cells (n.cs An cn).toArray 77)).alloc (.cells Va.toArray 77))):=((bR.alloc nR _).alloc (by simp) _).alloc (by simp;omega) _;have jM:Hid (az (((w.alloc (.cells (o.cs Ao co).toArray 85)).alloc (.cells (n.cs An cn).toArray 77)).alloc (.cells Va.toArray 77)) w.heap.size (o.cs Ao co)):=((aA w (o.cs Ao co) _).alloc _).alloc _
 have xN:Hid (az (((w.alloc (.cells (o.cs Ao co).toArray 85)).alloc (.cells (n.cs An cn).toArray 77)).alloc (.cells Va.toArray 77)) (w.heap.size+1) (n.cs An cn)):=(aY (w.alloc _) _ (by simp) (n.cs An cn) _).alloc _;have jd:Hid (az (((w.alloc (.cells (o.cs Ao co).toArray 85)).alloc (.cells (n.cs An cn).toArray 77)).alloc (.cells Va.toArray 77)) (w.heap.size+2) Va):=aY ((w.alloc _).alloc _) _ (by simp) Va _;have iL:Hid ((((w.alloc (.cells (o.cs Ao co).toArray 85)).alloc (.cells (n.cs An cn).toArray 77)).alloc (.cells Va.toArray 77)).heap.size=w.heap.size+3):=by show _=_;simp
 obtain⟨X,hX⟩:=aC ((bT n o).v (aW o Ao An) (aW o co cn))
 have HX:=Hd hX;rw[hX];clear hX;unfold dH.v Nd.v;go_enter func124,ntmps124
 go_upto_region 1 with(fail)
 generalize (((w.alloc (.cells (o.cs Ao co).toArray 85)).alloc (.cells (n.cs An cn).toArray 77)).alloc (.cells Va.toArray 77))=wz at*;have c0:=jM.o.c 0 rfl;have c14:=jM.o.c 14 rfl;have c15:=jM.o.c 15 rfl;have i0:w.heap.size<wz.heap.size:=jM.o.inside;have i1:w.heap.size+1<wz.heap.size:=xN.o.inside;by_cases h4:o.k=4
 ·have t4:(o.k==4)=true:=by simpa using h4
  have HE:Hid (X=.agg ((({ n with m:=o.m }:Nd).cs An cn)).toArray):=by show _=_;rw[←HX.o,show bT n o={ n with m:=o.m } from by unfold bT;rw[if_pos h4],show aW o Ao An=An from if_neg (by omega),show aW o co cn=cn from if_neg (by omega)];rfl
  clear h4
  go_upto_region 12 with(first|(with_reducible refine gL ?_;first|(refine wt 67 4 rfl rfl rfl jM.o (o.m.cs) rfl underlying67 rfl ?_))|(with_reducible refine gS ?_;first|(refine ay 67 _ _ rfl rfl rfl _ 0 rfl (o.m.cs) rfl (n.cs An cn) xN.o (({ n with m:=o.m }:Nd).cs An cn) rfl (nE rfl) ag (Mp.one1 _) ?_;intro w2 HW2 dE)))
  have HR2:=Hd (HW2.o.blk (show w.heap.size+2≠w.heap.size+1 by omega) jd.o);have HB2:=Hd (HW2.o.below HB0.o (by omega));go_wp2_with (first|(with_reducible refine gL ?_;first|(refine wt 77 0 rfl rfl rfl dE.o (({ n with m:=o.m }:Nd).cs An cn) rfl underlying77 rfl ?_))|(with_reducible refine gS ?_;first|(refine ay 77 _ _ rfl rfl rfl _ 0 rfl (({ n with m:=o.m }:Nd).cs An cn) rfl (Va) HR2.o (({ n with m:=o.m }:Nd).cs An cn) rfl (nE rfl) ag (Nd.one _ _ _) ?_;intro w3 HW3 dM)));rw[HE.o]
  exact bJ rfl rfl dM.o underlying77 rfl ag ⟨rfl,HW3.o.below HB2.o (by omega)⟩
 by_cases h5:o.k=5
 ·have t4:(o.k==4)=false:=by simpa using h4
  have t5:(o.k==5)=true:=by simpa using h5
  have HE:Hid (X=.agg ((({ n with cl:=o.on,r:=o.r }:Nd).cs An cn)).toArray):=by show _=_;rw[←HX.o,show bT n o={ n with cl:=o.on,r:=o.r } from by unfold bT;rw[if_neg h4,if_pos h5],show aW o Ao An=An from if_neg (by omega),show aW o co cn=cn from if_neg (by omega)];rfl
  clear h4;clear h5
  have AY:Hid (JF w.heap.size [(w.heap.size,o.cs Ao co),(w.heap.size+2,Va)] (w.heap.size+1) (n.cs An cn) wz):=⟨⟨jM.o,jd.o,trivial⟩,by omega,by simp,by omega,xN.o⟩
  go_upto_region 5 with(fail)
  refine wR (Below w.heap.size) (fun L wx=>JF w.heap.size [(w.heap.size,o.cs Ao co),(w.heap.size+2,Va)] (w.heap.size+1) [.int .i64 n.m.a,.int .i64 n.m.b,.int .i64 n.m.c,.int .i64 n.m.d,.int .i64 n.m.e,.int .i64 n.m.f,.int .i64 n.op,.bool n.hi,bif L 5 then .bool o.on else .bool n.cl,bif L 7 then .int .i64 o.r.a else .int .i64 n.r.a,bif L 7 then .int .i64 o.r.b else .int .i64 n.r.b,bif L 7 then .int .i64 o.r.c else .int .i64 n.r.c,bif L 7 then .int .i64 o.r.d else .int .i64 n.r.d,.int .i64 n.lk.k,.int .i64 n.lk.W,.int .i64 n.lk.H,.int .u32 (n.lk.p:Nat),.int .i64 n.lk.iw,.int .i64 n.lk.ih,.slice An n.lk.l.length cn] wx) [14,15,16,17,18,19] (fun _=>bR) (fun _ _ _ h k=>h.trans k) (fun i=>match i with
   |0=>rp w.heap.size 14
   |1=>rV (.bool o.on)
   |2=>rp w.heap.size 10
   |3=>rV (.agg (o.r.QL).toArray)
   |4=>rp (w.heap.size+1) 8
   |6=>rp (w.heap.size+1) 9
   |_=>ra) (bR.drew) (AY.o.below bR.drew) ⟨?_,?_,?_,?_,?_,?_,?_,?_,trivial⟩ ?_
  any_goals (first|refine zp fun L a w1 hh=>?_|fail)
  have h2:=hh.p 2 w.heap.size 0;have i0:=(hh.st.old.1).inside;rotate_left;have xI:=rq (hh.d 0 14);have ⟨c0,i0⟩:=(hh.st.old.1).ci 14 rfl;rotate_left;have h2:=hh.p 2 w.heap.size 0;have i0:=(hh.st.old.1).inside;rotate_left
  ·have h16:=rq (hh.d 2 16);have hB:=Hd (hh.st.old.1);have hJ:=Hd hh.st;exact aK 69 _ rfl w.heap.size 10 (by simpa[go_sem]using h16) _ hB.o (o.r.QL) rfl _ underlying69 rfl ag ⟨_,rfl,bR,rfl,hJ.o⟩
  have h3:=hh.p 3 ((w.heap.size+1)) 0;have i0:=(hh.st.blk).inside;rotate_left
  ·have h15:=rq (hh.d 1 15);have h18:=rq (hh.d 4 18);have hB:=hh.st.blk;rw[hh.un]at hB;have c0:=hB.cell 8;have f0:=hB.free 8;have i0:=hB.inside;simp only[List.getElem?_cons_zero,List.getElem?_cons_succ]at c0;have hP:=Hd (hh.st.put (i:=8) (v:=.bool o.on) rfl);clear hh hB;go_simp;exact⟨hP.o.2,⟨undef,trivial⟩,hP.o.1⟩
  have h3:=hh.p 3 ((w.heap.size+1)) 0;have i0:=(hh.st.blk).inside;rotate_left
  ·have h17:=rq (hh.d 3 17);have h19:=rq (hh.d 6 19);have hJ:=Hd hh.st;refine dn 69 _ _ rfl (w.heap.size+1) 9 (by simpa[go_sem]using h19) (o.r.QL) (by simpa[go_sem]using h17) _ hJ.o.blk (nE rfl) ag (by rfl) ?_;intro w9 ng gK;have hP:=hJ.o.wrote ng gK;exact⟨undef,rfl,hP.2,trivial,hP.1⟩
  any_goals (have hJ:=hh.j;clear hh;go_simp;exact⟨_,rfl,bR,rfl,hJ.o⟩)
  intro L w4 val hL hJ hR hv;have HR4:=Hd hR;have QT:=Hd hJ;have e5:=hL 5 (by decide);have e7:=hL 7 (by decide);rw[e5,e7]at QT;clear hv hL hJ hR e5 e7;simp only[regs.aG,List.map_cons,List.map_nil];simp only[Act.put,List.setIfInBounds_toArray,List.set_cons_zero,List.set_cons_succ]
  skip
  have dE:Hid (az w4 (w.heap.size+1) (({ n with cl:=o.on,r:=o.r }:Nd).cs An cn)):=QT.o.blk;have HR2:=Hd QT.o.old.2.1;have HB2:Hid (bz w w4):=HB0.o.trans HR4.o;clear QT
  go_wp2_with (first|(with_reducible refine gL ?_;first|(refine wt 77 0 rfl rfl rfl dE.o (({ n with cl:=o.on,r:=o.r }:Nd).cs An cn) rfl underlying77 rfl ?_))|(with_reducible refine gS ?_;first|(refine ay 77 _ _ rfl rfl rfl _ 0 rfl (({ n with cl:=o.on,r:=o.r }:Nd).cs An cn) rfl (Va) HR2.o (({ n with cl:=o.on,r:=o.r }:Nd).cs An cn) rfl (nE rfl) ag (Nd.one _ _ _) ?_;intro w3 HW3 dM)));rw[HE.o];exact bJ rfl rfl dM.o underlying77 rfl ag ⟨rfl,HW3.o.below HB2.o (by omega)⟩
 by_cases h6:o.k=6
 ·have t4:(o.k==4)=false:=by simpa using h4
  have t5:(o.k==5)=false:=by simpa using h5
  have t6:(o.k==6)=true:=by simpa using h6
  have HE:Hid (X=.agg ((({ n with op:=o.N }:Nd).cs An cn)).toArray):=by show _=_;rw[←HX.o,show bT n o={ n with op:=o.N } from by unfold bT;rw[if_neg h4,if_neg h5,if_pos h6],show aW o Ao An=An from if_neg (by omega),show aW o co cn=cn from if_neg (by omega)];rfl
  clear h4;clear h5;clear h6;have d6:=xN.o.cell 6;have f6:=xN.o.free 6
  have HS:Hid (Wrote (w.heap.size+1) wz (wz.setCell ⟨w.heap.size+1,6,none⟩ (.int .i64 o.N))):=⟨6,[.int .i64 o.N],rfl⟩
  have dE:Hid (az (wz.setCell ⟨w.heap.size+1,6,none⟩ (.int .i64 o.N)) (w.heap.size+1) (({ n with op:=o.N }:Nd).cs An cn)):=xN.o.set 6 _;have HR2:=Hd (HS.o.blk (show w.heap.size+2≠w.heap.size+1 by omega) jd.o);have HB2:=Hd (HS.o.below HB0.o (by omega));simp only[Nd.cs,List.getElem?_cons_zero,List.getElem?_cons_succ]at d6
  go_wp2_with (first|(with_reducible refine gL ?_;first|(refine wt 77 0 rfl rfl rfl dE.o (({ n with op:=o.N }:Nd).cs An cn) rfl underlying77 rfl ?_))|(with_reducible refine gS ?_;first|(refine ay 77 _ _ rfl rfl rfl _ 0 rfl (({ n with op:=o.N }:Nd).cs An cn) rfl (Va) HR2.o (({ n with op:=o.N }:Nd).cs An cn) rfl (nE rfl) ag (Nd.one _ _ _) ?_;intro w3 HW3 dM)));rw[HE.o];exact bJ rfl rfl dM.o underlying77 rfl ag ⟨rfl,HW3.o.below HB2.o (by omega)⟩
 by_cases h7:o.k=7
 ·have t4:(o.k==4)=false:=by simpa using h4
  have t5:(o.k==5)=false:=by simpa using h5
  have t6:(o.k==6)=false:=by simpa using h6
  have t7:(o.k==7)=true:=by simpa using h7
  have HE:Hid (X=.agg ((({ n with lk:=o.lk }:Nd).cs Ao co)).toArray):=by show _=_;rw[←HX.o,show bT n o={ n with lk:=o.lk } from by unfold bT;rw[if_neg h4,if_neg h5,if_neg h6,if_pos h7],show aW o Ao An=Ao from if_pos h7,show aW o co cn=co from if_pos h7];rfl
  clear h4;clear h5;clear h6;clear h7
  go_upto_region 12 with(first|(with_reducible refine gL ?_;first|(refine wt 75 16 rfl rfl rfl jM.o (o.lk.cs Ao co) rfl underlying75 rfl ?_))|(with_reducible refine gS ?_;first|(refine ay 75 _ _ rfl rfl rfl _ 13 rfl (o.lk.cs Ao co) rfl (n.cs An cn) xN.o (({ n with lk:=o.lk }:Nd).cs Ao co) rfl (nE rfl) ag (Lk.one _ _ _) ?_;intro w2 HW2 dE)))
  have HR2:=Hd (HW2.o.blk (show w.heap.size+2≠w.heap.size+1 by omega) jd.o);have HB2:=Hd (HW2.o.below HB0.o (by omega));go_wp2_with (first|(with_reducible refine gL ?_;first|(refine wt 77 0 rfl rfl rfl dE.o (({ n with lk:=o.lk }:Nd).cs Ao co) rfl underlying77 rfl ?_))|(with_reducible refine gS ?_;first|(refine ay 77 _ _ rfl rfl rfl _ 0 rfl (({ n with lk:=o.lk }:Nd).cs Ao co) rfl (Va) HR2.o (({ n with lk:=o.lk }:Nd).cs Ao co) rfl (nE rfl) ag (Nd.one _ _ _) ?_;intro w3 HW3 dM)));rw[HE.o]
  exact bJ rfl rfl dM.o underlying77 rfl ag ⟨rfl,HW3.o.below HB2.o (by omega)⟩
 by_cases h8:o.k=8
 ·have t4:(o.k==4)=false:=by simpa using h4
  have t5:(o.k==5)=false:=by simpa using h5
  have t6:(o.k==6)=false:=by simpa using h6
  have t7:(o.k==7)=false:=by simpa using h7
  have t8:(o.k==8)=true:=by simpa using h8
  have HE:Hid (X=.agg ((({ n with hi:=o.on }:Nd).cs An cn)).toArray):=by show _=_;rw[←HX.o,show bT n o={ n with hi:=o.on } from by unfold bT;rw[if_neg h4,if_neg h5,if_neg h6,if_neg h7,if_pos h8],show aW o Ao An=An from if_neg (by omega),show aW o co cn=cn from if_neg (by omega)];rfl
  clear h4;clear h5;clear h6;clear h7;clear h8;have d7:=xN.o.cell 7;have f7:=xN.o.free 7
  have HS:Hid (Wrote (w.heap.size+1) wz (wz.setCell ⟨w.heap.size+1,7,none⟩ (.bool o.on))):=⟨7,[.bool o.on],rfl⟩
  have dE:Hid (az (wz.setCell ⟨w.heap.size+1,7,none⟩ (.bool o.on)) (w.heap.size+1) (({ n with hi:=o.on }:Nd).cs An cn)):=xN.o.set 7 _;have HR2:=Hd (HS.o.blk (show w.heap.size+2≠w.heap.size+1 by omega) jd.o);have HB2:=Hd (HS.o.below HB0.o (by omega));simp only[Nd.cs,List.getElem?_cons_zero,List.getElem?_cons_succ]at d7
  go_wp2_with (first|(with_reducible refine gL ?_;first|(refine wt 77 0 rfl rfl rfl dE.o (({ n with hi:=o.on }:Nd).cs An cn) rfl underlying77 rfl ?_))|(with_reducible refine gS ?_;first|(refine ay 77 _ _ rfl rfl rfl _ 0 rfl (({ n with hi:=o.on }:Nd).cs An cn) rfl (Va) HR2.o (({ n with hi:=o.on }:Nd).cs An cn) rfl (nE rfl) ag (Nd.one _ _ _) ?_;intro w3 HW3 dM)));rw[HE.o];exact bJ rfl rfl dM.o underlying77 rfl ag ⟨rfl,HW3.o.below HB2.o (by omega)⟩
 have t4:(o.k==4)=false:=by simpa using h4
 have t5:(o.k==5)=false:=by simpa using h5
 have t6:(o.k==6)=false:=by simpa using h6
 have t7:(o.k==7)=false:=by simpa using h7
 have t8:(o.k==8)=false:=by simpa using h8
 have HE:Hid (X=.agg (((n:Nd).cs An cn)).toArray):=by show _=_;rw[←HX.o,show bT n o=n from by unfold bT;rw[if_neg h4,if_neg h5,if_neg h6,if_neg h7,if_neg h8],show aW o Ao An=An from if_neg (by omega),show aW o co cn=cn from if_neg (by omega)];rfl
 clear h4;clear h5;clear h6;clear h7;clear h8;go_wp2_with (first|(with_reducible refine gL ?_;first|(refine wt 77 0 rfl rfl rfl xN.o ((n:Nd).cs An cn) rfl underlying77 rfl ?_))|(with_reducible refine gS ?_;first|(refine ay 77 _ _ rfl rfl rfl _ 0 rfl ((n:Nd).cs An cn) rfl (Va) jd.o ((n:Nd).cs An cn) rfl (nE rfl) ag (Nd.one _ _ _) ?_;intro w3 HW3 dM)));rw[HE.o];exact bJ rfl rfl dM.o underlying77 rfl ag ⟨rfl,HW3.o.below HB0.o (by omega)⟩
end
end
end Go.Proofs.YthmegninhpihkaaGreat
