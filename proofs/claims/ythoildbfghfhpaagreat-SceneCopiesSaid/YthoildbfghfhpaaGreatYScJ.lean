import Derived.Test.YthoildbfghfhpaaGreatYScI
set_option maxHeartbeats 16000000
set_option maxRecDepth 100000
namespace Go.Proofs.YthoildbfghfhpaaGreat
open Go.RowKit trm itr Go.Shelf
attribute [local go_sem] Oper.semAt_some
structure KS (S:Bset) (A W:World):Prop where
 os:W.os=A.os
 tape:W.tape=A.tape
 output:W.output=A.output
 size:A.heap.size<=W.heap.size
 same:∀ k,k<A.heap.size->¬ S k->W.heap[k]?=A.heap[k]?
theorem KS.refl (S:Bset) (A:World):KS S A A:=⟨rfl,rfl,rfl,nR,fun _ _ _=>rfl⟩
theorem KS.step {S:Bset} {A W W':World} (h:KS S A W) (h1:W'.os=W.os) (h2:W'.tape=W.tape) (h3:W'.output=W.output) (h4:W.heap.size<=W'.heap.size) (hs:∀ k,k<A.heap.size->¬ S k->W'.heap[k]?=W.heap[k]?):KS S A W':=
 ⟨h1.trans h.os,h2.trans h.tape,h3.trans h.output,Nat.le_trans h.size h4,fun k hk hn=>(hs k hk hn).trans (h.same k hk hn)⟩
theorem KS.below {S:Bset} {A W W':World} (h:KS S A W) (hb:Below A.heap.size W W'):KS S A W':=h.step hb.os hb.tape hb.output hb.size fun k hk _=>hb.block k hk
theorem KS.grown {S:Bset} {A W W':World} {row:Option Nat} (h:KS S A W) (hg:W.grownBy W' row) (hr:∀ j,row=some j->A.heap.size<=j∨S j):KS S A W':=h.step hg.os hg.tape hg.output hg.size fun k hk hn=>hg.block k (Nat.lt_of_lt_of_le hk h.size) fun e=>by
 rcases hr k e.symm with h1 | h1
 ·omega
 ·exact hn h1
theorem KS.bk {S:Bset} {A W W':World} (h:KS S A W) (hb:Bk A.heap.size W W'):KS S A W':=h.below (hb.below nR h.size)
theorem KS.st {S:Bset} {T:TypeId->Bool} {n:Nat} {A W W':World} (h:KS S A W) (hs:ST T n W W') (hn:A.heap.size<=n):KS S A W':=h.below (hs.to_below hn h.size)
theorem KS.turn {S S':Bset} {A W W':World} (h:KS S A W) (ht:TurnP S' S' W W') (hs:∀ k,k<A.heap.size->S' k->S k):KS S A W':=h.step ht.os ht.tape ht.output ht.size fun k hk hn=>(ht.far k (Nat.lt_of_lt_of_le hk h.size) fun e=>hn (hs k hk e)).2
theorem MapAt.st {w w':World} {m:Nat} {es:L} {T:TypeId->Bool} {n:Nat} (h:MapAt w m es) (hs:ST T n w w'):MapAt w' m es:=by
 obtain ⟨es',clock,h1,h2⟩:=h.own;exact h.stays ((hs.far m _ h1 fun _=>⟨rfl,fun _ _ _ e=>(nomatch e)⟩).trans h1.symm)
theorem MapAt.bk {w w':World} {m:Nat} {es:L} {B:Nat} (h:MapAt w m es) (hb:Bk B w w'):MapAt w' m es:=by
 obtain ⟨es',clock,h1,h2⟩:=h.own;exact h.stays ((hb.keep h1 rfl).trans h1.symm)
structure DJ (w5:World) (m:Nat) (es:L) (b:Bool) (wx:World):Prop where
 yes:b=true->MapAt wx m es∧w5.grownBy wx (some m)
 no:b=false->wx=w5
def S1 (g:Nat) (v:Value):Bset:=fun k=>k=g∨v.ownBlock=some k
structure H1 (W0:World) (base g:Nat) (v:Value) (l:List Int) (x:Int) (i5 i6 i7:Bool) (xb xa:Value) (w:World):Prop where
 rel:TurnP (S1 g v) (S1 g v) W0 w
 bsz:base<=w.heap.size
 one:Half base g v l x i5 i6 i7 xb xa w
section
variable {W0:World} {base g:Nat} {v:Value} {l:List Int} {x:Int} {i5 i6 i7:Bool} {xb xa:Value} {w w':World}
theorem H1.slots {ub ua:Value} (h:H1 W0 base g v l x i5 i6 i7 xb xa w) (e1:ub=xb) (e2:ua=xa):H1 W0 base g v l x i5 i6 i7 ub ua w:=by
 rw [e1,e2];exact h
theorem H1.make (h:H1 W0 base g v l x i5 i6 i7 xb xa w) (eA:i6=false):H1 W0 base g v l x true i6 i7 (.slice (some ⟨w.heap.size,0,none⟩) 1 1) xa (w.alloc (.cells #[.int .i64 x] tInt)):=by
 have hb:Below w.heap.size w (w.alloc (.cells #[.int .i64 x] tInt)):=bR.alloc nR _;exact ⟨h.rel.trans (TurnP.below hb),Nat.le_trans h.bsz hb.size,h.one.make eA⟩
theorem H1.app (h:H1 W0 base g v l x i5 i6 i7 xb xa w) (eB:i5=true) (eA:i6=false) (hn:l.length<=900000) :
  ∃ v' w',(Builtin.append_ #[tInts,tInts] tInts #[v,xb]).run Tryz.prog w=.ok v' w'∧H1 W0 base g v l x i5 true i7 xb v' w'∧TurnP (S1 g v) (S1 g v) w w':=by
 obtain ⟨v',w',h1,h2,h3,h4⟩:=h.one.app eB eA hn h.bsz;have ht:TurnP (S1 g v) (S1 g v) w w':=TurnP.grown h3 fun k hk=>.inr hk;exact ⟨v',w',h1,⟨h.rel.trans ht,Nat.le_trans h.bsz h3.size,h2⟩,ht⟩
theorem H1.put (h:H1 W0 base g v l x i5 i6 i7 xb xa w) (eA:i6=true):H1 W0 base g v l x i5 i6 true xb xa (w.setCell ⟨g,0,none⟩ xa)∧TurnP (S1 g v) (S1 g v) w (w.setCell ⟨g,0,none⟩ xa):=by
 have ht:TurnP (S1 g v) (S1 g v) w (w.setCell ⟨g,0,none⟩ xa):=TurnP.set (a:=⟨g,0,none⟩) (.inl rfl) xa;exact ⟨⟨h.rel.trans ht,by simpa [World.setCell] using h.bsz,h.one.put eA⟩,ht⟩
end
section
variable {w:World} {b:Nat} {s:Sh} {t:T}
def RmQ (b:Nat) (s:Sh) (t:T) (r:T×List Int×Int) (w:World) (e:Ending) (w':World):Prop:=
 ∃ s' v,e=.returned (.tuple #[v,.int .i64 r.2.2])∧TreeAt w' b s' r.1∧IOwn w' w.heap.size v r.2.1∧TurnP (FootT b s t) (FootT b s' r.1) w w'
theorem walk_no_up (ok:Ok t) {i x:Int} (hi:i∈ids t) (hx:x∈trm.walk t i):(kids t x).filter (fun k=>decide (k≠i))=kids t x:=List.filter_eq_self.2 fun k hk=>by
 rw [decide_eq_true_eq];rintro rfl;obtain ⟨h1,h2⟩:=not_within_par ok hi;rw [(ok.kid hk).2] at h1 h2;rcases (walk_mem ok (.inr hi)).1 hx with e | e
 ·exact h1 e
 ·rw [h2] at e;cases e
theorem wd_ids (t:T) (i:Int) (d:Nat):(wd t i d).map (·.1)=trm.walk t i:=by
 unfold wd;rw [List.map_map];exact List.map_id' _
theorem tremove (h:TreeAt w b s t) (hn:t.length<=1000) (i:Int) (hi:I64 i) :
  Calls Tryz.prog 148 #[.pointer (some ⟨b,0,none⟩),.int .i64 i] w (RmQ b s t (remS t i) w):=by
 obtain ⟨R,hR⟩:∃ R,remS t i=R:=⟨_,rfl⟩
 have HQ:=Hd hR;rw [hR];clear hR;unfold remS at HQ
 obtain ⟨w0,hw0⟩:∃ w0,w0=w.alloc (.cells #[.pointer (some ⟨b,0,none⟩)] 102):=⟨_,rfl⟩
 have hb0:Below w.heap.size w w0:=by rw [hw0];exact bR.alloc nR _
 have hx0:BlkT w0 w.heap.size [.pointer (some ⟨b,0,none⟩)] 102:=by rw [hw0];exact BlkT.new w _ _
 have HT0:=Hd (h.below hb0);have HT:=Hd h;have HKD:=Hd (tkid (h.below hb0) i hi);have HB0:=Hd hb0;have HX0:=Hd hx0;unfold kidV kidC at HKD;have HW0:=Hd hw0;by_cases h1:i=0
 ·have HQ2:=Hd (HQ.out.symm.trans (if_pos h1));simp only [if_pos h1] at HKD;rw [if_neg (by decide)] at HKD;rw [hw0] at HKD;clear h1 HQ h hn hi hw0 hb0 hx0;refine calls_of_marks Tryz.func148 rfl ?_;simp only [Tryz.ntmps148,List.size_toArray,List.length_cons,List.length_nil,Nat.reduceAdd,Nat.reduceSub,Array.replicate_succ,Array.replicate_zero,List.push_toArray,List.append_toArray,List.nil_append,List.cons_append];go_wp2_with (fail);refine HKD.out.mono ?_;rintro e w1 ⟨rfl,hw1⟩;rw [← HW0.out] at hw1;subst hw1;go_wp2_with (fail)
  refine postM_ret w.heap.size trivial fun w' hb=>⟨_,results_tmp2 rfl _ _ _,?_⟩
  rw [HQ2.out];have hb1:=HB0.out.trans (hb.below nR HB0.out.size);exact ⟨s,_,rfl,HT.out.below hb1,SOwn.nil _ _,TurnP.below hb1⟩
 have HQ1:=Hd (HQ.out.symm.trans (if_neg h1));simp only [if_neg h1] at HKD;clear HQ;by_cases hx:has t i=true
 case neg=>
  have hx':has t i=false:=by simpa using hx
  have HQ2:=Hd (HQ1.out.trans (if_pos hx'));simp only [if_pos hx'] at HKD;rw [if_neg (by decide)] at HKD;rw [hw0] at HKD;clear h1 HQ1 h hn hi hx hx' hw0 hb0 hx0;refine calls_of_marks Tryz.func148 rfl ?_;simp only [Tryz.ntmps148,List.size_toArray,List.length_cons,List.length_nil,Nat.reduceAdd,Nat.reduceSub,Array.replicate_succ,Array.replicate_zero,List.push_toArray,List.append_toArray,List.nil_append,List.cons_append];go_wp2_with (fail);refine HKD.out.mono ?_;rintro e w1 ⟨rfl,hw1⟩;rw [← HW0.out] at hw1;subst hw1;go_wp2_with (fail)
  refine postM_ret w.heap.size trivial fun w' hb=>⟨_,results_tmp2 rfl _ _ _,?_⟩
  rw [HQ2.out];have hb1:=HB0.out.trans (hb.below nR HB0.out.size);exact ⟨s,_,rfl,HT.out.below hb1,SOwn.nil _ _,TurnP.below hb1⟩
 have hx':¬ has t i=false:=by simp [hx]
 have HQ2:=Hd (HQ1.out.trans (if_neg hx'));simp only [if_neg hx',if_true] at HKD;have hii:=(has_iff.1 hx).resolve_left h1;rw [hw0] at HKD;have HLV:=Hd (tleave (h.below hb0) (by omega) hii);have HI:=Hd hii;have HN:=Hd hn;clear HQ1 hx' h1 h hn hi hx hii hw0 hb0 hx0;refine calls_of_marks Tryz.func148 rfl ?_;simp only [Tryz.ntmps148,List.size_toArray,List.length_cons,List.length_nil,Nat.reduceAdd,Nat.reduceSub,Array.replicate_succ,Array.replicate_zero,List.push_toArray,List.append_toArray,List.nil_append,List.cons_append];go_wp2_with (fail);refine HKD.out.mono ?_;rintro e w1 ⟨rfl,hw1⟩
 rw [← HW0.out] at hw1;subst hw1;go_wp2_with (fail);refine HLV.out.mono ?_;rintro e w2 ⟨v',rfl,hraw,hT⟩
 obtain ⟨s2,hs2⟩:∃ s2:Sh,s2=⟨s.m,s.g,setf s.v (par t i) v'⟩:=⟨_,rfl⟩
 have hsg:s2.g=s.g:=by rw [hs2]
 have hsm:s2.m=s.m:=by rw [hs2]
 rw [← hs2] at hraw hT;have HRW:=Hd hraw;have HT2:=Hd hT
 have hx2:BlkT w2 w.heap.size [.pointer (some ⟨b,0,none⟩)] 102:=HX0.out.stays (hT.far _ HX0.out.inside fun e=>by
  have hb0:=HB0.out;rcases e with e | e | ⟨j,hj,e | e⟩
  ·have:=HT.out.raw.blk.inside;omega
  ·obtain ⟨es,hm,_⟩:=HT.out.raw.map;have:=hm.inside;omega
  ·have:=(HT.out.raw.node j hj).blk.inside;omega
  ·have:=(SOwn.block (HT.out.raw.node j hj).own e).2;omega).2
 have HX2:=Hd hx2;have HS2:=Hd (And.intro hsg hsm);clear hraw hT hx2 HLV HKD hs2 hsg hsm;go_wp2_with (fail)
 obtain ⟨w3,hw3⟩:∃ w3,w3=w2.alloc (.cells #[.slice none 0 0] tInts):=⟨_,rfl⟩
 have HW3:=Hd hw3;rw [show w2.alloc (Obj.cells #[Value.slice none 0 0] 42)=w3 from hw3.symm];clear hw3;refine (nwalk (s.g i) w3).mono ?_;rintro e w4 ⟨rfl,hw4⟩;have hb3:Below w2.heap.size w2 w3:=by rw [HW3.out];exact bR.alloc nR _
 have hb4:Below w3.heap.size w3 w4:=by rw [hw4];exact bR.alloc nR _
 have hg3:BlkT w3 w2.heap.size [.slice none 0 0] tInts:=by rw [HW3.out];exact BlkT.new w2 _ _
 have hc4:BlkT w4 w3.heap.size [.pointer (some ⟨s.g i,0,none⟩)] tPtr:=by rw [hw4];exact BlkT.new w3 _ _
 have hb24:Below w2.heap.size w2 w4:=hb3.trans (hb4.mono hb3.size);have HB24:=Hd hb24;have HG4:Hid (BlkT w4 w2.heap.size [.slice none 0 0] tInts):=hg3.stays (hb4.block _ hg3.inside);have HX4:Hid (BlkT w4 w.heap.size [.pointer (some ⟨b,0,none⟩)] 102):=HX2.out.stays (hb24.block _ HX2.out.inside);have HR4:=Hd (HRW.out.below hb24)
 have HC4:Hid (w4.cell? ⟨w3.heap.size,0,none⟩=some (.pointer (some ⟨s2.g i,0,none⟩))):=by
  show _=_;rw [HS2.out.1];exact hc4.blk.cell 0
 have HZ24:Hid (w.heap.size<w2.heap.size∧w2.heap.size<w4.heap.size):=⟨HX2.out.inside,HG4.out.inside⟩
 have HHW:Hid (∀ x∈trm.walk t i,has t x=true):=fun x hx=>by
  rcases (walk_mem HT.out.ok (.inr HI.out)).1 hx with e | e
  ·rw [e];exact has_iff.2 (.inr HI.out)
  ·exact has_iff.2 (.inr (within_has e).1)
 have HLE:Hid ((wd t i 0).length<=1001):=by
  have:=walk_le HT.out.ok (.inr HI.out:i=0∨i∈ids t);have:=HN.out;rw [wd_len];show _<=_;omega
 have HND:Hid (∀ W,KS (fun k=>k=s.m∨k=w2.heap.size) w4 W->Nds W s2 (hasP t) (setf (upT t) i none) (fun q=>(kids t q).filter fun k=>decide (k≠i))):=fun W hk j hj=>by
  have hn:=HR4.out.node j hj;have hnw:=HRW.out.node j hj;refine hn.stays (hk.same _ hn.blk.inside ?_) fun k hk'=>hk.same k (SOwn.block hn.own hk').2 ?_
  ·rintro (e | e)
   ·exact HR4.out.node_m hj (e.trans HS2.out.2.symm)
   ·have:=hnw.blk.inside;omega
  ·rintro (e | e)
   ·obtain ⟨es,hm,_⟩:=HR4.out.map;rw [HS2.out.2] at hm;exact hm.not_own hn.own (e ▸ hk')
   ·have:=(SOwn.block hnw.own hk').2;omega
 clear hb3 hb4 hg3 hc4 hb24 hw4;go_wp2_with (fail)
 refine wp_range (gf:=175) (lb:=#[.pointer (some ⟨w3.heap.size,0,none⟩)]) rfl (enters_of Tryz.func175 (by kernel_rfl) rfl) (es:=walkE s2.g (wd t i 0)) (R:=ST sT) (Kp:=KT kT)
  (fun W1 hb=>walk_iter HT.out.ok (.inr HI.out) (by have:=HN.out;omega) (fun x hx=>⟨HHW.out x hx,walk_no_up HT.out.ok HI.out hx⟩) (cell_bk hb HC4.out) (HND.out W1 ((KS.refl _ _).bk hb))) KT.trans (fun A B hb=>KT.bk hb) (fun n A B h=>h.keeps)
  (fun e he=>by obtain ⟨j,_,rfl⟩:=List.mem_map.1 he;rfl)
  (fun k W=>KS (fun k=>k=s.m∨k=w2.heap.size) w4 W∧(∃ es,MapAt W s.m es∧∀ j g,omap.look es j=some g↔(hasP t j∧j∉(trm.walk t i).take k)∧s2.g j=g)∧∃ v,BlkT W w2.heap.size [v] tInts∧IOwn W w4.heap.size v ((trm.walk t i).take k))
  (fun _ _ _=>False) (fun k A B h hr=>?hI) (fun _ _ _ _ h _=>h.elim) ⟨KS.refl _ _,by
   obtain ⟨es,hm,hl⟩:=HR4.out.map;rw [HS2.out.2] at hm
   exact ⟨es,hm,fun j g=>by rw [hl,List.take_zero];simp⟩,_,HG4.out,by rw [List.take_zero];exact SOwn.nil _ _⟩ ?a1 ?assign ?body ?done (fun _ _ _ _ _ _ h _=>h.elim)
 case hI=>
  obtain ⟨hk,⟨es,hm,hl⟩,v,hx,ho⟩:=h;rcases hr with ⟨n,hn,hr⟩ | hb
  ·exact ⟨hk.st hr hn,⟨es,hm.st hr,hl⟩,v,hx.st hr (by decide),SOwn.st ho hr (by decide)⟩
  ·exact ⟨hk.bk hb,⟨es,hm.bk hb,hl⟩,v,hx.bk hb,SOwn.bk ho hb⟩
 case assign=>
  intro l j hj W9 KK hKK;rw [walkE_getD]
  gi_wp2
  exact hKK
 case done=>
  rintro D W9 hD ⟨hk,⟨es,hm,hl⟩,v,hx,ho⟩ hd;rw [walkE_len,wd_len,List.take_length] at ho;rw [walkE_len,wd_len,List.take_length] at hl;have cb:=hx.blk.cell 0;have zb:=hx.inside;simp only [List.getElem?_cons_zero] at cb;have HZ:=Hd (And.intro hk (And.intro hm (And.intro hl ho)));clear hk hm hl hx ho;go_wp2_with (fail)
  refine postM_ret w4.heap.size ⟨⟨D,rfl,hD,hd,by simp⟩,trivial⟩ fun w' hb=>⟨_,results_tmp2 rfl _ _ _,?_⟩
  obtain ⟨hk,hm,hl,ho⟩:=HZ.out;rw [HQ2.out];have hks:=hk.bk hb;have hsm:=HS2.out.2;have hin:∀ k,FootT b s t k->k<w.heap.size:=HT.out.raw.inside;have hmw:s.m<w.heap.size:=hin _ (.inr (.inl rfl));have hbw:b<w.heap.size:=hin _ (.inl rfl);have hz:=HZ24.out
  have hH:∀ j,hasP (trm.gone (trm.walk t i) t) j↔(hasP t j∧j∉trm.walk t i):=fun j=>by
   unfold hasP;rw [has_iff,has_iff,ids_gone];constructor
   ·rintro (e | e)
    ·subst e;refine ⟨.inl rfl,fun h0=>?_⟩;rcases (walk_mem HT.out.ok (.inr HI.out)).1 h0 with e | e
     ·exact HT.out.ok.ne0 HI.out e.symm
     ·exact HT.out.ok.ne0 (within_has e).1 rfl
    ·exact ⟨.inr e.1,e.2⟩
   ·rintro ⟨e | e,h0⟩
    ·exact .inl e
    ·exact .inr ⟨e,h0⟩
  have hraw:RawT w' b s2 (trm.gone (trm.walk t i) t):=by
   refine ⟨HR4.out.blk.stays (hks.same _ HR4.out.blk.inside fun e=>?_),⟨es,by rw [hsm];exact hm.bk hb,fun j g=>by rw [hl,hH]⟩,fun j hj=>?_,fun j k hj hk=>HR4.out.inj j k ((hH j).1 hj).1 ((hH k).1 hk).1,fun j k y hj hk=>HR4.out.apart j k y ((hH j).1 hj).1 ((hH k).1 hk).1⟩
   ·rcases e with e | e
    ·obtain ⟨es4,hm4,_⟩:=HR4.out.map;rw [hsm,← e] at hm4;exact hm4.not_blk HR4.out.blk
    ·omega
   ·obtain ⟨hj1,hj2⟩:=(hH j).1 hj;have hji:j≠i:=fun e=>hj2 (by rw [e,walk_eq HT.out.ok];exact List.mem_cons_self);have hn:=HND.out w' hks j hj1;rw [setf_other _ hji] at hn;rw [kids_left HT.out.ok HI.out hj2]
    have e:upT (trm.gone (trm.walk t i) t) j=upT t j:=by
     unfold upT;rw [par_gone HT.out.ok.nd,if_neg hj2]
    rw [e];exact hn
  refine ⟨s2,v,rfl,⟨hraw,HT.out.ok.gone HI.out⟩,SOwn.weaken (SOwn.bk ho hb) (by omega),?_⟩;have hb0:=HB0.out;have hb24:=HB24.out;have ht2:=HT2.out;have hs0:=hb0.size;refine ⟨hks.os.trans (hb24.os.trans (ht2.os.trans hb0.os)),hks.tape.trans (hb24.tape.trans (ht2.tape.trans hb0.tape)),hks.output.trans (hb24.output.trans (ht2.output.trans hb0.output)),by have:=hks.size;omega,fun k hk' hn=>?_⟩;obtain ⟨h5,h6⟩:=ht2.far k (by omega) hn;refine ⟨fun e=>h5 ?_,?_⟩
  ·rcases e with e | e | ⟨j,hj,e⟩
   ·exact .inl e
   ·exact .inr (.inl e)
   ·exact .inr (.inr ⟨j,((hH j).1 hj).1,e⟩)
  ·rw [hks.same k (by omega) (fun e=>by
    rcases e with e | e
    ·exact hn (.inr (.inl e))
    ·omega),hb24.block k (by omega),h6,hb0.block k hk']
 case body=>
  rintro l j hj W9 ⟨hk,⟨es,hm,hl⟩,v,hx,ho⟩
  obtain ⟨x,d,hxd⟩:∃ x d,(wd t i 0).getD j (0,0)=(x,d):=⟨_,_,rfl⟩
  have hjl:j<(wd t i 0).length:=by rw [walkE_len] at hj;exact hj
  have hmem:(wd t i 0)[j]=(x,d):=by rw [List.getD_eq_getElem?_getD,List.getElem?_eq_getElem hjl] at hxd;exact hxd
  have hxw:x∈trm.walk t i:=wd_mem (i:=i) (d:=0) (by rw [← hmem];exact List.getElem_mem hjl);have htx:=HHW.out x hxw
  have htk:(trm.walk t i).take (j+1)=(trm.walk t i).take j++[x]:=by
   rw [← wd_ids t i 0,List.take_succ_eq_append_getElem (by rw [List.length_map];exact hjl),List.getElem_map,hmem]
  rw [List.getD_eq_getElem?_getD] at hxd;rw [hxd,HS2.out.1];obtain ⟨A1,n1,k1,rfl⟩:=SOwn.shape ho;have HTK:=Hd htk
  have HL1:Hid (((trm.walk t i).take j).length<=900000):=by
   have:=HLE.out;rw [wd_len] at this;show _<=_;rw [List.length_take];omega
  have h64:I64 x:=by
   rcases has_iff.1 htx with e | e
   ·subst e;constructor<;>decide
   ·obtain ⟨p,hp⟩:=mem_ids.1 e;have:=HT.out.ok.rng _ hp;simp only at this;constructor<;>omega
  generalize (trm.walk t i).take j=l1 at *;have hbn:=(HND.out W9 hk x htx).blk;rw [HS2.out.1] at hbn
  have hbx:=HX4.out.stays (hk.same _ HX4.out.inside fun e=>by
   have hmw:s.m<w.heap.size:=HT.out.raw.inside _ (.inr (.inl rfl));have:=HZ24.out
   rcases e with e | e<;>omega)
  have hbt:=HR4.out.blk.stays (hk.same _ HR4.out.blk.inside fun e=>by
   rcases e with e | e
   ·obtain ⟨es4,hm4,_⟩:=HR4.out.map;rw [HS2.out.2,← e] at hm4;exact hm4.not_blk HR4.out.blk
   ·have:b<w.heap.size:=HT.out.raw.inside _ (.inl rfl);have:=HZ24.out
    omega)
  rw [HS2.out.2] at hbt
  have hS:∀ k,S1 w2.heap.size (.slice A1 n1 k1) k->∃ cu T,W9.heap[k]?=some (Obj.cells cu T (0,0))∧(T=tInts∨T=tInt):=by
   rintro k (e | e)
   ·rw [e];exact ⟨_,_,hx,.inl rfl⟩
   ·obtain ⟨cu,hc⟩:=SOwn.typed ho e;exact ⟨cu,_,hc,.inr rfl⟩
  have HSS:=Hd hS
  have HSG:Hid (∀ k,S1 w2.heap.size (.slice A1 n1 k1) k->k=w2.heap.size∨w4.heap.size<=k):=by
   rintro k (e | e)
   ·exact .inl e
   ·exact .inr (SOwn.block ho e).1
  have HST:Hid (∀ W' k cs T,TurnP (S1 w2.heap.size (.slice A1 n1 k1)) (S1 w2.heap.size (.slice A1 n1 k1)) W9 W'->BlkT W9 k cs T->T≠tInts->T≠tInt->BlkT W' k cs T):=fun W' k cs T ht hb' h1 h2=>hb'.stays (ht.far k hb'.inside fun e=>by
   obtain ⟨cu,T',hc,hT⟩:=HSS.out _ e;have:=hb'.symm.trans hc;simp only [Option.some.injEq,Obj.cells.injEq] at this;rcases hT with rfl | rfl
   ·exact h1 this.2.1
   ·exact h2 this.2.1).2
  have HNX:Hid (∀ W',TurnP (S1 w2.heap.size (.slice A1 n1 k1)) (S1 w2.heap.size (.slice A1 n1 k1)) W9 W'->W'.cell? ⟨s.g x,0,none⟩=some (.int .i64 x)∧s.g x<W'.heap.size):=fun W' ht=>
   have b':=HST.out W' _ _ _ ht hbn (by decide) (by decide)
   ⟨b'.blk.cell 0,b'.inside⟩
  have HJ0:Hid (H1 W9 w4.heap.size w2.heap.size (.slice A1 n1 k1) l1 x false false false undef undef W9.drew):=by
   have hd:Below W9.heap.size W9 W9.drew:=bR.drew;exact ⟨TurnP.below hd,Nat.le_trans hk.size hd.size,⟨hx.stays (hd.block _ hx.inside),SOwn.below ho hd,nofun,nofun⟩⟩
  have HBN:=Hd hbn;have HBX:=Hd hbx;have HBT:=Hd hbt;have HK:=Hd hk;have HM:=Hd (And.intro hm hl);have H64:=Hd h64;clear hxd hjl hmem hxw htx htk hS hk hm hl hx ho hj h64 hbn hbx hbt;refine wpIn_block (wpIn_seq ?_)
  refine regvi.wp_region_put (TurnP (S1 w2.heap.size (.slice A1 n1 k1)) (S1 w2.heap.size (.slice A1 n1 k1))) (fun L V wx=>H1 W9 w4.heap.size w2.heap.size (.slice A1 n1 k1) l1 x (L 5) (L 6) (L 7) (V 30) (V 31) wx∧(L 7=true->L 0=true)∧(L 6=true->L 5=true)) [25,26,27,28,29,30,31] (by kernel_rfl) (by kernel_rfl) (by kernel_rfl) (fun _=>TurnP.refl _ _) (fun _ _ _ h k=>h.trans k) (fun i=>(match i with
   |0=>rV (.slice A1 n1 k1)
   |1|2|3=>rV (.pointer (some ⟨s.g x,0,none⟩))
   |4=>rV (.int .i64 x)
   | _=>ra:regs.Say (TurnP (S1 w2.heap.size (.slice A1 n1 k1)) (S1 w2.heap.size (.slice A1 n1 k1)))).p) (fun _=>regs.Say.mono _) (by kernel_rfl) (TurnP.below (bR.drew)) (⟨H1.slots HJ0.out rfl rfl,nofun,nofun⟩) ⟨?_,?_,?_,?_,?_,?_,?_,?_,trivial⟩ ?_
  ·refine zpv fun L a w1 hh=>?_;have h8:=hh.p 8 w2.heap.size 0;have e11:=not_yet hh.st.2.1 hh.un;have bx:=hh.st.1.one.box;rw [e11] at bx;have cb:=bx.blk.cell 0;have zb:=bx.inside;simp only [cur,cond_false,List.getElem?_cons_zero] at cb;have hJ:=hh.j;clear hh;go_simp;exact ⟨_,rfl,TurnP.refl _ _,rfl,⟨H1.slots hJ.out.1 sn sn,ord_upd hJ.out.2.1 (.inl (by decide)),ord_upd hJ.out.2.2 (.inl (by decide))⟩⟩
  ·refine zpv fun L a w1 hh=>?_;have h9:=hh.p 9 (s.g x) 0;have hJ:=hh.j;clear hh;go_simp;exact ⟨_,rfl,TurnP.refl _ _,rfl,⟨H1.slots hJ.out.1 sn sn,ord_upd hJ.out.2.1 (.inl (by decide)),ord_upd hJ.out.2.2 (.inl (by decide))⟩⟩
  ·refine zpv fun L a w1 hh=>?_;have h26:=rq (hh.d 1 26);obtain ⟨cx,zx⟩:=HNX.out _ hh.rel;have hJ:=hh.j;clear hh;go_simp;exact ⟨_,rfl,TurnP.refl _ _,rfl,⟨H1.slots hJ.out.1 sn sn,ord_upd hJ.out.2.1 (.inl (by decide)),ord_upd hJ.out.2.2 (.inl (by decide))⟩⟩
  ·refine zpv fun L a w1 hh=>?_;have h27:=rq (hh.d 2 27);have hJ:=hh.j;clear hh;go_simp;exact ⟨_,rfl,TurnP.refl _ _,rfl,⟨H1.slots hJ.out.1 sn sn,ord_upd hJ.out.2.1 (.inl (by decide)),ord_upd hJ.out.2.2 (.inl (by decide))⟩⟩
  ·refine zpv fun L a w1 hh=>?_;have h28:=rq (hh.d 3 28);obtain ⟨cx,zx⟩:=HNX.out _ hh.rel;have hJ:=hh.j;clear hh;go_simp;exact ⟨_,rfl,TurnP.refl _ _,rfl,⟨H1.slots hJ.out.1 sn sn,ord_upd hJ.out.2.1 (.inl (by decide)),ord_upd hJ.out.2.2 (.inl (by decide))⟩⟩
  ·refine zpv fun L a w1 hh=>?_;have h29:=rq (hh.d 4 29);have hJ:=Hd hh.st;have hsz:=Hd hh.size;have e6:=Hd (not_yet hJ.out.2.2 hh.un);clear hh;go_simp;exact ⟨_,rfl,TurnP.below (bR.alloc nR _),trivial,⟨H1.slots (H1.make hJ.out.1 e6.out) (regv.sl_same (by rw [hsz.out];simp)) sn,ord_upd hJ.out.2.1 (.inl (by decide)),ord_upd hJ.out.2.2 (.inl (by decide))⟩⟩
  ·refine zpv fun L a w1 hh=>?_;have hJ:=Hd hh.st;have hsz:=Hd hh.size;obtain ⟨v9,w9,hrun,hj9,ht9⟩:=H1.app hJ.out.1 (hh.up 5 (by kernel_rfl)) hh.un HL1.out;exact wp_app (.tmp 25) (.tmp 30) 42 42 42 rfl rfl (hh.d 0 25) rfl hrun ⟨v9,rfl,ht9,trivial,⟨H1.slots hj9 sn (regv.sl_same (by rw [hsz.out];simp)),ord_upd hJ.out.2.1 (.inl (by decide)),ord_upd hJ.out.2.2 (.inr (hh.up 5 (by kernel_rfl)))⟩⟩
  ·refine zpv fun L a w1 hh=>?_;have h8:=hh.p 8 w2.heap.size 0;have h6:=hh.up 6 (by kernel_rfl);have ho:=hh.st.1.one.own;rw [h6] at ho;obtain ⟨A9,n9,c9,e33⟩:=SOwn.shape ho;have e33:regv.sl a 31=.slice A9 n9 c9:=e33;have h31:a.tmps[31]?.getD undef=.slice A9 n9 c9:=rq (e33);have bx:=hh.st.1.one.box;have cb:=bx.blk.cell 0;have fb:=bx.blk.free 0;have zb:=bx.inside;simp only [List.getElem?_cons_zero] at cb;have hJ:=Hd hh.st;have hP:=H1.put hh.st.1 h6;have hU:=Hd (hh.up 0 (by kernel_rfl));rw [e33] at hP;have HE:=Hd e33;have HP:=Hd hP;clear hh h6 ho bx hP e33;go_simp
   exact ⟨HP.out.2,⟨undef,trivial⟩,H1.slots HP.out.1 rfl HE.out,ord_upd hJ.out.2.1 (.inr hU.out),ord_upd hJ.out.2.2 (.inl (by decide))⟩
  intro L w5 val hL hJ hR hv;obtain ⟨hJ,-⟩:=hJ;have h1:=hJ.one;rw [hL 6 (by decide),hL 7 (by decide)] at h1;simp only [regs.putAll,List.map_cons,List.map_nil];simp only [Act.put,List.setIfInBounds_toArray,List.set_cons_zero,List.set_cons_succ];have HH1:=Hd h1;have HR5:=Hd hR
  have hms:¬ S1 w2.heap.size (.slice A1 n1 k1) s.m:=fun e=>by
   obtain ⟨cu,T,hc,_⟩:=HSS.out _ e;obtain ⟨es',clock,h2,_⟩:=HM.out.1.own;rw [hc] at h2;cases h2
  have HMS:=Hd hms;have hm5:MapAt w5 s.m es:=HM.out.1.stays (hR.far _ HM.out.1.inside hms).2;have HM5:Hid (MapAt w5.drew s.m es):=hm5.stays rfl;have hX5:=HST.out w5 _ _ _ hR HBX.out (by decide) (by decide);have hB5:=HST.out w5 _ _ _ hR HBT.out (by decide) (by decide);have hN5:=HST.out w5 _ _ _ hR HBN.out (by decide) (by decide);have HX5:Hid (BlkT w5.drew w.heap.size [.pointer (some ⟨b,0,none⟩)] 102):=hX5;have HB5:Hid (BlkT w5.drew b [.map (some s.m)] tTree):=hB5
  have HN5:Hid (w5.drew.cell? ⟨s.g x,0,none⟩=some (.int .i64 x)∧s.g x<w5.drew.heap.size):=⟨hN5.blk.cell 0,hN5.inside⟩
  clear hv hL hJ hR h1 hms hm5 hX5 hB5 hN5
  skip
  skip
  skip
  skip
  skip
  skip
  generalize val 31=y31 at *;simp only [Exit.then]
  refine regvi.wp_region_put (fun _ _=>True) (fun L V wx=>DJ w5.drew s.m (omap.del x es) (L 8) wx∧(L 8=true->L 3=true)∧(L 3=true->L 2=true)∧(L 2=true->L 1=true)∧(L 1=true->L 0=true)∧(L 8=true->L 7=true)∧(L 7=true->L 6=true)∧(L 6=true->L 5=true)∧(L 5=true->L 4=true)) [32,33,34,35,36,37,38,39] (by kernel_rfl) (by kernel_rfl) (by kernel_rfl) (fun _=>trivial) (fun _ _ _ _ _=>trivial) (fun i=>(match i with
   |0|1|2=>rp b 0
   |3=>rV (.map (some s.m))
   |4|5|6=>rV (.pointer (some ⟨s.g x,0,none⟩))
   |7=>rV (.int .i64 x)
   | _=>ra:regs.Say (fun _ _=>True)).p) (fun _=>regs.Say.mono _) (by kernel_rfl) (trivial) (⟨⟨nofun,fun _=>rfl⟩,nofun,nofun,nofun,nofun,nofun,nofun,nofun,nofun⟩) ⟨?_,?_,?_,?_,?_,?_,?_,?_,?_,trivial⟩ ?_
  ·refine zpv fun L a w1 hh=>?_;have h2:=hh.p 2 w.heap.size 0;have hw:=hh.st.1.no (not_yet (fun e=>hh.st.2.2.2.2.1 (hh.st.2.2.2.1 (hh.st.2.2.1 (hh.st.2.1 (e))))) hh.un);subst hw;have cX:=HX5.out.blk.cell 0;have zX:=HX5.out.inside;have cB:=HB5.out.blk.cell 0;have zB:=HB5.out.inside;obtain ⟨cN,zN⟩:=HN5.out;simp only [List.getElem?_cons_zero] at cX cB
   have hJ:=hh.j;clear hh;go_simp;exact ⟨_,rfl,rfl,hJ.out.1,ord_upd hJ.out.2.1 (.inl (by decide)),ord_upd hJ.out.2.2.1 (.inl (by decide)),ord_upd hJ.out.2.2.2.1 (.inl (by decide)),ord_upd hJ.out.2.2.2.2.1 (.inl (by decide)),ord_upd hJ.out.2.2.2.2.2.1 (.inl (by decide)),ord_upd hJ.out.2.2.2.2.2.2.1 (.inl (by decide)),ord_upd hJ.out.2.2.2.2.2.2.2.1 (.inl (by decide)),ord_upd hJ.out.2.2.2.2.2.2.2.2 (.inl (by decide))⟩
  ·refine zpv fun L a w1 hh=>?_;have h32:=rq (hh.d 0 32);have hw:=hh.st.1.no (not_yet (fun e=>hh.st.2.2.2.1 (hh.st.2.2.1 (hh.st.2.1 (e)))) hh.un);subst hw;have cX:=HX5.out.blk.cell 0;have zX:=HX5.out.inside;have cB:=HB5.out.blk.cell 0;have zB:=HB5.out.inside;obtain ⟨cN,zN⟩:=HN5.out;simp only [List.getElem?_cons_zero] at cX cB;have hJ:=Hd hh.st;have hU:=Hd (hh.up 0 (by kernel_rfl));clear hh;go_simp
   exact ⟨_,rfl,rfl,hJ.out.1,ord_upd hJ.out.2.1 (.inl (by decide)),ord_upd hJ.out.2.2.1 (.inl (by decide)),ord_upd hJ.out.2.2.2.1 (.inl (by decide)),ord_upd hJ.out.2.2.2.2.1 (.inr hU.out),ord_upd hJ.out.2.2.2.2.2.1 (.inl (by decide)),ord_upd hJ.out.2.2.2.2.2.2.1 (.inl (by decide)),ord_upd hJ.out.2.2.2.2.2.2.2.1 (.inl (by decide)),ord_upd hJ.out.2.2.2.2.2.2.2.2 (.inl (by decide))⟩
  ·refine zpv fun L a w1 hh=>?_;have h33:=rq (hh.d 1 33);have hw:=hh.st.1.no (not_yet (fun e=>hh.st.2.2.1 (hh.st.2.1 (e))) hh.un);subst hw;have cX:=HX5.out.blk.cell 0;have zX:=HX5.out.inside;have cB:=HB5.out.blk.cell 0;have zB:=HB5.out.inside;obtain ⟨cN,zN⟩:=HN5.out;simp only [List.getElem?_cons_zero] at cX cB;have hJ:=Hd hh.st;have hU:=Hd (hh.up 1 (by kernel_rfl));clear hh;go_simp
   exact ⟨_,rfl,rfl,hJ.out.1,ord_upd hJ.out.2.1 (.inl (by decide)),ord_upd hJ.out.2.2.1 (.inl (by decide)),ord_upd hJ.out.2.2.2.1 (.inr hU.out),ord_upd hJ.out.2.2.2.2.1 (.inl (by decide)),ord_upd hJ.out.2.2.2.2.2.1 (.inl (by decide)),ord_upd hJ.out.2.2.2.2.2.2.1 (.inl (by decide)),ord_upd hJ.out.2.2.2.2.2.2.2.1 (.inl (by decide)),ord_upd hJ.out.2.2.2.2.2.2.2.2 (.inl (by decide))⟩
  ·refine zpv fun L a w1 hh=>?_;have h34:=rq (hh.d 2 34);have hw:=hh.st.1.no (not_yet (fun e=>hh.st.2.1 (e)) hh.un);subst hw;have cX:=HX5.out.blk.cell 0;have zX:=HX5.out.inside;have cB:=HB5.out.blk.cell 0;have zB:=HB5.out.inside;obtain ⟨cN,zN⟩:=HN5.out;simp only [List.getElem?_cons_zero] at cX cB;have hJ:=Hd hh.st;have hU:=Hd (hh.up 2 (by kernel_rfl));clear hh;go_simp
   exact ⟨_,rfl,rfl,hJ.out.1,ord_upd hJ.out.2.1 (.inl (by decide)),ord_upd hJ.out.2.2.1 (.inr hU.out),ord_upd hJ.out.2.2.2.1 (.inl (by decide)),ord_upd hJ.out.2.2.2.2.1 (.inl (by decide)),ord_upd hJ.out.2.2.2.2.2.1 (.inl (by decide)),ord_upd hJ.out.2.2.2.2.2.2.1 (.inl (by decide)),ord_upd hJ.out.2.2.2.2.2.2.2.1 (.inl (by decide)),ord_upd hJ.out.2.2.2.2.2.2.2.2 (.inl (by decide))⟩
  ·refine zpv fun L a w1 hh=>?_;have h9:=hh.p 9 (s.g x) 0;have hw:=hh.st.1.no (not_yet (fun e=>hh.st.2.2.2.2.2.2.2.2 (hh.st.2.2.2.2.2.2.2.1 (hh.st.2.2.2.2.2.2.1 (hh.st.2.2.2.2.2.1 (e))))) hh.un);subst hw;have cX:=HX5.out.blk.cell 0;have zX:=HX5.out.inside;have cB:=HB5.out.blk.cell 0;have zB:=HB5.out.inside;obtain ⟨cN,zN⟩:=HN5.out;simp only [List.getElem?_cons_zero] at cX cB
   have hJ:=hh.j;clear hh;go_simp;exact ⟨_,rfl,rfl,hJ.out.1,ord_upd hJ.out.2.1 (.inl (by decide)),ord_upd hJ.out.2.2.1 (.inl (by decide)),ord_upd hJ.out.2.2.2.1 (.inl (by decide)),ord_upd hJ.out.2.2.2.2.1 (.inl (by decide)),ord_upd hJ.out.2.2.2.2.2.1 (.inl (by decide)),ord_upd hJ.out.2.2.2.2.2.2.1 (.inl (by decide)),ord_upd hJ.out.2.2.2.2.2.2.2.1 (.inl (by decide)),ord_upd hJ.out.2.2.2.2.2.2.2.2 (.inl (by decide))⟩
  ·refine zpv fun L a w1 hh=>?_;have h36:=rq (hh.d 4 36);have hw:=hh.st.1.no (not_yet (fun e=>hh.st.2.2.2.2.2.2.2.1 (hh.st.2.2.2.2.2.2.1 (hh.st.2.2.2.2.2.1 (e)))) hh.un);subst hw;have cX:=HX5.out.blk.cell 0;have zX:=HX5.out.inside;have cB:=HB5.out.blk.cell 0;have zB:=HB5.out.inside;obtain ⟨cN,zN⟩:=HN5.out;simp only [List.getElem?_cons_zero] at cX cB;have hJ:=Hd hh.st;have hU:=Hd (hh.up 4 (by kernel_rfl));clear hh;go_simp
   exact ⟨_,rfl,rfl,hJ.out.1,ord_upd hJ.out.2.1 (.inl (by decide)),ord_upd hJ.out.2.2.1 (.inl (by decide)),ord_upd hJ.out.2.2.2.1 (.inl (by decide)),ord_upd hJ.out.2.2.2.2.1 (.inl (by decide)),ord_upd hJ.out.2.2.2.2.2.1 (.inl (by decide)),ord_upd hJ.out.2.2.2.2.2.2.1 (.inl (by decide)),ord_upd hJ.out.2.2.2.2.2.2.2.1 (.inl (by decide)),ord_upd hJ.out.2.2.2.2.2.2.2.2 (.inr hU.out)⟩
  ·refine zpv fun L a w1 hh=>?_;have h37:=rq (hh.d 5 37);have hw:=hh.st.1.no (not_yet (fun e=>hh.st.2.2.2.2.2.2.1 (hh.st.2.2.2.2.2.1 (e))) hh.un);subst hw;have cX:=HX5.out.blk.cell 0;have zX:=HX5.out.inside;have cB:=HB5.out.blk.cell 0;have zB:=HB5.out.inside;obtain ⟨cN,zN⟩:=HN5.out;simp only [List.getElem?_cons_zero] at cX cB;have hJ:=Hd hh.st;have hU:=Hd (hh.up 5 (by kernel_rfl));clear hh;go_simp
   exact ⟨_,rfl,rfl,hJ.out.1,ord_upd hJ.out.2.1 (.inl (by decide)),ord_upd hJ.out.2.2.1 (.inl (by decide)),ord_upd hJ.out.2.2.2.1 (.inl (by decide)),ord_upd hJ.out.2.2.2.2.1 (.inl (by decide)),ord_upd hJ.out.2.2.2.2.2.1 (.inl (by decide)),ord_upd hJ.out.2.2.2.2.2.2.1 (.inl (by decide)),ord_upd hJ.out.2.2.2.2.2.2.2.1 (.inr hU.out),ord_upd hJ.out.2.2.2.2.2.2.2.2 (.inl (by decide))⟩
  ·refine zpv fun L a w1 hh=>?_;have h38:=rq (hh.d 6 38);have hw:=hh.st.1.no (not_yet (fun e=>hh.st.2.2.2.2.2.1 (e)) hh.un);subst hw;have cX:=HX5.out.blk.cell 0;have zX:=HX5.out.inside;have cB:=HB5.out.blk.cell 0;have zB:=HB5.out.inside;obtain ⟨cN,zN⟩:=HN5.out;simp only [List.getElem?_cons_zero] at cX cB;have hJ:=Hd hh.st;have hU:=Hd (hh.up 6 (by kernel_rfl));clear hh;go_simp
   exact ⟨_,rfl,rfl,hJ.out.1,ord_upd hJ.out.2.1 (.inl (by decide)),ord_upd hJ.out.2.2.1 (.inl (by decide)),ord_upd hJ.out.2.2.2.1 (.inl (by decide)),ord_upd hJ.out.2.2.2.2.1 (.inl (by decide)),ord_upd hJ.out.2.2.2.2.2.1 (.inl (by decide)),ord_upd hJ.out.2.2.2.2.2.2.1 (.inr hU.out),ord_upd hJ.out.2.2.2.2.2.2.2.1 (.inl (by decide)),ord_upd hJ.out.2.2.2.2.2.2.2.2 (.inl (by decide))⟩
  ·refine zpv fun L a w1 hh=>?_;have hw:=hh.st.1.no hh.un;subst hw;obtain ⟨w9,hrun,hm9,hg9⟩:=HM5.out.drop H64.out _
   exact wp_del (.tmp 35) (.tmp 39) 186 3 _ rfl rfl (hh.d 3 35) (hh.d 7 39) hrun ⟨_,rfl,trivial,trivial,⟨fun _=>⟨hm9,hg9⟩,fun e=>absurd e (by simp [regs.upd])⟩,ord_upd hh.st.2.1 (.inr (hh.up 3 (by kernel_rfl))),ord_upd hh.st.2.2.1 (.inl (by decide)),ord_upd hh.st.2.2.2.1 (.inl (by decide)),ord_upd hh.st.2.2.2.2.1 (.inl (by decide)),ord_upd hh.st.2.2.2.2.2.1 (.inr (hh.up 7 (by kernel_rfl))),ord_upd hh.st.2.2.2.2.2.2.1 (.inl (by decide)),ord_upd hh.st.2.2.2.2.2.2.2.1 (.inl (by decide)),ord_upd hh.st.2.2.2.2.2.2.2.2 (.inl (by decide))⟩
  intro L w6 val2 hL hJ _ _;obtain ⟨hm6,hg6⟩:=hJ.1.yes (hL 8 (by decide));have hd:Below w5.heap.size w5 w5.drew:=bR.drew;have hR:=HR5.out;have hmi:=HM.out.1.inside
  have hk:∀ (k:Nat) (o:Obj),W9.heap[k]?=some o->(∀ cu:Array Value,o≠Obj.cells cu tInts (0,0)∧o≠Obj.cells cu tInt (0,0))->k≠s.m->w6.heap[k]?=some o:=fun k o hk hn hne=>by
   have hlt:=(Array.getElem?_eq_some_iff.1 hk).1
   have h2:=(hR.far k hlt fun e=>by
    obtain ⟨cu,T,hc,hT⟩:=HSS.out k e;have e2:=hk.symm.trans hc
    injection e2 with e2
    rcases hT with rfl | rfl
    ·exact (hn cu).1 e2
    ·exact (hn cu).2 e2).2
   refine (hg6.block k (Nat.lt_of_lt_of_le hlt hR.size) fun e=>hne (Option.some.inj e)).trans (h2.trans hk)
  have hmo:∀ o,W9.heap[s.m]?=some o->∃ es clock,o=Obj.map es clock:=fun o ho=>by
   obtain ⟨es',clock,h2,_⟩:=HM.out.1.own;rw [h2] at ho;exact ⟨_,_,(Option.some.inj ho).symm⟩
  have hsz:W9.heap.size<=w6.heap.size:=Nat.le_trans hR.size hg6.size;refine ⟨fun k o h3 h4=>hk k o h3 (fun cu=>⟨fun e=>(by subst e;cases h4),fun e=>(by subst e;cases h4)⟩) (fun e=>?_),⟨hsz,fun k cu ty fr h3 h4=>hk k _ h3 (fun cu'=>⟨fun e=>?_,fun e=>?_⟩) (fun e=>?_)⟩,?_,⟨_,hm6,fun j' g=>?_⟩,y31,HH1.out.box.stays (hg6.block _ HH1.out.box.inside fun e=>?_),?_⟩
  ·rw [e] at h3;obtain ⟨_,_,rfl⟩:=hmo o h3;cases h4
  ·injection e with _ e _
   rw [e] at h4;exact absurd h4 (by decide)
  ·injection e with _ e _
   rw [e] at h4;exact absurd h4 (by decide)
  ·rw [e] at h3;obtain ⟨_,_,e2⟩:=hmo _ h3;cases e2
  ·refine ((HK.out.turn hR fun k hk' e=>(HSG.out k e).elim .inr fun e2=>by omega).below (hd.mono (Nat.le_trans HK.out.size hR.size))).grown hg6 fun j' e=>.inr (.inl (Option.some.inj e).symm)
  ·rw [HTK.out,omap.look_del];by_cases e:j'=x
   ·rw [if_pos e,e];simp
   ·rw [if_neg e,HM.out.2];simp [e,HS2.out.1]
  ·have hmw:s.m<w.heap.size:=HT.out.raw.inside _ (.inr (.inl rfl));have:=Option.some.inj e;have:=HZ24.out;omega
  ·rw [HTK.out];have ho5:IOwn w5 w4.heap.size y31 (l1++[x]):=HH1.out.own;refine SOwn.stays ho5 fun k hk'=>hg6.block k (SOwn.block ho5 hk').2 fun e=>?_;have e2:=Option.some.inj e;have:=(SOwn.block ho5 hk').1;have hmw:s.m<w.heap.size:=HT.out.raw.inside _ (.inr (.inl rfl));have:=HZ24.out;omega
end
end Go.Proofs.YthoildbfghfhpaaGreat
namespace Go.Proofs.YthoildbfghfhpaaGreat
open Go.RowKit trm itr
theorem make_map (w:World) (o:Option Value) (ho:o=none∨∃ n:Int,o=some (.int .i64 n)):(Instr.makeMap 186 o).run Tryz.prog w=.ok (.map (some w.heap.size)) (w.alloc (.map #[] 0)):=by
 rcases ho with rfl | ⟨n,rfl⟩
 ·rfl
 ·simp [Instr.makeMap,run_underlying Tryz.underlying186,asInt,asIntOf,newObj,Result.andThen];rfl
theorem tnew (w:World):Calls Tryz.prog 37 #[] w fun e w'=>∃ b s,e=.returned (.pointer (some ⟨b,0,none⟩))∧TreeAt w' b s []∧Below w.heap.size w w'∧∀ k,FootT b s [] k->w.heap.size<=k:=by
 have hmm:=fun w=>make_map w none (.inl rfl);have hm0:=(mapAt_made w).stays (w':=(w.alloc (.map #[] 0)).alloc (node0 0)) (Below.heap_alloc _ _ _ (by simp));obtain ⟨w2,hrun,hm2,hg⟩:=hm0.store (i:=0) (by constructor<;>decide) (w.heap.size+1) (by show [_].length<=_;simp);have HM:=Hd (And.intro hm2 hg);clear hm0 hm2 hg;go_enter Tryz.func37,Tryz.ntmps37;go_wp2_with (fail);go_ret;obtain ⟨hm2,hg⟩:=HM.out;have hgs:=hg.size;simp only [World.size_alloc] at hgs
 have hb:Below w.heap.size w w2:=(((Below.refl _ w).alloc nR (.map #[] 0)).alloc (by simp) (node0 0)).grown hg (by simp;omega) (fun k e=>by rw [← Option.some.inj e];exact nR);have hb2:Below w2.heap.size w2 (w2.alloc (.cells #[.map (some w.heap.size)] tTree)):=bR.alloc nR _;have hH:∀ j,hasP [] j↔j=0:=fun j=>by unfold hasP;rw [has_iff];simp [ids]
 refine ⟨_,⟨w.heap.size,fun _=>w.heap.size+1,fun _=>.slice none 0 0⟩,rfl,⟨⟨BlkT.new w2 [.map (some w.heap.size)] _,⟨_,hm2.stays (hb2.block _ hm2.inside),fun j g=>?_⟩,fun j hj=>?_,fun j k hj hk _=>((hH j).1 hj).trans ((hH k).1 hk).symm,fun j k x _ _ e=>(nomatch e)⟩,ok_nil⟩,hb.trans (hb2.mono hb.size),?_⟩
 ·rw [omap.look_put,hH];by_cases e:j=0
  ·rw [if_pos e];simp [e]
  ·rw [if_neg e];simp [e,omap.look_nil]
 ·obtain rfl:=(hH j).1 hj;refine ⟨BlkT.stays (w:=w2) ?_ (hb2.block (w.heap.size+1) (by omega)),SOwn.nil _ _⟩
  exact (hg.block (w.heap.size+1) (by simp) (fun e=>by have:=Option.some.inj e;omega)).trans (by
   have:=heap_alloc_new (w.alloc (.map #[] 0)) (node0 0);rw [World.size_alloc] at this
   exact this)
 ·rintro k (e | e | ⟨j,_,e | e⟩)
  ·rw [e];exact hb.size
  ·rw [e];exact nR
  ·rw [e];simp
  ·cases e
theorem same_id {w:World} {g1 g2:Nat} {i1 i2:Int} {p1 p2 v1 v2:Value} (h1:BlkT w g1 [.int .i64 i1,p1,v1] tNode) (h2:BlkT w g2 [.int .i64 i2,p2,v2] tNode) :
  Calls Tryz.prog 84 #[.pointer (some ⟨g1,0,none⟩),.pointer (some ⟨g2,0,none⟩)] w fun e w'=>e=.returned (.bool (decide (i1=i2)))∧Drew w w':=by
 have c1:=h1.blk.cell 0;have c2:=h2.blk.cell 0;have z1:=h1.inside;have z2:=h2.inside;simp only [List.getElem?_cons_zero] at c1 c2;clear h1 h2;go_enter Tryz.func84,Tryz.ntmps84;go_wp2_with (fail)
 go_quiet (fail)
 go_wp2_with (fail);go_ret;exact ⟨ret_bool rfl,⟨_,rfl⟩⟩
def KidsAt (w:World) (v:Value) (l:List Nat) (ids:List Int):Prop:=∃ A c,v=.slice A l.length c∧l.length=ids.length∧∀ j (hj:j<l.length),∃ g o,A=some ⟨g,0,none⟩∧o=l[j]∧w.cell? ⟨g,j,none⟩=some (.pointer (some ⟨o,0,none⟩))∧∃ p v,BlkT w o [.int .i64 (ids.getD j 0),p,v] tNode
theorem KidsAt.below {w w':World} {v:Value} {l:List Nat} {ids:List Int} (h:KidsAt w v l ids) (hb:Below w.heap.size w w'):KidsAt w' v l ids:=by
 obtain ⟨A,c,e,hl,hh⟩:=h;refine ⟨A,c,e,hl,fun j hj=>?_⟩;obtain ⟨g,o,e1,e2,hc,p,v,hb'⟩:=hh j hj;exact ⟨g,o,e1,e2,(hb.cell (World.block_lt_of_cell? w ⟨g,j,none⟩ hc)).trans hc,p,v,hb'.stays (hb.block _ hb'.inside)⟩
theorem eq_take {a b:List Int} {k:Nat} (h:a.take k=b.take k) (ha:k<a.length) (hb:k<b.length) (e:a.getD k 0=b.getD k 0):a.take (k+1)=b.take (k+1):=by
 rw [List.getD_eq_getElem?_getD,List.getD_eq_getElem?_getD,List.getElem?_eq_getElem ha,List.getElem?_eq_getElem hb,Option.getD_some,Option.getD_some] at e;exact take_eq_snoc h ha hb e
theorem ne_get {a b:List Int} {k:Nat} (e:a.getD k 0≠b.getD k 0):decide (a=b)=false:=decide_eq_false fun h=>e (by rw [h])
theorem equal_func {w:World} {v1 v2:Value} {l1 l2:List Nat} {i1 i2:List Int} (h1:KidsAt w v1 l1 i1) (h2:KidsAt w v2 l2 i2) (hn:l1.length<=100000∧l2.length<=100000) :
  Calls Tryz.prog 83 #[v1,v2,.func (.func 84) #[] #[]] w fun e w'=>e=.returned (.bool (decide (i1=i2)))∧Drew w w':=by
 have H1:=Hd (fun w' hb=>h1.below (w':=w') hb);have H2:=Hd (fun w' hb=>h2.below (w':=w') hb);obtain ⟨A1,c1,rfl,e1,-⟩:=h1;obtain ⟨A2,c2,rfl,e2,-⟩:=h2;have HE:=Hd (And.intro e1 e2);have HN:=Hd hn;have hb1:(l1.length:Int)<=100000:=by omega
 have hb2:(l2.length:Int)<=100000:=by omega
 clear hn;by_cases hl:l1.length=l2.length
 ·have q:((l1.length:Int) != (l2.length:Int))=false:=by simp;omega
  have HL:=Hd hl;clear hl e1 e2;go_enter Tryz.func83,Tryz.ntmps83;go_wp2_with (fail);clear q
  go_loopw [17] (fun x wr=>∃ k:Nat,k<=l1.length∧x=.int .i64 (k:Nat)∧Hid (i1.take k=i2.take k)∧Hid (Drew w wr)) (fun x _=>l1.length - (intOf x).toNat)
  case atStart=>exact ⟨0,Nat.zero_le _,rfl,rfl,Drew.refl _⟩
  case round=>
   obtain ⟨k,hk,rfl,HK,HD⟩:=hrel;have hkb:((k:Nat):Int)<=100000:=by omega
   by_cases hlt:k<l1.length
   ·have t1:decide (k<l1.length)=true:=by simpa using hlt
    have hlt2:k<l2.length:=by rw [← HL.out];exact hlt
    obtain ⟨A1',c1',q1,-,hh1⟩:=H1.out wr (HD.out.below _);obtain ⟨A2',c2',q2,-,hh2⟩:=H2.out wr (HD.out.below _);obtain ⟨g1,o1,r1,rfl,k1,p1,v1,b1⟩:=hh1 k hlt;obtain ⟨g2,o2,r2,rfl,k2,p2,v2,b2⟩:=hh2 k hlt2
    injection q1 with q1 _ q1c
    injection q2 with q2 _ q2c
    subst q1 q2 q1c q2c r1 r2;have HC:=Hd (same_id b1 b2);have HS:=Hd (fun e=>eq_take HK.out (by rw [← HE.out.1];exact hlt) (by rw [← HE.out.2];exact hlt2) e);have HO:=Hd (fun e=>ne_get (a:=i1) (b:=i2) (k:=k) e);clear hh1 hh2 b1 b2;generalize i1.getD k 0=x1 at *;generalize i2.getD k 0=x2 at *;generalize l1[k]=y1 at *;generalize l2[k]=y2 at *;by_cases e:x1=x2
    ·have HS2:=Hd (HS.out e);rw [decide_eq_true e] at HC;clear HS HO e;go_wp2_with (fail);refine HC.out.mono ?_;rintro e w2 ⟨rfl,hd⟩;have HD2:=Hd (HD.out.trans hd);clear hd;go_wp2_with (fail)
     go_roundw
     case rel=>exact ⟨k+1,by omega,by go_num,HS2,HD2⟩
     case measure=>simp [intOf];omega
    ·have HO2:=Hd (HO.out e);rw [decide_eq_false e] at HC;clear HS HO e;go_wp2_with (fail);refine HC.out.mono ?_;rintro e w2 ⟨rfl,hd⟩;have HD2:=Hd (HD.out.trans hd);clear hd;go_wp2_with (fail);go_ret;exact ⟨ret_bool HO2.out.symm,HD2.out⟩
   ·obtain rfl:k=l1.length:=by omega
    have HF:Hid (decide (i1=i2)=true):=decide_eq_true (by
     have h:=HK.out;rw [HE.out.1,List.take_length,← HE.out.1,HL.out,HE.out.2,List.take_length] at h
     exact h)
    have t1:decide (l1.length<l1.length)=false:=by simp
    go_wp2_with (fail);go_ret;exact ⟨ret_bool HF.out.symm,HD.out⟩
 ·have q:((l1.length:Int) != (l2.length:Int))=true:=by simp;omega
  have HF:Hid (decide (i1=i2)=false):=decide_eq_false fun e=>hl (by rw [e1,e2,e]);clear hl e1 e2;go_enter Tryz.func83,Tryz.ntmps83;go_wp2_with (fail);go_ret;exact ⟨ret_bool HF.out.symm,Drew.refl _⟩
end Go.Proofs.YthoildbfghfhpaaGreat
namespace Go.Proofs.YthoildbfghfhpaaGreat
open Go.RowKit trm itr
theorem ptrTo_of {v:Value} {y:DataW Unit×List MemPlace} (h:ptrElem v=some y):∃ c:Option Nat,v=ptrTo c:=by
 unfold ptrElem at h;split at h
 ·exact ⟨some _,rfl⟩
 ·exact ⟨none,rfl⟩
 ·cases h
theorem atKey_any (l:L) (k:Int) (z:DataW Unit):(mapOf l).atKey (.int .i64 k) z=match omap.look l k with | some g=>.lit (.int .i64 (g:Int)) | none=>z:=by
 induction l with
 | nil=>rfl
 | cons x l ih=>
  unfold mapOf DataW.atKey at ih ⊢;rw [omap.look_cons];simp only [List.map_cons,List.find?_cons,sameKey_enc] at ih ⊢;by_cases h:x.1=k
  ·simp [h,enc1]
  ·simp only [h,decide_false,if_false];exact ih
theorem came {l:L} {x:Int} {c:Option Nat} {kl:Lit} {y:DataW Unit×List MemPlace} (hk:keyOf Tryz.prog 3 (.int .i64 x)=some kl) (hv:ptrElem (ptrTo c)=some y) (hat:∀ zd,(mapOf l).atKey kl zd=y.1):kl=.int .i64 x∧I64 x∧∃ g,c=some g∧omap.look l x=some g:=by
 obtain ⟨x',ex,rfl,hwf⟩:=Maps.keyOf_int_inv Tryz.underlying3 hk
 injection ex with _ ex
 subst ex;simp only [Lit.wf] at hwf;rw [Bool.and_eq_true,decide_eq_true_eq,decide_eq_true_eq] at hwf;refine ⟨rfl,hwf,?_⟩;have h1:=hat .nil;have h2:=hat (.agg []);rw [atKey_any] at h1 h2;cases hl:omap.look l x with
 | none=>
  rw [hl] at h1 h2;simp only at h1 h2;rw [← h1] at h2;cases h2
 | some g=>
  rw [hl] at h1;simp only at h1;refine ⟨g,?_,rfl⟩;cases c with
  | none=>
   simp only [ptrTo,ptrElem,Option.some.injEq] at hv;rw [← hv] at h1;cases h1
  | some g'=>
   simp only [ptrTo,ptrElem,Option.some.injEq] at hv;rw [← hv] at h1;simp only [DataW.lit.injEq,Lit.int.injEq,true_and] at h1;have e:g'=g:=by omega
   rw [e]
theorem below_grown {w w':World} (h:Below w.heap.size w w'):w.grownBy w' none:=⟨h.os,h.tape,h.output,h.size,fun k hk _=>h.block k hk⟩
theorem has_map {l:L} {k:Int} {g:Nat} (h:omap.look l k=some g):Maps.has (mapOf l) (.int .i64 k)=true:=by
 unfold mapOf;rw [Maps.has_eq,List.any_eq_true];refine ⟨enc1 (k,g),List.mem_map.2 ⟨(k,g),omap.look_mem h,rfl⟩,?_⟩;rw [sameKey_enc];simp
theorem same_all {t u:T} (ok:Ok t) (ok':Ok u) (hl:t.length=u.length) (h:∀ i,has t i=true->has u i=true∧kids t i=kids u i) (q:Int):kids t q=kids u q:=by
 have hsub:∀ x,x∈(0::ids u:List Int)->x∈(0::ids t:List Int):=by
  intro x hx;by_cases hm:x∈(0::ids t:List Int)
  ·exact hm
  ·exfalso
   have n1:(0::ids t).Nodup:=List.nodup_cons.2 ⟨fun h=>ok.ne0 h rfl,ok.nd⟩
   have h1:=len_of_sub (l:=x::0::ids t) (m:=0::ids u) (List.nodup_cons.2 ⟨hm,n1⟩) (fun y hy=>by
    rcases List.mem_cons.1 hy with e | e
    ·rw [e];exact hx
    ·exact List.mem_cons.2 (has_iff.1 (h y (has_iff.2 (List.mem_cons.1 e))).1))
   unfold ids at h1;simp at h1;omega
 by_cases hq:has t q=true
 ·exact (h q hq).2
 ·rw [kids_none ok hq];by_cases hu:has u q=true
  ·exact absurd (has_iff.2 (List.mem_cons.1 (hsub q (List.mem_cons.2 (has_iff.1 hu))))) hq
  ·exact (kids_none ok' hu).symm
section
variable {w:World} {b b2:Nat} {s s2:Sh} {t u:T}
theorem kids_at {W:World} (h:TreeAt W b s t) {i:Int} (hi:has t i=true):KidsAt W (s.v i) ((kids t i).map s.g) (kids t i):=by
 obtain ⟨A,c,e,-,-,hat⟩:=(h.raw.node i hi).own.at_;rw [ks_len] at e;refine ⟨A,c,by rw [e,List.length_map],List.length_map _,fun j hj=>?_⟩;have hj2:j<(kids t i).length:=by rw [List.length_map] at hj;exact hj
 obtain ⟨g,e2,-,hc⟩:=hat j (by rw [ks_len];exact hj2);rw [ks_get] at hc;have hk:hasP t (kids t i)[j]:=has_iff.2 (.inr (h.ok.kid (List.getElem_mem hj2)).1);have hb':=(h.raw.node _ hk).blk;have e3:(kids t i).getD j 0=(kids t i)[j]:=by rw [List.getD_eq_getElem?_getD,List.getElem?_eq_getElem hj2,Option.getD_some]
 exact ⟨g,s.g (kids t i)[j],e2,by rw [List.getElem_map],hc,_,_,by rw [e3];exact hb'⟩
theorem tsame (h:TreeAt w b s t) (h2:TreeAt w b2 s2 u) (hn:t.length<=1000) (hn2:u.length<=1000) :
  Calls Tryz.prog 43 #[.pointer (some ⟨b,0,none⟩),.pointer (some ⟨b2,0,none⟩)] w fun e w'=>∃ r,e=.returned (.bool r)∧(r=true↔∀ q,kids t q=kids u q)∧Below w.heap.size w w':=by
 obtain ⟨c0,bi⟩:=h.raw.top;obtain ⟨c2,bi2⟩:=h2.raw.top;have hl1:=fun ty n=>(h.drewN n).maplen ty;have hl2:=fun ty n=>(h2.drewN n).maplen ty;have HT:=Hd h;have HU:=Hd h2;have HN:=Hd (And.intro hn hn2);by_cases hl:t.length=u.length
 case neg=>
  have q:(((t.length+1:Nat):Int) != ((u.length+1:Nat):Int))=true:=by simp;omega
  have HL:=Hd hl;clear h h2 hn hn2 hl;generalize t.length+1=n1 at *;generalize u.length+1=n2 at *;go_enter Tryz.func43,Tryz.ntmps43;go_wp2_with (fail)
  go_quiet (fail)
  go_wp2_with (fail);go_ret;exact ⟨false,rfl,⟨nofun,fun e=>absurd (alike_len HT.out.ok HU.out.ok e) HL.out⟩,Below.drewN' bR _⟩
 have q:(((t.length+1:Nat):Int) != ((u.length+1:Nat):Int))=false:=by simp;omega
 have HL:=Hd hl;obtain ⟨es,hm,hlk⟩:=h.raw.map;have HM:=Hd (And.intro hm hlk);clear h h2 hn hn2 hl hm hlk;generalize t.length+1=n1 at *;generalize u.length+1=n2 at *;go_enter Tryz.func43,Tryz.ntmps43;go_wp2_with (fail)
 go_quiet (fail)
 go_wp2_with (at_range;refine wpList_range_own _ rfl _ 186 rfl 3 182 keyedI Tryz.underlying186 ptrElem s.m es.length (mapOf es) rfl ?_ ?_;exact (HM.out.1.stays (w':=w.drewN _) rfl).own;intro w0 hrg0 hg0 hs0)
 go_frame
 rw [show ∀ k,(w.drewN k).heap.size=w.heap.size from fun _=>rfl] at hrg0 hs0 ⊢;have hb0:Below w.heap.size w w0:=(Below.drewN' (Below.refl _ w) _).trans ⟨hg0.os,hg0.tape,hg0.output,hg0.size,fun k hk=>hg0.block k hk (by simp)⟩;have HB0:=Hd hb0;have HRG:=Hd hrg0;have HSZ:=Hd hs0;clear hrg0 hg0 hs0 hb0 q
 go_loopw [] (fun wr=>∃ (left:Lit->Bool) (cnt:Nat),Hid (wr.ranges Tryz.prog 3 ptrElem s.m w.heap.size es.length (mapOf es) left cnt)∧Hid (Below w.heap.size w wr)∧Hid (∀ i,has t i=true->left (.int .i64 i)=false->has u i=true∧kids t i=kids u i)) (fun wr=>wr.rangeLeft s.m w.heap.size)
 case atStart=>
  refine ⟨_,_,HRG.out,HB0.out,fun i hi hf=>?_⟩;have:=has_map ((HM.out.2 i (s.g i)).2 ⟨hi,rfl⟩);rw [this] at hf;cases hf
 case round=>
  obtain ⟨left,cnt,hrg,hbw,hso⟩:=hrel;go_wp2_with (at_next;refine wpList_next_ranges _ rfl _ rfl 3 keyedI ptrElem (Value.int .i64) ptrTo (fun key kl hk=>by obtain ⟨x,hx,_⟩:=Maps.keyOf_int_inv Tryz.underlying3 hk;exact ⟨x,hx⟩) (fun v y hv=>ptrTo_of hv) s.m w.heap.size es.length (mapOf es) left cnt rfl hrg.out ?_ ?_)
  ·intro _ hl0;have HL0:=Hd hl0;clear hl0;go_wp2_with (fail);go_ret;exact ⟨true,rfl,⟨fun _=>same_all HT.out.ok HU.out.ok HL.out fun i hi=>hso.out i hi (HL0.out _),fun _=>rfl⟩,hbw.out⟩
  ·intro x c kl yd yp w2 cnt1 hkey hlk hv hat hrg1 hlt hg1 hs1 hen;obtain ⟨rfl,hx64,g,rfl,hlb⟩:=came hkey hv hat;obtain ⟨hx,rfl⟩:=(HM.out.2 x g).1 hlb;simp only [ptrTo] at hen ⊢;have hb1:Below w.heap.size w w2:=hbw.out.trans ⟨hg1.os,hg1.tape,hg1.output,hg1.size,fun k hk=>hg1.block k (by have:=hbw.out.size;omega) (fun e=>by have:=Option.some.inj e;omega)⟩;have HEN:=Hd hen;have HX:=Hd hx;have HB1:=Hd hb1;have HRG1:=Hd hrg1;have hme:w2.rangeLeft s.m w.heap.size<wr.rangeLeft s.m w.heap.size:=by rw [hrg1.left_eq,hrg.out.left_eq];exact hlt
   have HME:=Hd hme;have c2':=(hb1.cell (p:=⟨b2,0,none⟩) bi2).trans c2;have bi2':=Nat.lt_of_lt_of_le bi2 hb1.size;by_cases hu:has u x=true
   case neg=>
    have hlk2:=(HU.out.below hb1).raw.look_none hx64 hu;have HNU:=Hd hu;clear hkey hlk hv hat hrg1 hlt hg1 hs1 hlb hx hb1 hme hu hx64 c0 bi c2 bi2 hl1 hl2;go_wp2_with (fail)
    go_quiet (fail)
    go_wp2_with (fail);go_ret;exact ⟨false,rfl,⟨nofun,fun e=>absurd ((alike_has e x).symm.trans HX.out) HNU.out⟩,Below.drewN' HB1.out _⟩
   have hlk2:=(HU.out.below hb1).raw.look_some hx64 hu;obtain ⟨⟨-,-,n2⟩,-,ni⟩:=HT.out.raw.cells (i:=x) hx;obtain ⟨⟨-,-,m2⟩,-,mi⟩:=HU.out.raw.cells (i:=x) hu
   have HK:Hid (∀ W,Below w.heap.size w W->KidsAt W (s.v x) ((kids t x).map s.g) (kids t x)∧KidsAt W (s2.v x) ((kids u x).map s2.g) (kids u x)):=fun W hb=>⟨kids_at (HT.out.below hb) hx,kids_at (HU.out.below hb) hu⟩
   have HKL:Hid (((kids t x).map s.g).length<=100000∧((kids u x).map s2.g).length<=100000):=by
    have h1:=kids_le t x;have h2:=kids_le u x;have h3:=HN.out;constructor<;>(rw [List.length_map];omega)
   obtain ⟨A1,a1,k1,hv1⟩:=SOwn.shape (HT.out.raw.node x hx).own;obtain ⟨A2,a2,k2,hv2⟩:=SOwn.shape (HU.out.raw.node x hu).own;rw [hv1] at n2 HK;rw [hv2] at m2 HK
   have HC:Hid (∀ W,Below w.heap.size w W->W.cell? ⟨s.g x,2,none⟩=some (.slice A1 a1 k1)∧s.g x<W.heap.size∧W.cell? ⟨s2.g x,2,none⟩=some (.slice A2 a2 k2)∧s2.g x<W.heap.size):=fun W hb=>
    ⟨(hb.cell (p:=⟨s.g x,2,none⟩) ni).trans n2,Nat.lt_of_lt_of_le ni hb.size,(hb.cell (p:=⟨s2.g x,2,none⟩) mi).trans m2,Nat.lt_of_lt_of_le mi hb.size⟩
   have HU2:=Hd hu;clear hkey hlk hv hat hrg1 hlt hg1 hs1 hlb hx hb1 hme hu hx64 c0 bi c2 bi2 hl1 hl2 n2 m2 ni mi hv1 hv2;go_wp2_with (fail)
   refine wRn [35,36,37,38,39,40,41,42,43,44,45,46,47,48] (fun i=>match i with
    |0|7|8=>rV (.pointer (some ⟨s2.g x,0,none⟩))
    |1|2=>rV (.bool false)
    |3|4=>rV (.pointer (some ⟨s.g x,0,none⟩))
    |5=>rV (.pointer (some ⟨s.g x,2,none⟩))
    |6=>rV (.slice A1 a1 k1)
    |9=>rV (.pointer (some ⟨s2.g x,2,none⟩))
    |10=>rV (.slice A2 a2 k2)
    |11=>rV (.bool (decide (kids t x=kids u x)))
    |12|13=>rV (.bool (!(decide (kids t x=kids u x))))
    | _=>ra) ⟨?_,?_,?_,?_,?_,?_,?_,?_,?_,?_,?_,?_,?_,?_,trivial⟩ ?_
   any_goals (first|refine zp fun L a w1 hh=>?_|fail)
   any_goals (first|refine sy rfl rfl fun L a w1 hh=>?_|fail)
   have h7:=hh.p 7 (s2.g x) 0;rotate_left;have h35:=rq (hh.d 0 35);rotate_left;have h36:=rq (hh.d 1 36);rotate_left;have h6:=hh.p 6 (s.g x) 0;rotate_left
   ·have h38:=rq (hh.d 3 38);obtain ⟨q1,q2,q3,q4⟩:=HC.out _ (HB1.out.trans ((show Below w2.heap.size w2 w1 from hh.rel).mono HB1.out.size));clear hh;go_simp;exact ⟨_,rfl,rB,rfl,trivial⟩
   have h39:=rq (hh.d 4 39);rotate_left
   ·have h40:=rq (hh.d 5 40);obtain ⟨q1,q2,q3,q4⟩:=HC.out _ (HB1.out.trans ((show Below w2.heap.size w2 w1 from hh.rel).mono HB1.out.size));clear hh;go_simp;exact ⟨_,rfl,rB,rfl,trivial⟩
   have h7:=hh.p 7 (s2.g x) 0;rotate_left
   ·have h42:=rq (hh.d 7 42);obtain ⟨q1,q2,q3,q4⟩:=HC.out _ (HB1.out.trans ((show Below w2.heap.size w2 w1 from hh.rel).mono HB1.out.size));clear hh;go_simp;exact ⟨_,rfl,rB,rfl,trivial⟩
   have h43:=rq (hh.d 8 43);rotate_left
   ·have h44:=rq (hh.d 9 44);obtain ⟨q1,q2,q3,q4⟩:=HC.out _ (HB1.out.trans ((show Below w2.heap.size w2 w1 from hh.rel).mono HB1.out.size));clear hh;go_simp;exact ⟨_,rfl,rB,rfl,trivial⟩
   ·have h41:=rq (hh.d 6 41);have h45:=rq (hh.d 10 45);have hJ:=Hd hh.st;obtain ⟨r1,r2⟩:=HK.out _ (HB1.out.trans ((show Below w2.heap.size w2 w1 from hh.rel).mono HB1.out.size));have HQ:=Hd (equal_func r1 r2 HKL.out);clear hh r1 r2;go_simp;refine HQ.out.mono ?_;rintro e w9 ⟨rfl,hd9⟩;exact ⟨_,rfl,hd9.below _,rfl,hJ.out⟩
   have h46:=rq (hh.d 11 46);rotate_left;have h37:=rq (hh.d 2 37);have h47:=rq (hh.d 12 47);rotate_left
   any_goals (clear hh;go_simp;exact ⟨_,rfl,rB,rfl,trivial⟩)
   intro L w3 val hL hJ hR hv;have e48:val 48=_:=hv 13 48 rfl;have HR3:=Hd (HB1.out.trans ((show Below w2.heap.size w2 w3 from hR).mono HB1.out.size));simp only [regs.putAll,List.map_cons,List.map_nil];rw [e48];simp only [Act.put,List.setIfInBounds_toArray,List.set_cons_zero,List.set_cons_succ];have HRG3:Hid (w3.ranges Tryz.prog 3 ptrElem s.m w.heap.size es.length (mapOf es) (fun z=>left z && !z.sameKey (.int .i64 x)) cnt1):=HRG1.out.kept (below_grown (show Below w2.heap.size w2 w3 from hR)) (by simp) (by simp)
   have HME3:Hid (w3.rangeLeft s.m w.heap.size<wr.rangeLeft s.m w.heap.size):=by
    show _<_;rw [HRG3.out.left_eq,← HRG1.out.left_eq];exact HME.out
   clear hv hL hJ hR e48 HRG1 HME
   skip
   skip
   skip
   skip
   skip
   skip
   skip
   skip
   skip
   skip
   skip
   skip
   skip
   by_cases e:kids t x=kids u x
   ·have HE:=Hd e;rw [decide_eq_true e];clear e;go_wp2_with (fail)
    go_roundw
    case rel=>
     refine ⟨_,_,HRG3,HR3,fun i hi hf=>?_⟩;by_cases ei:i=x
     ·rw [ei];exact ⟨HU2.out,HE.out⟩
     ·refine hso.out i hi ?_
      have:(Lit.int IntKind.i64 i).sameKey (.int .i64 x)=false:=by
       simp only [Lit.sameKey];simp [ei]
      rw [this] at hf
      simpa using hf
    case measure=>exact HME3.out
   ·have HE:=Hd e;rw [decide_eq_false e];clear e;go_wp2_with (fail);go_ret;exact ⟨false,rfl,⟨nofun,fun e=>absurd (e x) HE.out⟩,HR3.out⟩
end
end Go.Proofs.YthoildbfghfhpaaGreat
namespace Go.Proofs.YthoildbfghfhpaaGreat
open Go.RowKit trm itr
structure RawX (w:World) (b:Nat) (s:Sh) (H:Int->Prop) (P:Int->Option Int) (K:Int->List Int) (x:Int) (a:Nat) (l:List (Option Nat)):Prop where
 blk:BlkT w b [.map (some s.m)] tTree
 map:∃ es,MapAt w s.m es∧∀ i g,omap.look es i=some g↔H i∧s.g i=g
 node:∀ i,H i->i≠x->NodeAt w (s.g i) i ((P i).map s.g) (s.v i) (ks s (K i))
 hole:BlkT w (s.g x) [.int .i64 x,ptrTo ((P x).map s.g),.slice (some ⟨a,0,none⟩) l.length l.length] tNode
 row:BlkT w a (l.map ptrTo) tPtr
 inj:∀ i j,H i->H j->s.g i=s.g j->i=j
 apart:∀ i j k,H i->H j->i≠x->j≠x->(s.v i).ownBlock=some k->(s.v j).ownBlock=some k->i=j
 new:∀ i,H i->i≠x->(s.v i).ownBlock≠some a
section
variable {w w':World} {b:Nat} {s:Sh} {H:Int->Prop} {P:Int->Option Int} {K:Int->List Int} {x:Int} {a:Nat} {l:List (Option Nat)}
theorem RawX.close (h:RawX w b s H P K x a l) (hx:H x) {k:List Int} (hl:l=ks s k) (hn:l.length<=100000):Raw w b ⟨s.m,s.g,setf s.v x (.slice (some ⟨a,0,none⟩) l.length l.length)⟩ H P (setf K x k):=by
 refine ⟨h.blk,h.map,fun i hi=>?_,h.inj,fun i j k' hi hj h1 h2=>?_⟩
 ·by_cases e:i=x
  ·subst e;simp only [setf_same];refine ⟨h.hole,?_⟩;have:=KOwn.of_cells (w:=w) (g:=a) (cap:=l.length) (n:=l.length) (cur:=(l.map ptrTo).toArray) (l:=l) h.row rfl nR (by unfold maxLen;omega) (by simp) (by rw [List.take_of_length_le (by simp)]);rw [hl] at this ⊢;exact this
  ·simp only [setf_other _ e];exact h.node i hi e
 ·by_cases ei:i=x<;>by_cases ej:j=x
  ·rw [ei,ej]
  ·simp only [ei,setf_same,setf_other _ ej] at h1 h2;exact absurd (h2.trans h1.symm) (h.new j hj ej)
  ·simp only [ej,setf_same,setf_other _ ei] at h1 h2;exact absurd (h1.trans h2.symm) (h.new i hi ei)
  ·simp only [setf_other _ ei,setf_other _ ej] at h1 h2;exact h.apart i j k' hi hj ei ej h1 h2
theorem RawX.stays (h:RawX w b s H P K x a l) (hb:∀ k cs T,BlkT w k cs T->(T=tTree∨T=tNode∨k=a)->w'.heap[k]?=w.heap[k]?) (hm:w'.heap[s.m]?=w.heap[s.m]?) (ho:∀ i k,H i->i≠x->(s.v i).ownBlock=some k->w'.heap[k]?=w.heap[k]?):RawX w' b s H P K x a l:=by
 obtain ⟨es,hm',hl⟩:=h.map;exact ⟨h.blk.stays (hb _ _ _ h.blk (.inl rfl)),⟨es,hm'.stays hm,hl⟩,fun i hi hx=>(h.node i hi hx).stays (hb _ _ _ (h.node i hi hx).blk (.inr (.inl rfl))) fun k hk=>ho i k hi hx hk,h.hole.stays (hb _ _ _ h.hole (.inr (.inl rfl))),h.row.stays (hb _ _ _ h.row (.inr (.inr rfl))),h.inj,h.apart,h.new⟩
theorem RawX.below (h:RawX w b s H P K x a l) (hb:Below w.heap.size w w'):RawX w' b s H P K x a l:=by
 obtain ⟨es,hm',hl⟩:=h.map;exact h.stays (fun k cs T hk _=>hb.block k hk.inside) (hb.block _ hm'.inside) fun i k hi hx hk=>hb.block k (SOwn.block (h.node i hi hx).own hk).2
theorem RawX.fill (h:RawX w b s H P K x a l) (j:Nat) (o:Option Nat):RawX (w.setCell ⟨a,j,none⟩ (ptrTo o)) b s H P K x a (l.set j o):=by
 obtain ⟨es,hm,hl⟩:=h.map
 have hne:∀ k cs T,BlkT w k cs T->T≠tPtr->k≠a:=fun k cs T hk hT e=>by
  rw [e] at hk;have:=hk.symm.trans h.row;simp only [Option.some.injEq,Obj.cells.injEq] at this;exact hT this.2.1
 refine ⟨h.blk.stays (heap_setCell_other _ _ _ _ (hne _ _ _ h.blk (by decide))),⟨es,hm.stays (heap_setCell_other _ _ _ _ fun (e:s.m=a)=>hm.not_blk (e ▸ h.row)),hl⟩,fun i hi hx=>(h.node i hi hx).stays (heap_setCell_other _ _ _ _ (hne _ _ _ (h.node i hi hx).blk (by decide))) fun k hk=>heap_setCell_other _ _ _ _ fun (e:k=a)=>h.new i hi hx (e ▸ hk),?_,?_,h.inj,h.apart,h.new⟩
 ·rw [List.length_set];exact h.hole.stays (heap_setCell_other _ _ _ _ (hne _ _ _ h.hole (by decide)))
 ·rw [List.map_set];exact h.row.set j _
theorem RawX.parent (h:RawX w b s H P K x a l) {y:Int} (hy:H y) (hyx:y≠x) (hx:H x):RawX (w.setCell ⟨s.g y,1,none⟩ (.pointer (some ⟨s.g x,0,none⟩))) b s H (setf P y (some x)) K x a l:=by
 obtain ⟨es,hm,hl⟩:=h.map;have hby:=(h.node y hy hyx).blk
 have hne:∀ k cs T,BlkT w k cs T->T≠tNode->k≠s.g y:=fun k cs T hk hT e=>by
  rw [e] at hk;have:=hk.symm.trans hby;simp only [Option.some.injEq,Obj.cells.injEq] at this;exact hT this.2.1
 have hgx:s.g x≠s.g y:=fun e=>hyx (h.inj x y hx hy e).symm
 have hown:∀ i,H i->i≠x->KOwn (w.setCell ⟨s.g y,1,none⟩ (.pointer (some ⟨s.g x,0,none⟩))) (s.v i) (ks s (K i)):=fun i hi hix=>SOwn.stays (h.node i hi hix).own fun k hk=>heap_setCell_other _ _ _ _ fun (e:k=s.g y)=>by
  rw [e] at hk;exact (h.node i hi hix).own.not_blk hk hby tNode_ne
 refine ⟨h.blk.stays (heap_setCell_other _ _ _ _ (hne _ _ _ h.blk (by decide))),⟨es,hm.stays (heap_setCell_other _ _ _ _ fun (e:s.m=s.g y)=>hm.not_blk (e ▸ hby)),hl⟩,fun i hi hix=>?_,?_,h.row.stays (heap_setCell_other _ _ _ _ (hne _ _ _ h.row (by decide))),h.inj,h.apart,h.new⟩
 ·by_cases e:i=y
  ·subst e;rw [setf_same];exact ⟨hby.set 1 _,hown i hi hix⟩
  ·rw [setf_other _ e];exact ⟨(h.node i hi hix).blk.stays (heap_setCell_other _ _ _ _ fun (e2:s.g i=s.g y)=>e (h.inj i y hi hy e2)),hown i hi hix⟩
 ·rw [setf_other _ (Ne.symm hyx)];exact h.hole.stays (heap_setCell_other _ _ _ _ hgx)
theorem Raw.open_ (h:Raw w b s H P K) {x:Int} (hx:H x) (n:Nat) :
  RawX ((w.alloc (.cells (List.replicate n (Value.pointer none)).toArray tPtr)).setCell ⟨s.g x,2,none⟩ (.slice (some ⟨w.heap.size,0,none⟩) n n)) b s H P K x w.heap.size (List.replicate n none):=by
 obtain ⟨w0,hw0⟩:∃ w0,w0=w.alloc (.cells (List.replicate n (Value.pointer none)).toArray tPtr):=⟨_,rfl⟩
 have hb:Below w.heap.size w w0:=by rw [hw0];exact bR.alloc nR _
 have hr:BlkT w0 w.heap.size ((List.replicate n none).map ptrTo) tPtr:=by rw [hw0,List.map_replicate];exact BlkT.new w _ _
 have h0:=h.below hb;rw [← hw0];obtain ⟨es,hm,hl⟩:=h0.map;have hbx:=(h0.node x hx).blk
 have hne:∀ k cs T,BlkT w0 k cs T->T≠tNode->k≠s.g x:=fun k cs T hk hT e=>by
  rw [e] at hk;have:=hk.symm.trans hbx;simp only [Option.some.injEq,Obj.cells.injEq] at this;exact hT this.2.1
 refine ⟨h0.blk.stays (heap_setCell_other _ _ _ _ (hne _ _ _ h0.blk (by decide))),⟨es,hm.stays (heap_setCell_other _ _ _ _ fun (e:s.m=s.g x)=>hm.not_blk (e ▸ hbx)),hl⟩,fun i hi hix=>(h0.node i hi).stays (heap_setCell_other _ _ _ _ fun (e:s.g i=s.g x)=>hix (h.inj i x hi hx e)) fun k hk=>heap_setCell_other _ _ _ _ fun (e:k=s.g x)=>(h0.node i hi).own.not_blk (e ▸ hk) hbx tNode_ne,?_,hr.stays (heap_setCell_other _ _ _ _ (hne _ _ _ hr (by decide))),h.inj,fun i j k hi hj _ _=>h.apart i j k hi hj,fun i hi _ e=>?_⟩
 ·rw [List.length_replicate];exact hbx.set 2 _
 ·have:=(SOwn.block (h.node i hi).own e).2;omega
theorem Raw.open2 (h:Raw w b s H P K) {x:Int} (hx:H x) (n:Nat) :
  RawX ((w.setCell ⟨s.g x,2,none⟩ (.slice (some ⟨w.heap.size,0,none⟩) n n)).alloc (.cells (List.replicate n (Value.pointer none)).toArray tPtr)) b s H P K x w.heap.size (List.replicate n none):=by
 have:=h.open_ hx n;rw [World.setCell_alloc_past _ _ _ _ (h.node x hx).blk.inside] at this;exact this
theorem RawX.move (h:RawX w b s H P K x a l) (hb:∀ k,k<w.heap.size->w'.heap[k]?=w.heap[k]?):RawX w' b s H P K x a l:=by
 obtain ⟨es,hm',hl⟩:=h.map;exact h.stays (fun k cs T hk _=>hb k hk.inside) (hb _ hm'.inside) fun i k hi hx hk=>hb k (SOwn.block (h.node i hi hx).own hk).2
theorem make_ptrs (w:World) (n:Nat) (hn:n<=2000000):(Instr.makeSlice 183 (.int .i64 (n:Nat)) (.int .i64 (n:Nat))).run Tryz.prog w=.ok (.slice (some ⟨w.heap.size,0,none⟩) n n) (w.alloc (.cells (List.replicate n (Value.pointer none)).toArray tPtr)):=by
 obtain ⟨i,hi,hz,hsize,hby⟩:=info_parts info_ptr;have h:=run_make (P:=Tryz.prog) w 183 tPtr i (.pointer none) Tryz.underlying183 hi hz .i64 .i64 n n (by omega) (by omega) (by rw [hby];omega) (by omega);rw [hsize,Int.toNat_natCast,Nat.mul_one,made_one _ _ rfl] at h;exact h
theorem setCell_grown (w:World) (a:Addr) (v:Value):w.grownBy (w.setCell a v) (some a.block):=⟨rfl,rfl,rfl,by simp [World.setCell],fun k _ hk=>heap_setCell_other _ _ _ _ fun e=>hk (by rw [e])⟩
end
end Go.Proofs.YthoildbfghfhpaaGreat
namespace Go.Proofs.YthoildbfghfhpaaGreat
open Go.RowKit trm itr
structure FillJ (ar j:Nat) (l:List (Option Nat)) (o:Option Nat) (b:Bool) (w:World):Prop where
 no:b=false->BlkT w ar (l.map ptrTo) tPtr
 yes:b=true->BlkT w ar ((l.set j o).map ptrTo) tPtr
section
variable {w:World} {b:Nat} {s:Sh} {t:T}
abbrev doneH (t:T) (left:Lit->Bool):Int->Prop:=fun i=>has t i=true∧left (.int .i64 i)=false
def doneP (t:T) (left:Lit->Bool):Int->Option Int:=fun i=>if i≠0∧left (.int .i64 (par t i))=false then some (par t i) else none
def doneK (t:T) (left:Lit->Bool):Int->List Int:=fun i=>if left (.int .i64 i)=false then kids t i else []
theorem left_step (left:Lit->Bool) (x i:Int):(left (.int .i64 i) && !(Lit.int IntKind.i64 i).sameKey (.int .i64 x))=false↔(i=x∨left (.int .i64 i)=false):=by
 have:(Lit.int IntKind.i64 i).sameKey (.int .i64 x)=decide (i=x):=by
  simp only [Lit.sameKey];exact Bool.eq_iff_iff.2 (by simp)
 rw [this];by_cases e:i=x
 ·simp [e]
 ·simp [e]
theorem done_step {left:Lit->Bool} {x:Int} (hx:has t x=true) (i:Int):doneH t (fun z=>left z && !z.sameKey (.int .i64 x)) i↔(i=x∨doneH t left i):=by
 show (_∧(left (.int .i64 i) && !(Lit.int IntKind.i64 i).sameKey (.int .i64 x))=false)↔_;rw [left_step];constructor
 ·rintro ⟨h1,h2 | h2⟩
  ·exact .inl h2
  ·exact .inr ⟨h1,h2⟩
 ·rintro (h1 | h1)
  ·exact ⟨h1 ▸ hx,.inl h1⟩
  ·exact ⟨h1.1,.inr h1.2⟩
def CloneQ (t:T) (w:World) (e:Ending) (w':World):Prop:=∃ b' s',e=.returned (.pointer (some ⟨b',0,none⟩))∧TreeAt w' b' s' t∧(∀ k,FootT b' s' t k->w.heap.size<=k)∧Below w.heap.size w w'
theorem tclone (h:TreeAt w b s t) (hn:t.length<=1000) :
  Calls Tryz.prog 41 #[.pointer (some ⟨b,0,none⟩)] w (CloneQ t w):=by
 unfold CloneQ;obtain ⟨c0,bi⟩:=h.raw.top;have hlen:=fun ty=>h.maplen ty;have hmm:=fun (n:Int) w=>make_map w (some (.int .i64 n)) (.inr ⟨n,rfl⟩);obtain ⟨es,hm,hlk⟩:=h.raw.map;have HM:=Hd (And.intro hm hlk);have HT:=Hd h;have HN:=Hd hn;have HES:Hid (es.length=t.length+1):=es_len hm.rises h.ok hlk;have HC0:=Hd c0;have HBI:=Hd bi
 obtain ⟨w1,hw1⟩:∃ w1,w1=(w.alloc (.map #[] 0)).alloc (.cells #[.map (some w.heap.size)] tTree):=⟨_,rfl⟩
 have hb1:Below w.heap.size w w1:=by rw [hw1];exact ((Below.refl _ w).alloc nR _).alloc (by simp) _
 have hs1:w1.heap.size=w.heap.size+2:=by rw [hw1];simp
 have hraw1:Raw w1 (w.heap.size+1) ⟨w.heap.size,fun _=>0,fun _=>.slice none 0 0⟩ (fun _=>False) (fun _=>none) (fun _=>[]):=by
  refine ⟨?_,⟨[],?_,fun i g=>by simp [omap.look_nil]⟩,fun _ h=>h.elim,fun _ _ h=>h.elim,fun _ _ _ h=>h.elim⟩
  ·have:=BlkT.new (w.alloc (.map #[] 0)) [.map (some w.heap.size)] tTree;rw [World.size_alloc,← hw1] at this;exact this
  ·exact (mapAt_made w).stays (by rw [hw1];exact Below.heap_alloc _ _ _ (by simp))
 have HW1:=Hd hw1;have HB1:=Hd hb1;have HS1:=Hd hs1;have HR1:=Hd hraw1;have c1:=(hb1.cell (p:=⟨b,0,none⟩) bi).trans c0;have bi1:=Nat.lt_of_lt_of_le bi hb1.size;clear h hn hm hlk hb1 hs1 hraw1;generalize t.length+1=n1 at *;go_enter Tryz.func41,Tryz.ntmps41;rw [hw1] at c1 bi1;clear hw1;go_wp2_with (at_range;refine wpList_range_own _ rfl _ 186 rfl 3 182 keyedI Tryz.underlying186 ptrElem s.m es.length (mapOf es) rfl ?_ ?_;exact (by rw [← HW1.out];exact (HM.out.1.stays (HB1.out.block _ HM.out.1.inside)).own);intro w2 hrg2 hg2 hs2)
 go_frame
 rw [← HW1.out] at hrg2 hg2 hs2 ⊢;have hwm:s.m<w.heap.size:=HM.out.1.inside
 obtain ⟨r1,hr1⟩:∃ r1,w1.heap.size=r1:=⟨_,rfl⟩
 rw [hr1] at hrg2 hs2 HS1 ⊢
 have hb2:Below w1.heap.size w1 w2:=⟨hg2.os,hg2.tape,hg2.output,hg2.size,fun k hk=>hg2.block k hk (by simp)⟩
 have HB2:=Hd (HB1.out.trans (hb2.mono HB1.out.size));have HR2:Hid (Raw w2 (w.heap.size+1) ⟨w.heap.size,fun _=>0,fun _=>.slice none 0 0⟩ (fun _=>False) (fun _=>none) (fun _=>[])):=HR1.out.below hb2;have HRG2:=Hd hrg2;have HWM:=Hd hwm;clear hrg2 hg2 hs2 hb2 HR1 HB1 HW1 hr1 hwm hlen bi1 c1
 go_loopw [] (fun wr=>∃ (left:Lit->Bool) (cnt:Nat) (sc:Sh),Hid (wr.ranges Tryz.prog 3 ptrElem s.m r1 es.length (mapOf es) left cnt)∧Hid (Below w.heap.size w wr)∧Hid (Raw wr (w.heap.size+1) sc (doneH t left) (fun _=>none) (fun _=>[]))∧Hid (sc.m=w.heap.size∧∀ k,Foot (w.heap.size+1) sc (doneH t left) k->w.heap.size<=k∧k≠r1)) (fun wr=>wr.rangeLeft s.m r1)
 case atStart=>
  have hno:∀ i,¬ doneH t (Maps.has (mapOf es)) i:=fun i hi=>by
   have:=has_map ((HM.out.2 i (s.g i)).2 ⟨hi.1,rfl⟩);have hf:=hi.2;rw [this] at hf;cases hf
  refine ⟨_,_,⟨w.heap.size,fun _=>0,fun _=>.slice none 0 0⟩,HRG2.out,HB2.out,HR2.out.like (fun i=>⟨fun h=>hno i h,fun h=>h.elim⟩) (fun _ h=>h.elim) (fun _ h=>h.elim),rfl,?_⟩;have:=HS1.out;rintro k (e | e | ⟨i,hi,_⟩)
  ·rw [e];omega
  ·rw [e];simp only;omega
  ·exact absurd hi (hno i)
 case round=>
  obtain ⟨left,cnt,sc,hrg,hbw,hraw,hfo⟩:=hrel;go_wp2_with (at_next;refine wpList_next_ranges _ rfl _ rfl 3 keyedI ptrElem (Value.int .i64) ptrTo (fun key kl hk=>by obtain ⟨x,hx,_⟩:=Maps.keyOf_int_inv Tryz.underlying3 hk;exact ⟨x,hx⟩) (fun v y hv=>ptrTo_of hv) s.m r1 es.length (mapOf es) left cnt rfl hrg.out ?_ ?_)
  ·intro _ hl0;have HRA:Hid (Raw wr (w.heap.size+1) sc (hasP t) (fun _=>none) (fun _=>[])):=hraw.out.like (fun i=>⟨fun h=>⟨h,hl0 _⟩,fun h=>h.1⟩) (fun _ _=>rfl) (fun _ _=>rfl)
   have HFO:Hid (sc.m=w.heap.size∧∀ k,FootT (w.heap.size+1) sc t k->w.heap.size<=k∧k≠r1):=⟨hfo.out.1,fun k hk=>hfo.out.2 k (by
    rcases hk with e | e | ⟨i,hi,e⟩
    ·exact .inl e
    ·exact .inr (.inl e)
    ·exact .inr (.inr ⟨i,⟨hi,hl0 _⟩,e⟩))⟩
   have c1:=(hbw.out.cell HBI.out).trans HC0.out;have bi1:=Nat.lt_of_lt_of_le HBI.out hbw.out.size;clear hl0 hraw hfo hrg;go_wp2_with (at_range;refine wpList_range_own _ rfl _ 186 rfl 3 182 keyedI Tryz.underlying186 ptrElem s.m es.length (mapOf es) rfl ?_ ?_;exact (HM.out.1.stays (hbw.out.block _ HM.out.1.inside)).own;intro w3 hrg3 hg3 hs3)
   go_frame
   obtain ⟨r2,hr2⟩:∃ r2,wr.heap.size=r2:=⟨_,rfl⟩
   have hin2:∀ k,FootT (w.heap.size+1) sc t k->k<r2:=fun k hk=>hr2 ▸ HRA.out.inside k hk
   have hb3:Below wr.heap.size wr w3:=⟨hg3.os,hg3.tape,hg3.output,hg3.size,fun k hk=>hg3.block k hk (by simp)⟩
   have HB3:Hid (Below w.heap.size w w3):=hbw.out.trans (hb3.mono hbw.out.size);have HR3:=Hd (HRA.out.below hb3)
   have HF3:Hid (sc.m=w.heap.size∧∀ k,FootT (w.heap.size+1) sc t k->w.heap.size<=k∧k≠r2):=⟨HFO.out.1,fun k hk=>⟨(HFO.out.2 k hk).1,fun e=>by have:=hin2 k hk;omega⟩⟩
   have HRW2:Hid (w.heap.size<=r2):=hr2 ▸ hbw.out.size;rw [hr2] at hrg3 hs3 ⊢;have HRG3:=Hd hrg3;clear hrg3 hg3 hs3 hb3 hin2 hr2 HRA HFO hbw c1 bi1
   rename_i wold
   go_loopw [] (fun wr=>∃ (left:Lit->Bool) (cnt:Nat) (sc:Sh),Hid (wr.ranges Tryz.prog 3 ptrElem s.m r2 es.length (mapOf es) left cnt)∧Hid (Below w.heap.size w wr)∧Hid (Raw wr (w.heap.size+1) sc (hasP t) (doneP t left) (doneK t left))∧Hid (sc.m=w.heap.size∧∀ k,FootT (w.heap.size+1) sc t k->w.heap.size<=k∧k≠r2)) (fun wr=>wr.rangeLeft s.m r2)
   case atStart=>
    have hyes:∀ i,has t i=true->Maps.has (mapOf es) (.int .i64 i)=true:=fun i hi=>has_map ((HM.out.2 i (s.g i)).2 ⟨hi,rfl⟩);refine ⟨_,_,sc,HRG3.out,HB3.out,HR3.out.like (fun _=>Iff.rfl) (fun i hi=>?_) (fun i hi=>?_),HF3.out⟩
    ·unfold doneP;refine if_neg fun e=>?_;have:=hyes (par t i) (has_iff.2 (HT.out.ok.par_ok ((has_iff.1 hi).resolve_left e.1)));rw [this] at e;exact absurd e.2 (by simp)
    ·unfold doneK;rw [if_neg (by rw [hyes i hi];simp)]
   case round=>
    obtain ⟨left,cnt,sq,hrg,hbw,hraw,hfo⟩:=hrel;go_wp2_with (at_next;refine wpList_next_ranges _ rfl _ rfl 3 keyedI ptrElem (Value.int .i64) ptrTo (fun key kl hk=>by obtain ⟨x,hx,_⟩:=Maps.keyOf_int_inv Tryz.underlying3 hk;exact ⟨x,hx⟩) (fun v y hv=>ptrTo_of hv) s.m r2 es.length (mapOf es) left cnt rfl hrg.out ?_ ?_)
    ·intro _ hl0
     have HRZ:Hid (RawT wr (w.heap.size+1) sq t):=hraw.out.like (fun _=>Iff.rfl) (fun i hi=>by
      unfold upT doneP;by_cases e:i=0
      ·simp [e]
      ·rw [if_neg e,if_pos ⟨e,hl0 _⟩]) (fun i _=>by
      unfold doneK
      rw [if_pos (hl0 _)])
     clear hl0 hraw hrg;go_wp2_with (fail);go_ret;exact ⟨_,sq,rfl,⟨HRZ.out,HT.out.ok⟩,fun k hk=>(hfo.out.2 k hk).1,hbw.out⟩
    ·intro x c kl yd yp w4 cnt1 hkey hlk hv hat hrg1 hlt hg1 hs1 hen;obtain ⟨rfl,hx64,g,rfl,hlb⟩:=came hkey hv hat;obtain ⟨hx,rfl⟩:=(HM.out.2 x g).1 hlb;simp only [ptrTo] at hen ⊢;have hsame:∀ k,k<wr.heap.size->k≠r2->w4.heap[k]?=wr.heap[k]?:=fun k h1 h2=>hg1.block k h1 (fun e1=>h2 (Option.some.inj e1));have hb4:Below w.heap.size w w4:=hbw.out.trans ⟨hg1.os,hg1.tape,hg1.output,hg1.size,fun k hk=>hsame k (by have:=hbw.out.size;omega) (by have:=HRW2.out;omega)⟩
     have hraw4:Raw w4 (w.heap.size+1) sq (hasP t) (doneP t left) (doneK t left):=hraw.out.stays fun k hk=>hsame k (hraw.out.inside k hk) (hfo.out.2 k hk).2;have hlk2:=hraw4.look_some hx64 hx;rw [hfo.out.1] at hlk2;have ctop:=hraw4.top;rw [hfo.out.1] at ctop;obtain ⟨ct1,ct2⟩:=ctop;obtain ⟨⟨q0,q1,q2⟩,⟨f0,f1,f2⟩,qi⟩:=hraw4.cells (i:=x) hx;obtain ⟨⟨-,-,n2⟩,-,ni⟩:=(HT.out.below hb4).raw.cells (i:=x) hx;obtain ⟨A1,k1,hv1,-,-,hat1⟩:=(HT.out.raw.node x hx).own.at_;rw [ks_len] at hv1;rw [hv1] at n2;have hkl:(kids t x).length<=1000:=by have:=kids_le t x;have:=HN.out;omega
     have hmk:=fun w=>make_ptrs w (kids t x).length (by omega)
     obtain ⟨w5,hw5⟩:∃ w5,w5=(w4.setCell ⟨sq.g x,2,none⟩ (.slice (some ⟨w4.heap.size,0,none⟩) (kids t x).length (kids t x).length)).alloc (.cells (List.replicate (kids t x).length (Value.pointer none)).toArray tPtr):=⟨_,rfl⟩
     have hrx5:RawX w5 (w.heap.size+1) sq (hasP t) (doneP t left) (doneK t left) x w4.heap.size (List.replicate (kids t x).length none):=by rw [hw5];exact hraw4.open2 hx _
     have HKK:Hid (∀ W,Below w.heap.size w W->∀ j (hj:j<(kids t x).length),∃ g,A1=some ⟨g,0,none⟩∧W.cell? ⟨g,j,none⟩=some (.pointer (some ⟨s.g (kids t x)[j],0,none⟩))):=fun W hb j hj=>by
      obtain ⟨g,e,-,hc⟩:=hat1 j (by rw [ks_len];exact hj);rw [ks_get] at hc;exact ⟨g,e,(hb.cell (World.block_lt_of_cell? w ⟨g,j,none⟩ hc)).trans hc⟩
     have hgx:w.heap.size<=sq.g x∧sq.g x≠r2:=hfo.out.2 _ (.inr (.inr ⟨x,hx,.inl rfl⟩))
     have hb5:Below w.heap.size w w5:=by
      rw [hw5];exact (hb4.setCell (p:=⟨sq.g x,2,none⟩) hgx.1 _).alloc (by simpa [World.setCell] using hb4.size) _
     have hsm:=HWM.out
     have HRG5:Hid (w5.ranges Tryz.prog 3 ptrElem s.m r2 es.length (mapOf es) (fun z=>left z && !z.sameKey (.int .i64 x)) cnt1):=by
      show World.ranges _ _ _ _ _ _ _ _ _ _;rw [hw5];exact (hrg1.kept (setCell_grown w4 ⟨sq.g x,2,none⟩ _) (fun e=>by have e2:s.m=sq.g x:=Option.some.inj e;have:=hgx.1;omega) (fun e=>hgx.2 (Option.some.inj e).symm)).alloc _
     have hme:cnt1<wr.rangeLeft s.m r2:=by rw [hrg.out.left_eq];exact hlt
     have HME:=Hd hme;have HB5:=Hd hb5;have HX5:=Hd hrx5;have n25:=(hb5.cell (p:=⟨s.g x,2,none⟩) (HT.out.raw.node x hx).blk.inside).trans ((HT.out.raw.cells (i:=x) hx).1.2.2.trans (by rw [hv1]));have ni5:=Nat.lt_of_lt_of_le (HT.out.raw.node x hx).blk.inside hb5.size;have HX:=Hd hx
     have HAR:Hid (w.heap.size<=w4.heap.size∧r2<w4.heap.size):=⟨hb4.size,hrg1.lt⟩
     have HFO:=Hd hfo.out;have HEN:=Hd hen;have HKN:=Hd hkl;have HW5:=Hd hw5;clear hkey hlk hv hat hrg1 hlt hg1 hs1 hlb hx64 hsame hb4 hraw4 hat1 hgx hb5 hsm hme hrx5 hw5 hrg hbw hraw hfo hv1 hx
     go_upto_region 11 with (fail)
     rw [show (w4.setCell ⟨sq.g x,2,none⟩ (.slice (some ⟨w4.heap.size,0,none⟩) (kids t x).length (kids t x).length)).alloc (.cells (Array.replicate (kids t x).length (Value.pointer none)) tPtr)=w5 from (by rw [HW5.out];simp only [List.toArray_replicate])];clear hlk2 ct1 ct2 q0 q1 q2 f0 f1 f2 qi n2 ni;generalize w4.heap.size=ar at *;go_wp2_with (fail)
     go_loopw [65] (fun v wr=>∃ j:Nat,j<=(kids t x).length∧v=.int .i64 (j:Nat)∧Hid (wr.ranges Tryz.prog 3 ptrElem s.m r2 es.length (mapOf es) (fun z=>left z && !z.sameKey (.int .i64 x)) cnt1)∧Hid (Below w.heap.size w wr) ∧
      Hid (RawX wr (w.heap.size+1) sq (hasP t) (fun i=>if i∈(kids t x).take j then some x else doneP t left i) (doneK t left) x ar (fillZ none (ks sq (kids t x)) j))) (fun v _=>(kids t x).length - (intOf v).toNat)
     case atStart=>
      refine ⟨0,Nat.zero_le _,rfl,HRG5,HB5,?_⟩;show RawX _ _ _ _ _ _ _ _ _;rw [fillZ_zero,ks_len];have:(fun i=>if i∈(kids t x).take 0 then some x else doneP t left i)=doneP t left:=by funext i;simp
      rw [this];exact HX5.out
     case round=>
      obtain ⟨j,hj,rfl,hrg,hbw,hrx⟩:=hrel;by_cases hlt:j<(kids t x).length
      ·have t1:decide (j<(kids t x).length)=true:=by simpa using hlt
       obtain ⟨y,hy⟩:∃ y,(kids t x)[j]=y:=⟨_,rfl⟩
       have hyk:y∈kids t x:=by rw [← hy];exact List.getElem_mem hlt
       have hyt:has t y=true:=has_iff.2 (.inr (HT.out.ok.kid hyk).1)
       have hyx:y≠x:=fun e=>by
        have:=depth_kid HT.out.ok hyk;rw [e] at this;omega
       obtain ⟨g1,rA,k1⟩:=HKK.out _ hbw.out j hlt;rw [hy] at k1
       have hy64:I64 y:=by
        obtain ⟨p,hp⟩:=mem_ids.1 (HT.out.ok.kid hyk).1;have:=HT.out.ok.rng _ hp;simp only at this;constructor<;>omega
       have hmap:=hrx.out.map;have hbn:=((HT.out.below hbw.out).raw.node y hyt).blk
       have hne:∀ k cs T,BlkT wr k cs T->T≠tPtr->k≠ar:=fun k cs T hk hT e=>by
        rw [e] at hk;have:=hk.symm.trans hrx.out.row;simp only [Option.some.injEq,Obj.cells.injEq] at this;exact hT this.2.1
       have hrl:(fillZ none (ks sq (kids t x)) j).length=(kids t x).length:=by rw [fillZ_len _ _ (by rw [ks_len];exact hj),ks_len]
       have FC:Hid (∀ W',TurnP (OneB (some ar)) (OneB (some ar)) wr W'->(W'.cell? ⟨sq.g x,2,none⟩=some (.slice (some ⟨ar,0,none⟩) (kids t x).length (kids t x).length)∧sq.g x<W'.heap.size)∧(W'.cell? ⟨w.heap.size+1,0,none⟩=some (.map (some w.heap.size))∧w.heap.size+1<W'.heap.size) ∧
         (W'.cell? ⟨s.g y,0,none⟩=some (.int .i64 y)∧s.g y<W'.heap.size)∧(Instr.lookup 186 (.map (some w.heap.size)) (.int .i64 y) false).run Tryz.prog W'=.ok (.pointer (some ⟨sq.g y,0,none⟩)) W'):=fun W' ht=>by
        have hk:∀ k cs T,BlkT wr k cs T->T≠tPtr->BlkT W' k cs T:=fun k cs T hb' hT=>hb'.stays (ht.far k hb'.inside fun e=>hne k cs T hb' hT (Option.some.inj e).symm).2;have q1:=hk _ _ _ hrx.out.hole (by decide);have q2:=hk _ _ _ hrx.out.blk (by decide);have q3:=hk _ _ _ hbn (by decide);rw [hrl] at q1;rw [HFO.out.1] at q2;refine ⟨⟨q1.blk.cell 2,q1.inside⟩,⟨q2.blk.cell 0,q2.inside⟩,⟨q3.blk.cell 0,q3.inside⟩,?_⟩;obtain ⟨esc,hm',hl'⟩:=hmap;rw [HFO.out.1] at hm'
        have hm2:MapAt W' w.heap.size esc:=hm'.stays (ht.far _ hm'.inside fun e=>by
         have e2:ar=w.heap.size:=Option.some.inj e
         exact hm'.not_blk (by rw [← e2];exact hrx.out.row)).2
        rw [hm2.lookup hy64,(hl' y (sq.g y)).2 ⟨hyt,rfl⟩];rfl
       have HRX:=Hd hrx.out;have HRL:=Hd hrl;have HYY:=Hd (And.intro hyk (And.intro hyt (And.intro hyx hy)));have HLT:=Hd hlt;have HRB:Hid (BlkT wr.drew ar ((fillZ none (ks sq (kids t x)) j).map ptrTo) tPtr):=hrx.out.row.stays rfl;subst rA;have hjb:((j:Nat):Int)<=100000:=by have:=HKN.out;omega
       clear hyk hyt hyx hy64 hmap hbn hne hrl hrx hy;go_wp2_with (fail)
       refine wR (TurnP (OneB (some ar)) (OneB (some ar))) (fun L wx=>FillJ ar j (fillZ none (ks sq (kids t x)) j) (some (sq.g y)) (L 15) wx) [70,71,72,73,74,75,76,77,78,79,80,81,82,83,84] (fun _=>TurnP.refl _ _) (fun _ _ _ h k=>h.trans k) (fun i=>match i with
        |0|1=>rV (.pointer (some ⟨sq.g x,0,none⟩))
        |2=>rV (.pointer (some ⟨sq.g x,2,none⟩))
        |3=>rV (.slice (some ⟨ar,0,none⟩) (kids t x).length (kids t x).length)
        |4=>rV (.int .i64 (j:Nat))
        |5|6|7=>rV (.pointer (some ⟨w.heap.size+1,0,none⟩))
        |8=>rV (.map (some w.heap.size))
        |9|10|11=>rV (.pointer (some ⟨s.g y,0,none⟩))
        |12=>rV (.int .i64 y)
        |13=>rV (.pointer (some ⟨sq.g y,0,none⟩))
        |14=>rV (.pointer (some ⟨ar,j,none⟩))
        | _=>ra) (TurnP.below (bR.drew)) (⟨fun _=>HRB.out,nofun⟩) ⟨?_,?_,?_,?_,?_,?_,?_,?_,?_,?_,?_,?_,?_,?_,?_,?_,trivial⟩ ?_
       any_goals (first|refine zp fun L a w1 hh=>?_|fail)
       ·have h7:=hh.p 7 (sq.g x) 0;obtain ⟨⟨f1,f2⟩,⟨f3,f4⟩,⟨f5,f6⟩,f7⟩:=FC.out _ hh.rel;have hlt:=HLT.out;have hJ:=hh.j;clear hh;go_simp;exact ⟨_,rfl,TurnP.refl _ _,rfl,hJ.out⟩
       ·have h70:=rq (hh.d 0 70);obtain ⟨⟨f1,f2⟩,⟨f3,f4⟩,⟨f5,f6⟩,f7⟩:=FC.out _ hh.rel;have hlt:=HLT.out;have hJ:=hh.j;clear hh;go_simp;exact ⟨_,rfl,TurnP.refl _ _,rfl,hJ.out⟩
       ·have h71:=rq (hh.d 1 71);obtain ⟨⟨f1,f2⟩,⟨f3,f4⟩,⟨f5,f6⟩,f7⟩:=FC.out _ hh.rel;have hlt:=HLT.out;have hJ:=hh.j;clear hh;go_simp;exact ⟨_,rfl,TurnP.refl _ _,rfl,hJ.out⟩
       ·have h72:=rq (hh.d 2 72);obtain ⟨⟨f1,f2⟩,⟨f3,f4⟩,⟨f5,f6⟩,f7⟩:=FC.out _ hh.rel;have hlt:=HLT.out;have hJ:=hh.j;clear hh;go_simp;exact ⟨_,rfl,TurnP.refl _ _,rfl,hJ.out⟩
       ·have h8:=hh.o 8 (v:=.int .i64 (j:Nat)) rfl;obtain ⟨⟨f1,f2⟩,⟨f3,f4⟩,⟨f5,f6⟩,f7⟩:=FC.out _ hh.rel;have hlt:=HLT.out;have hJ:=hh.j;clear hh;go_simp;exact ⟨_,rfl,TurnP.refl _ _,rfl,hJ.out⟩
       ·have h3:=hh.o 3 (v:=.pointer (some ⟨w.heap.size+1,0,none⟩)) rfl;obtain ⟨⟨f1,f2⟩,⟨f3,f4⟩,⟨f5,f6⟩,f7⟩:=FC.out _ hh.rel;have hlt:=HLT.out;have hJ:=hh.j;clear hh;go_simp;exact ⟨_,rfl,TurnP.refl _ _,rfl,hJ.out⟩
       ·have h75:=rq (hh.d 5 75);obtain ⟨⟨f1,f2⟩,⟨f3,f4⟩,⟨f5,f6⟩,f7⟩:=FC.out _ hh.rel;have hlt:=HLT.out;have hJ:=hh.j;clear hh;go_simp;exact ⟨_,rfl,TurnP.refl _ _,rfl,hJ.out⟩
       ·have h76:=rq (hh.d 6 76);obtain ⟨⟨f1,f2⟩,⟨f3,f4⟩,⟨f5,f6⟩,f7⟩:=FC.out _ hh.rel;have hlt:=HLT.out;have hJ:=hh.j;clear hh;go_simp;exact ⟨_,rfl,TurnP.refl _ _,rfl,hJ.out⟩
       ·have h77:=rq (hh.d 7 77);obtain ⟨⟨f1,f2⟩,⟨f3,f4⟩,⟨f5,f6⟩,f7⟩:=FC.out _ hh.rel;have hlt:=HLT.out;have hJ:=hh.j;clear hh;go_simp;exact ⟨_,rfl,TurnP.refl _ _,rfl,hJ.out⟩
       ·have h9:=hh.p 9 (s.g y) 0;obtain ⟨⟨f1,f2⟩,⟨f3,f4⟩,⟨f5,f6⟩,f7⟩:=FC.out _ hh.rel;have hlt:=HLT.out;have hJ:=hh.j;clear hh;go_simp;exact ⟨_,rfl,TurnP.refl _ _,rfl,hJ.out⟩
       ·have h79:=rq (hh.d 9 79);obtain ⟨⟨f1,f2⟩,⟨f3,f4⟩,⟨f5,f6⟩,f7⟩:=FC.out _ hh.rel;have hlt:=HLT.out;have hJ:=hh.j;clear hh;go_simp;exact ⟨_,rfl,TurnP.refl _ _,rfl,hJ.out⟩
       ·have h80:=rq (hh.d 10 80);obtain ⟨⟨f1,f2⟩,⟨f3,f4⟩,⟨f5,f6⟩,f7⟩:=FC.out _ hh.rel;have hlt:=HLT.out;have hJ:=hh.j;clear hh;go_simp;exact ⟨_,rfl,TurnP.refl _ _,rfl,hJ.out⟩
       ·have h81:=rq (hh.d 11 81);obtain ⟨⟨f1,f2⟩,⟨f3,f4⟩,⟨f5,f6⟩,f7⟩:=FC.out _ hh.rel;have hlt:=HLT.out;have hJ:=hh.j;clear hh;go_simp;exact ⟨_,rfl,TurnP.refl _ _,rfl,hJ.out⟩
       ·have h78:=rq (hh.d 8 78);have h82:=rq (hh.d 12 82);obtain ⟨⟨f1,f2⟩,⟨f3,f4⟩,⟨f5,f6⟩,f7⟩:=FC.out _ hh.rel;have hlt:=HLT.out;have hJ:=hh.j;clear hh;go_simp;exact ⟨_,rfl,TurnP.refl _ _,rfl,hJ.out⟩
       ·have h73:=rq (hh.d 3 73);have h74:=rq (hh.d 4 74);obtain ⟨⟨f1,f2⟩,⟨f3,f4⟩,⟨f5,f6⟩,f7⟩:=FC.out _ hh.rel;have hlt:=HLT.out;have hJ:=hh.j;clear hh;go_simp;exact ⟨_,rfl,TurnP.refl _ _,rfl,hJ.out⟩
       ·have h83:=rq (hh.d 13 83);have h84:=rq (hh.d 14 84);have hbr:=hh.st.no hh.un;have fr:=hbr.blk.free j;have hsz:=hbr.inside;have hjr:j<((fillZ none (ks sq (kids t x)) j).map ptrTo).length:=by rw [List.length_map,HRL.out];exact HLT.out
        obtain ⟨o,ho⟩:∃ o,((fillZ none (ks sq (kids t x)) j).map ptrTo)[j]?=some o:=⟨_,List.getElem?_eq_getElem hjr⟩
        have cc:=(hbr.blk.cell j).trans ho;have HP:=Hd (hbr.set j (.pointer (some ⟨sq.g y,0,none⟩)));clear hh hbr hjr ho;go_simp;exact ⟨TurnP.set (S:=OneB (some ar)) (a:=⟨ar,j,none⟩) rfl _,⟨undef,trivial⟩,⟨fun e=>absurd e (by simp [regs.upd]),fun _=>by rw [List.map_set];exact HP.out⟩⟩
       intro L w6 val hL hJ hR hv;obtain ⟨hyk,hyt,hyx,hy⟩:=HYY.out;have hx:=HX.out;have h6r:=hJ.yes (hL 15 (by decide));have hf:=HRX.out.fill j (some (sq.g y))
       have h6:RawX w6 (w.heap.size+1) sq (hasP t) (fun i=>if i∈(kids t x).take j then some x else doneP t left i) (doneK t left) x ar ((fillZ none (ks sq (kids t x)) j).set j (some (sq.g y))):=hf.move fun k hk=>by
        by_cases e:k=ar
        ·rw [e];exact h6r.trans hf.row.symm
        ·rw [heap_setCell_other _ _ _ _ e];exact (hR.far k (by simpa [World.setCell] using hk) fun e2=>e (Option.some.inj e2).symm).2
       have hfs:(fillZ none (ks sq (kids t x)) j).set j (some (sq.g y))=fillZ none (ks sq (kids t x)) (j+1):=by
        rw [← fillZ_set none (ks sq (kids t x)) (k:=j) (by rw [ks_len];exact HLT.out),ks_get,hy]
       rw [hfs] at h6;have h7:=h6.parent hyt hyx hx
       have hP:setf (fun i=>if i∈(kids t x).take j then some x else doneP t left i) y (some x)=fun i=>if i∈(kids t x).take (j+1) then some x else doneP t left i:=by
        funext i
        rw [List.take_succ_eq_append_getElem HLT.out,hy];by_cases e:i=y
        ·rw [e,setf_same,if_pos (by simp)]
        ·rw [setf_other _ e];simp [e]
       rw [hP] at h7;have hsz:=HAR.out;have hsm:=HWM.out
       have hg6:wr.grownBy w6 (some ar):=⟨hR.os,hR.tape,hR.output,hR.size,fun k hk hn=>(hR.far k hk fun e=>hn e.symm).2⟩
       have hr6:=hrg.out.kept hg6 (fun e=>by have:=Option.some.inj e;omega) (fun e=>by have:=Option.some.inj e;omega);have hgy:=HFO.out.2 (sq.g y) (.inr (.inr ⟨y,hyt,.inl rfl⟩));have HRG7:Hid ((w6.setCell ⟨sq.g y,1,none⟩ (.pointer (some ⟨sq.g x,0,none⟩))).ranges Tryz.prog 3 ptrElem s.m r2 es.length (mapOf es) (fun z=>left z && !z.sameKey (.int .i64 x)) cnt1):=hr6.kept (setCell_grown w6 ⟨sq.g y,1,none⟩ _) (fun e=>by have e2:s.m=sq.g y:=Option.some.inj e;have:=hgy.1;omega) (fun e=>hgy.2 (Option.some.inj e).symm)
       have HB7:Hid (Below w.heap.size w (w6.setCell ⟨sq.g y,1,none⟩ (.pointer (some ⟨sq.g x,0,none⟩)))):=(hbw.out.trans (hR.to_below hbw.out.size fun k e=>by have e2:ar=k:=Option.some.inj e;omega)).setCell (p:=⟨sq.g y,1,none⟩) hgy.1 _;have HX7:=Hd h7;have hnl:(fillZ none (ks sq (kids t x)) (j+1)).length=(kids t x).length:=by rw [fillZ_len _ _ (by rw [ks_len];exact HLT.out),ks_len]
       have hh:=h6.hole;rw [hnl] at hh;have q2:=hh.blk.cell 2;have qz:=hh.inside
       have hrj:((fillZ none (ks sq (kids t x)) (j+1)).map ptrTo)[j]?=some (.pointer (some ⟨sq.g y,0,none⟩)):=by
        rw [← hfs,List.getElem?_map,List.getElem?_set_self (by rw [fillZ_len _ _ (by rw [ks_len];exact hj),ks_len];exact HLT.out)];rfl
       have qr:=(h6.row.blk.cell j).trans hrj;have qy:=(h6.node y hyt hyx).blk;have y1:=qy.blk.cell 1;have yf:=qy.blk.free 1;have yz:=qy.inside;have qz2:=h6.row.inside;simp only [List.getElem?_cons_succ,List.getElem?_cons_zero] at q2 y1;simp only [regs.putAll,List.map_cons,List.map_nil];simp only [Act.put,List.setIfInBounds_toArray,List.set_cons_zero,List.set_cons_succ];clear hv hL hJ hR hyk hyt hyx hy hx h6r hf h6 hfs h7 hP hsz hsm hg6 hr6 hgy hnl hh hrj qy FC HRX HRB hrg hbw k1
       skip
       skip
       skip
       skip
       skip
       skip
       skip
       skip
       skip
       skip
       skip
       skip
       skip
       skip
       skip
       have hlt:=HLT.out;go_wp2_with (fail)
       go_roundw
       case rel=>exact ⟨j+1,by omega,by go_num,HRG7,HB7,HX7⟩
       case measure=>simp [intOf];omega
      ·obtain rfl:j=(kids t x).length:=by omega
       have t1:decide ((kids t x).length<(kids t x).length)=false:=by simp
       have hfz:fillZ none (ks sq (kids t x)) (kids t x).length=ks sq (kids t x):=by
        have:=fillZ_all (none:Option Nat) (ks sq (kids t x));rw [ks_len] at this;exact this
       have hrx2:=hrx.out;rw [hfz] at hrx2;have hcl:=hrx2.close HX.out (k:=kids t x) rfl (by rw [ks_len];have:=HKN.out;omega)
       have HCL:Hid (Raw wr (w.heap.size+1) ⟨sq.m,sq.g,setf sq.v x (.slice (some ⟨ar,0,none⟩) (ks sq (kids t x)).length (ks sq (kids t x)).length)⟩ (hasP t) (doneP t (fun z=>left z && !z.sameKey (.int .i64 x))) (doneK t (fun z=>left z && !z.sameKey (.int .i64 x)))):=by
        refine hcl.like (fun _=>Iff.rfl) (fun i hi=>?_) fun i hi=>?_
        ·rw [List.take_length];unfold doneP;by_cases e:i∈kids t x
         ·have h1:=HT.out.ok.kid e;rw [if_pos e,if_pos ⟨HT.out.ok.ne0 h1.1,(left_step left x _).2 (.inl h1.2)⟩,h1.2]
         ·rw [if_neg e];by_cases h0:i=0
          ·rw [if_neg (fun h=>h.1 h0),if_neg (fun h=>h.1 h0)]
          ·have hpx:par t i≠x:=fun h=>e (h ▸ kid_of ((has_iff.1 hi).resolve_left h0));by_cases hl:left (.int .i64 (par t i))=false
           ·rw [if_pos ⟨h0,(left_step left x _).2 (.inr hl)⟩,if_pos ⟨h0,hl⟩]
           ·rw [if_neg (fun h=>((left_step left x _).1 h.2).elim hpx hl),if_neg (fun h=>hl h.2)]
        ·unfold doneK;by_cases e:i=x
         ·subst e;rw [setf_same,if_pos ((left_step left i i).2 (.inl rfl))]
         ·rw [setf_other _ e];by_cases hl:left (.int .i64 i)=false
          ·rw [if_pos ((left_step left x i).2 (.inr hl)),if_pos hl]
          ·rw [if_neg (fun h=>((left_step left x i).1 h).elim e hl),if_neg hl]
       have HFZ:Hid (sq.m=w.heap.size∧∀ k,FootT (w.heap.size+1) ⟨sq.m,sq.g,setf sq.v x (.slice (some ⟨ar,0,none⟩) (ks sq (kids t x)).length (ks sq (kids t x)).length)⟩ t k->w.heap.size<=k∧k≠r2):=by
        refine ⟨HFO.out.1,fun k hk=>?_⟩;rcases foot_upd hk with h | h
        ·exact HFO.out.2 k h
        ·have e2:ar=k:=Option.some.inj h;have:=HAR.out;omega
       have hme2:wr.rangeLeft s.m r2=cnt1:=hrg.out.left_eq;have HM2:=Hd hme2;clear hfz hrx2 hcl hrx hme2;go_wp2_with (fail)
       go_roundw
       case rel=>exact ⟨_,_,_,hrg,hbw,HCL,HFZ⟩
       case measure=>rw [HM2.out];exact HME.out
  ·intro x c kl yd yp w3 cnt1 hkey hlk hv hat hrg1 hlt hg1 hs1 hen;obtain ⟨rfl,hx64,g,rfl,hlb⟩:=came hkey hv hat;obtain ⟨hx,rfl⟩:=(HM.out.2 x g).1 hlb;simp only [ptrTo] at hen ⊢;have hsame:∀ k,k<wr.heap.size->k≠r1->w3.heap[k]?=wr.heap[k]?:=fun k h1 h2=>hg1.block k h1 (fun e1=>h2 (Option.some.inj e1));have hr1w:=HS1.out;have hb3:Below w.heap.size w w3:=hbw.out.trans ⟨hg1.os,hg1.tape,hg1.output,hg1.size,fun k hk=>hsame k (by have:=hbw.out.size;omega) (by omega)⟩
   have hraw3:Raw w3 (w.heap.size+1) sc (doneH t left) (fun _=>none) (fun _=>[]):=hraw.out.stays fun k hk=>hsame k (hraw.out.inside k hk) (hfo.out.2 k hk).2;have hnx:¬ doneH t left x:=fun h=>by have h2:=h.2;rw [hlk] at h2;cases h2
   obtain ⟨w4,hrun,hraw4,hgr4,hT4⟩:=hraw3.grow (i:=x) hnx hx64 (fun _ _ e=>(nomatch e)) (fun _ _ e=>(nomatch e)) (fun es' hm' hl'=>by
    have h1:(es'.map (·.1)).Nodup:=by
     rw [List.Nodup,List.pairwise_map]
     exact hm'.rises.imp fun h e=>by
      simp only [decide_eq_true_eq] at h;omega
    have h2:=len_of_sub h1 (m:=0::ids t) fun y hy=>by
     obtain ⟨⟨a,g⟩,hm2,rfl⟩:=List.mem_map.1 hy;exact List.mem_cons.2 (has_iff.1 ((hl' a g).1 (omap.Rises.look_of_mem ord hm'.rises hm2)).1.1)
    unfold ids at h2;simp at h2;have:=HN.out
    omega)
   rw [setf_self,setf_self] at hraw4;have hm4:s.m<w3.heap.size:=by have:=HWM.out;have:=hb3.size;omega
   have hrl:=hrg1.lt
   have HRG4:Hid (w4.ranges Tryz.prog 3 ptrElem s.m r1 es.length (mapOf es) (fun z=>left z && !z.sameKey (.int .i64 x)) cnt1):=((hrg1.alloc (node0 x)).kept hgr4 (fun e=>by have:=Option.some.inj e;have:=HWM.out;have:=hfo.out.1;omega) (fun e=>by have:=Option.some.inj e;have:=hfo.out.1;omega))
   have hme:w4.rangeLeft s.m r1<wr.rangeLeft s.m r1:=by rw [HRG4.out.left_eq,hrg.out.left_eq];exact hlt
   have HME:=Hd hme;have hb4:Below w.heap.size w w4:=hb3.trans (hT4.to_below hb3.size fun k hk=>(hfo.out.2 k hk).1);have HB4:=Hd hb4;have HRA4:Hid (Raw w4 (w.heap.size+1) ⟨sc.m,setf sc.g x w3.heap.size,setf sc.v x (.slice none 0 0)⟩ (doneH t (fun z=>left z && !z.sameKey (.int .i64 x))) (fun _=>none) (fun _=>[])):=hraw4.like (fun i=>done_step hx i) (fun _ _=>rfl) (fun _ _=>rfl)
   have HFO4:Hid (sc.m=w.heap.size∧∀ k,Foot (w.heap.size+1) ⟨sc.m,setf sc.g x w3.heap.size,setf sc.v x (.slice none 0 0)⟩ (doneH t (fun z=>left z && !z.sameKey (.int .i64 x))) k->w.heap.size<=k∧k≠r1):=by
    refine ⟨hfo.out.1,fun k hk=>?_⟩;rcases hk with e | e | ⟨i,hi,e⟩
    ·exact hfo.out.2 k (.inl e)
    ·exact hfo.out.2 k (.inr (.inl e))
    ·by_cases ei:i=x
     ·simp only [ei,setf_same] at e;rcases e with e | e
      ·have:=hb3.size;omega
      ·cases e
     ·simp only [setf_other _ ei] at e;exact hfo.out.2 k (.inr (.inr ⟨i,((done_step hx i).1 hi).resolve_left ei,e⟩))
   rw [hfo.out.1] at hrun;have cM:=hraw3.top;rw [hfo.out.1] at cM;obtain ⟨cm1,cm2⟩:=cM;have HEN:=Hd hen;clear hkey hlk hv hat hrg1 hlt hg1 hs1 hlb hx hx64 hsame hb3 hraw3 hnx hraw4 hgr4 hT4 hm4 hrl hme hb4 hr1w hrg hbw hraw hfo;go_wp2_with (fail)
   go_roundw
   case rel=>exact ⟨_,_,_,HRG4,HB4,HRA4,HFO4⟩
   case measure=>exact HME.out
end
end Go.Proofs.YthoildbfghfhpaaGreat
namespace Go.Proofs.YthoildbfghfhpaaGreat
open Go.RowKit trm
structure O4 where
 k:Int
 i:Int
 p:Int
 n:Int
def O4.cs (o:O4):List Value:=(Vk o.k o.i o.p o.n)
structure O4.ok (o:O4):Prop where
 k:I64 o.k
 i:I64 o.i
 p:I64 o.p
 n:I64 o.n
theorem TurnP.wide {S S' U:Bset} {w w':World} (h:TurnP S S' w w') (hs:∀ k,S k->U k):TurnP U U w w':=
 ⟨h.os,h.tape,h.output,h.size,fun k hk hn=>⟨hn,(h.far k hk fun e=>hn (hs k e)).2⟩⟩
theorem RTyp.apart {w:World} {A:Option Addr} (hy:RTyp w A) {b:Nat} {s:Sh} {H:Int->Prop} {P:Int->Option Int} {K:Int->List Int} (h:Raw w b s H P K) {a:Addr} (e:A=some a):¬ Foot b s H a.block:=by
 obtain ⟨cs,fz,hc⟩:=hy a e;rintro (hk | hk | ⟨i,hi,hk | hk⟩)
 ·have h1:w.heap[b]?=_:=h.blk;rw [hk] at hc;have:=hc.symm.trans h1;simp only [Option.some.injEq,Obj.cells.injEq] at this;exact absurd this.2.1 (by decide)
 ·obtain ⟨es,hm,_⟩:=h.map;obtain ⟨es',clock,h1,_⟩:=hm.own;rw [hk] at hc;have:=hc.symm.trans h1;cases this
 ·have h1:w.heap[s.g i]?=_:=(h.node i hi).blk;rw [hk] at hc;have:=hc.symm.trans h1;simp only [Option.some.injEq,Obj.cells.injEq] at this;exact absurd this.2.1 (by decide)
 ·obtain ⟨cur,fr,h1⟩:=(h.node i hi).own.typed hk;have:=hc.symm.trans h1;simp only [Option.some.injEq,Obj.cells.injEq] at this;exact absurd this.2.1 (by decide)
theorem RTyp.not_blk {w:World} {A:Option Addr} (hy:RTyp w A) {a:Addr} (e:A=some a) {g:Nat} {cs:List Value} {T:TypeId} (hb:BlkT w g cs T) (hT:T≠132):a.block≠g:=fun e2=>by
 obtain ⟨cs',fz,hc⟩:=hy a e;have h1:w.heap[g]?=_:=hb;rw [e2] at hc;have:=h1.symm.trans hc;simp only [Option.some.injEq,Obj.cells.injEq] at this;exact hT this.2.1
theorem DTree.stays {w w':World} {v:Value} {t:T} (h:DTree w v t) (hb:∀ A c a,v=.slice A t.length c->RTyp w A->A=some a->w'.heap[a.block]?=w.heap[a.block]?):DTree w' v t:=by
 obtain ⟨A,c,e,hr,hy⟩:=h;refine ⟨A,c,e,fun hn=>?_,fun a ea=>?_⟩
 ·obtain ⟨g,off,ea,hc⟩:=hr hn;refine ⟨g,off,ea,fun j hj i v hi=>?_⟩;have h1:=hb A c _ e hy ea;have h2:=hc j hj i v hi;simp only [World.cell?] at h2 ⊢;rw [h1];exact h2
 ·obtain ⟨cs,fz,h1⟩:=hy a ea;exact ⟨cs,fz,(hb A c a e hy ea).trans h1⟩
section
variable {w w':World} {g b:Nat} {s:Sh} {v:Value} {t:T}
structure DoF (W:World) (g b ob:Nat) (v:Value) (k i p n:Int):Prop where
 p0:W.cell? ⟨g,0,none⟩=some (.pointer (some ⟨b,0,none⟩))
 p1:W.cell? ⟨g,1,none⟩=some v
 pi:g<W.heap.size
 o0:W.cell? ⟨ob,0,none⟩=some (.int .i64 k)
 o1:W.cell? ⟨ob,1,none⟩=some (.int .i64 i)
 o2:W.cell? ⟨ob,2,none⟩=some (.int .i64 p)
 o3:W.cell? ⟨ob,3,none⟩=some (.int .i64 n)
 oi:ob<W.heap.size
theorem IOwn.turn {w w':World} {S S':Bset} {B:Nat} (hS:∀ k,S k->k<B) {x:Value} {l:List Int} (h:IOwn w B x l) (ht:TurnP S S' w w'):IOwn w' B x l:=
 SOwn.stays h fun g hg=>(ht.far g (SOwn.block h hg).2 (fun e=>by have:=hS g e;have:=(SOwn.block h hg).1;omega)).2
structure DoJ (b:Nat) (s:Sh) (t t':T) (w0:World) (d:Bool) (w:World):Prop where
 no:d=false->TreeAt w b s t
 yes:d=true->∃ s',TreeAt w b s' t'∧TurnP (FootT b s t) (FootT b s' t') w0 w
end
end Go.Proofs.YthoildbfghfhpaaGreat
