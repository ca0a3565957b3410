import Derived.Test.YthmegninhpihkaaGreatVScM
set_option maxHeartbeats 16000000
set_option maxRecDepth 100000
open Go.Proofs.Tryz
namespace Go.Proofs.YthmegninhpihkaaGreat
section
open Go.RowKit fG gm aF Go.Maps
structure gY(w:World)(g b m:Nat)(s:Sh)(Z:ZZ)(t:T)(H:Int->Prop)(nd:Int->Nd)(ws:Int->Mp):Prop where
 blk:au w g [.iface 88 (.pointer (some ⟨b,0,none⟩)),.pointer (some ⟨b,0,none⟩),.int .i64 Z.1,.int .i64 Z.2.1,.int .i64 Z.2.2,.map (some m)] rE
 tree:aX w b s t
 map:∃es,VM w m es∧(∀i,omap.look es i≠none->H i)∧∀i,H i->∃v,omap.look es i=some v∧wH Z.3 (af b m s t) w v (nd i) (ws i)
 jh:¬af b m s t g
 qQ:¬gq b s t m
 old:∀k,Z.3 k->k<w.heap.size∧¬af b m s t k∧k≠g
section
variable {w w':World}{g b m:Nat}{s s':Sh}{Z:ZZ}{x:aJ}{t t':T}{H H':Int->Prop}{nd:Int->Nd}{ws:Int->Mp}
theorem ak.mid(h:ak w g b m s Z x):gY w g b m s Z x.t (fun i=>has x.t i=true) x.nd x.ws:=⟨h.blk,h.tree,h.map,h.jh,h.qQ,h.old⟩
theorem gY.oV(h:gY w g b m s Z t H nd ws)(hH:∀i,H i↔has t i=true):ak w g b m s Z ⟨t,nd,ws⟩:=by
 obtain⟨es,hm,h1,h2⟩:=h.map;exact⟨h.blk,h.tree,⟨es,hm,fun i hi=>(hH i).1 (h1 i hi),fun i hi=>h2 i ((hH i).2 hi)⟩,h.jh,h.qQ,h.old⟩
theorem gY.alike(h:gY w g b m s Z t H nd ws)(hH:∀i,H' i↔H i):gY w g b m s Z t H' nd ws:=by
 obtain⟨es,hm,h1,h2⟩:=h.map;exact⟨h.blk,h.tree,⟨es,hm,fun i hi=>(hH i).2 (h1 i hi),fun i hi=>h2 i ((hH i).1 hi)⟩,h.jh,h.qQ,h.old⟩
theorem gY.inside(h:gY w g b m s Z t H nd ws):∀k,af b m s t k->k<w.heap.size:=by
 rintro k (rfl|hk)
 ·obtain⟨es,hm,_⟩:=h.map;exact hm.inside
 ·exact h.tree.raw.inside k hk
theorem gY.below(h:gY w g b m s Z t H nd ws)(hb:bz w w'):gY w' g b m s Z t H nd ws:=by
 obtain⟨es,hm,h1,h2⟩:=h.map;refine⟨h.blk.stays (hb.block _ h.blk.inside),h.tree.below hb,⟨es,hm.below hb,h1,fun i hi=>?_⟩,h.jh,h.qQ,fun k hk=>⟨Nat.lt_of_lt_of_le (h.old k hk).1 hb.size,(h.old k hk).2⟩⟩;obtain⟨v,e,hv⟩:=h2 i hi;exact⟨v,e,hv.turn (ae.below hb)⟩
theorem gY.step(h:gY w g b m s Z t H nd ws)(h1:aX w' b s' t')(ht:ae (gq b s t) (gq b s' t') w w'):gY w' g b m s' Z t' H nd ws∧ae (af b m s t) (af b m s' t') w w':=by
 obtain⟨es,hm,e1,e2⟩:=h.map;have hmf:=ht.far m hm.inside h.qQ
 have hT:ae (af b m s t) (af b m s' t') w w':=⟨ht.os,ht.tape,ht.output,ht.size,fun k hk hn=>by
  have h3:=ht.far k hk fun e=>hn (.inr e)
  exact⟨fun e=>e.elim (fun e=>hn (.inl e)) h3.1,h3.2⟩⟩
 have hg:=hT.far g h.blk.inside h.jh;refine⟨⟨h.blk.stays hg.2,h1,⟨es,hm.stays hmf.2,e1,fun i hi=>?_⟩,hg.1,hmf.1,fun k hk=>⟨Nat.lt_of_lt_of_le (h.old k hk).1 ht.size,(hT.far k (h.old k hk).1 (h.old k hk).2.1).1,(h.old k hk).2.2⟩⟩,hT⟩;obtain⟨v,e,hv⟩:=e2 i hi;exact⟨v,e,hv.turn hT⟩
theorem gY.store(h:gY w g b m s Z t H nd ws)(hn:t.length<=100000)(hH:∀i,H i->has t i=true){i:Int}(hi:I64 i){v:Value}{n:Nd}{u:Mp}(hv:wH Z.3 (af b m s t) w v n u) :
  ∃w',(Instr.mapUpdate eY (.map (some m)) (.int .i64 i) v).run prog w=.ok () w'∧gY w' g b m s Z t (fun j=>j=i∨H j) (upd nd i n) (upd ws i u)∧ae (af b m s t) (af b m s t) w w':=by
 obtain⟨es,hm,h1,h2⟩:=h.map;have hle:=Hf hm.rises fun j hj=>hH j (h1 j hj);obtain⟨w',hrun,hm',hg⟩:=hm.store fD hi v (by have:=iF i v es;omega);have ht:ae (af b m s t) (af b m s t) w w':=ae.rG hg (.inl rfl);refine⟨w',hrun,⟨h.blk.stays (ht.far g h.blk.inside h.jh).2,h.tree.stays fun k hk=>hg.block k (h.tree.raw.inside k hk) fun e=>?_,⟨_,hm',fun j hj=>?_,fun j hj=>?_⟩,h.jh,h.qQ,fun k hk=>⟨Nat.lt_of_lt_of_le (h.old k hk).1 ht.size,(h.old k hk).2⟩⟩,ht⟩
 ·exact h.qQ (Option.some.inj e ▸ hk)
 ·rw[omap.dw]at hj;by_cases e:j=i
  ·exact .inl e
  ·rw[if_neg e]at hj;exact .inr (h1 j hj)
 ·rw[omap.dw];by_cases e:j=i
  ·subst e;rw[if_pos rfl];exact⟨v,rfl,by simp only[upd_same];exact hv.turn ht⟩
  ·rw[if_neg e];obtain⟨v',e',hv'⟩:=h2 j (hj.resolve_left e);exact⟨v',e',by simp only[upd_ne _ e];exact hv'.turn ht⟩
theorem gY.drop(h:gY w g b m s Z t H nd ws){i:Int}(hi:I64 i)(ty:TypeId) :
  ∃w',(Builtin.delete_ #[eY,3] ty #[.map (some m),.int .i64 i]).run prog w=.ok (.tuple #[]) w'∧gY w' g b m s Z t (fun j=>j≠i∧H j) nd ws∧ae (af b m s t) (af b m s t) w w':=by
 obtain⟨es,hm,h1,h2⟩:=h.map;obtain⟨w',hrun,hm',hg⟩:=hm.drop fD hi ty;have ht:ae (af b m s t) (af b m s t) w w':=ae.rG hg (.inl rfl);refine⟨w',hrun,⟨h.blk.stays (ht.far g h.blk.inside h.jh).2,h.tree.stays fun k hk=>hg.block k (h.tree.raw.inside k hk) fun e=>?_,⟨_,hm',fun j hj=>?_,fun j hj=>?_⟩,h.jh,h.qQ,fun k hk=>⟨Nat.lt_of_lt_of_le (h.old k hk).1 ht.size,(h.old k hk).2⟩⟩,ht⟩
 ·exact h.qQ (Option.some.inj e ▸ hk)
 ·rw[omap.tX]at hj;by_cases e:j=i
  ·rw[if_pos e]at hj;exact absurd rfl hj
  ·rw[if_neg e]at hj;exact⟨e,h1 j hj⟩
 ·rw[omap.tX,if_neg hj.1];obtain⟨v',e',hv'⟩:=h2 j hj.2;exact⟨v',e',hv'.turn ht⟩
end
structure Qm(w0:World)(g b m:Nat)(s:Sh)(Z:ZZ)(t:T)(H:Int->Prop)(nd:Int->Nd)(ws:Int->Mp)(t':T)(d:Bool)(w:World):Prop where
 no:d=false->gY w g b m s Z t H nd ws
 yes:d=true->∃s',gY w g b m s' Z t' H nd ws∧ae (af b m s t) (af b m s' t') w0 w
structure Qn(g b m:Nat)(s:Sh)(Z:ZZ)(t:T)(H:Int->Prop)(nd:Int->Nd)(ws:Int->Mp)(H':Int->Prop)(ET:Int->Nd)(ws':Int->Mp)(d:Bool)(w:World):Prop where
 no:d=false->gY w g b m s Z t H nd ws
 yes:d=true->gY w g b m s Z t H' ET ws'
theorem JG{t:T}(ok:Ok t){i p:Int}{n:Nat}(hi:¬has t i=true)(hp:has t p=true)(hl:n<=(kids t p).length):kids (put (i,p) n t) i=[]:=by
 rw[nJ ok.nd hl,if_neg (show ¬i=p from fun e=>hi (by rw[e];exact hp))];exact qF ok hi
theorem qN{t t':T}{i p n:Int}(ok:Ok t)(h:gJ t i p n=(t',0)):Ok t'∧i∈ids t'∧¬has t i=true∧(∀j,has t' j=true↔j=i∨has t j=true)∧aF.walk t' i=[i]∧∀q,kids (gone [i] t') q=kids t q:=by
 have hok:=(qM ok i p n).1;unfold gJ at h hok;by_cases h1:i<1∨65535<i
 ·rw[if_pos h1]at h;cases h
 rw[if_neg h1]at h hok;by_cases h2:has t i=true
 ·rw[if_pos h2]at h;cases h
 rw[if_neg h2]at h hok;by_cases h3:has t p=false
 ·rw[if_pos h3]at h;cases h
 rw[if_neg h3]at h hok;by_cases h4:n<0∨((kids t p).length:Int)<n
 ·rw[if_pos h4]at h;cases h
 rw[if_neg h4]at h hok;obtain rfl:=(Prod.mk.inj h).1;have h3':has t p=true:=by simpa using h3
 have hl:n.toNat<=(kids t p).length:=by omega
 have hk:=fun q=>nJ (r:=(i,p)) ok.nd hl q;have hi:i∈ids (put (i,p) n.toNat t):=kU.2 (.inl rfl);have hnk:∀q,i∉kids t q:=fun q hq=>h2 (ah.2 (.inr (ok.kid hq).1));refine⟨hok,hi,h2,fun j=>?_,?_,fun q=>?_⟩
 ·rw[ah,kU,ah];constructor
  ·rintro(h|h|h)
   ·exact .inr (.inl h)
   ·exact .inl h
   ·exact .inr (.inr h)
  ·rintro(h|h|h)
   ·exact .inr (.inl h)
   ·exact .inl h
   ·exact .inr (.inr h)
 ·rw[walk_eq hok,JG ok h2 h3' hl];rfl
 ·rw[nK,hk];have e:∀L:List Int,(L.filter fun k=>decide (k∉[i]))=L.filter fun k=>decide (k≠i):=fun L=>List.filter_congr fun k _=>by simp
  rw[e];by_cases hq:q=p
  ·rw[if_pos hq,zM _ _ _ (hnk q)]
  ·rw[if_neg hq];exact List.filter_eq_self.2 fun k hk=>by rw[decide_eq_true_eq];intro e;exact hnk q (e ▸ hk)
section
variable {w:World}{g b m:Nat}{s:Sh}{Z:ZZ}{x:aJ}
theorem Ht(h:ak w g b m s Z x)(hn:x.t.length<=1000){kb ki:Nat}{ci:Int}(hb:az w kb [.pointer (some ⟨g,0,none⟩)])(hc:az w ki [.int .i64 ci])(h1:¬af b m s x.t kb)(h2:¬af b m s x.t ki)(hi:I64 ci)(hx:ci∈ids x.t)(hwk:aF.walk x.t ci=[ci]) :
  Calls prog 118 #[.pointer (some ⟨kb,0,none⟩),.pointer (some ⟨ki,0,none⟩)] w fun e w'=>(∃r,e=.returned r)∧∃s',gY w' g b m s' Z (gone [ci] x.t) (fun j=>j≠ci∧has x.t j=true) x.nd x.ws∧ae (af b m s x.t) (af b m s' (gone [ci] x.t)) w w':=by
 have EF:Hid (jF x.t ci=(gone [ci] x.t,[ci],0)):=by
  show _=_;unfold jF;rw[if_neg (h.tree.ok.uK hx),if_neg (by rw[ah.2 (.inr hx)];simp),hwk]
 have HS:=Hd h;have HN:=Hd hn;have HB:=Hd hb;have HC:=Hd hc;have sJ:=Hd h1;have EY:=Hd h2;have wQ:=Hd h.blk;have wK:=Hd h.jh;have HI:=Hd hi;clear h hn hb hc h1 h2 hi hx hwk;go_enter func118,ntmps118
 go_upto_region 0 with(fail)
 refine wR (ae (af b m s x.t) (af b m s x.t)) (fun L wx=>Qm w g b m s Z x.t (fun i=>has x.t i=true) x.nd x.ws ((gone [ci] x.t)) (L 5) wx) [2,3,4,5,6,7] (fun _=>ae.refl _ _) (fun _ _ _ h k=>h.trans k) (fun i=>match i with
  |0|1=>rp g 0
  |2=>rp g 1
  |3=>rp b 0
  |4=>rV (.int .i64 ci)
  |_=>ra) (ae.below bR.drew) (⟨fun _=>HS.o.mid.below bR.drew,nofun⟩) ⟨?_,?_,?_,?_,?_,?_,trivial⟩ ?_
 any_goals (first|refine zp fun L a w1 hh=>?_|fail)
 have h0:=hh.p 0 kb 0;have ⟨c0,i0⟩:=(HB.o.off sJ.o hh.rel).ci 0 rfl;rotate_left;have h2:=rq (hh.d 0 2);rotate_left;have h3:=rq (hh.d 1 3);have i0:=((au.off wQ.o wK.o hh.rel).blk).inside;rotate_left;have h4:=rq (hh.d 2 4);have ⟨c0,i0⟩:=((au.off wQ.o wK.o hh.rel).blk).ci 1 rfl;rotate_left;have h1:=hh.p 1 ki 0;have ⟨c0,i0⟩:=(HC.o.off EY.o hh.rel).ci 0 rfl;rotate_left
 ·have h5:=rq (hh.d 3 5);have h6:=rq (hh.d 4 6);have hS:=Hd (hh.st.no hh.un);have hR:=Hd (show ae (af b m s x.t) (af b m s x.t) w w1 from hh.rel);have hB:=Hd (show ∀wq,regs.bl w1 wq->True from fun _ _=>trivial);clear hh hB;go_simp;refine(DF hS.o.tree HN.o ci HI.o).mono ?_;rintro e w9 ⟨s9,v9,rfl,lu,-,QE⟩;rw[EF.o]at lu QE;have hm:=hS.o.step lu QE;exact⟨_,rfl,hm.2.wide (fun _ k=>k),trivial,⟨nofun,fun _=>⟨_,hm.1,hR.o.trans hm.2⟩⟩⟩
 any_goals (have hJ:=hh.j;clear hh;go_simp;exact⟨_,rfl,ae.refl _ _,rfl,hJ.o⟩)
 intro L w4 val hL hJ hR hv;have HR4:=Hd hR;obtain⟨s5,xn,GK⟩:=hJ.yes (hL 5 (by decide));have gZ:=Hd xn;have HT4:=Hd GK;clear hv hL hJ hR xn GK;simp only[regs.aG,List.map_cons,List.map_nil];simp only[Act.put,List.setIfInBounds_toArray,List.set_cons_zero,List.set_cons_succ]
 skip
 have HB2:Hid (az w4 kb [.pointer (some ⟨g,0,none⟩)]):=HB.o.off sJ.o HT4.o;have HC2:Hid (az w4 ki [.int .i64 ci]):=HC.o.off EY.o HT4.o;have U3:Hid (¬af b m s5 (gone [ci] x.t) kb):=(HT4.o.far kb HB.o.inside sJ.o).1;have a4v:Hid (¬af b m s5 (gone [ci] x.t) ki):=(HT4.o.far ki HC.o.inside EY.o).1;have a3m:=Hd gZ.o.blk;have a2J:=Hd gZ.o.jh
 go_upto_region 1 with(fail)
 refine wR (ae (af b m s5 (gone [ci] x.t)) (af b m s5 (gone [ci] x.t))) (fun L wx=>Qn g b m s5 Z (gone [ci] x.t) (fun i=>has x.t i=true) x.nd x.ws (fun j=>j≠ci∧has x.t j=true) x.nd x.ws (L 5) wx) [8,9,10,11,12] (fun _=>ae.refl _ _) (fun _ _ _ h k=>h.trans k) (fun i=>match i with
  |0|1=>rp g 0
  |2=>rp g 5
  |3=>rV (.map (some m))
  |4=>rV (.int .i64 ci)
  |_=>ra) (ae.below bR.drew) (⟨fun _=>gZ.o.below bR.drew,nofun⟩) ⟨?_,?_,?_,?_,?_,?_,trivial⟩ ?_
 any_goals (first|refine zp fun L a w1 hh=>?_|fail)
 have h0:=hh.p 0 kb 0;have ⟨c0,i0⟩:=(HB2.o.off U3.o hh.rel).ci 0 rfl;rotate_left;have h8:=rq (hh.d 0 8);rotate_left;have h9:=rq (hh.d 1 9);have i0:=((au.off a3m.o a2J.o hh.rel).blk).inside;rotate_left;have h10:=rq (hh.d 2 10);have ⟨c0,i0⟩:=((au.off a3m.o a2J.o hh.rel).blk).ci 5 rfl;rotate_left;have h1:=hh.p 1 ki 0;have ⟨c0,i0⟩:=(HC2.o.off a4v.o hh.rel).ci 0 rfl;rotate_left
 ·have h11:=rq (hh.d 3 11);have h12:=rq (hh.d 4 12);obtain⟨w9,hrun,hs9,lu⟩:=(hh.st.no hh.un).drop HI.o 0;have Pn:=Hd hs9;have Pm:=Hd lu;clear hh hs9 lu;go_simp;exact⟨Pm.o,⟨undef,trivial⟩,nofun,fun _=>Pn.o⟩
 any_goals (have hJ:=hh.j;clear hh;go_simp;exact⟨_,rfl,ae.refl _ _,rfl,hJ.o⟩)
 intro L w6 val hL hJ hR hv;have Qs:=Hd hR;have yB:=Hd (hJ.yes (hL 5 (by decide)));clear hv hL hJ hR;simp only[regs.aG,List.map_cons,List.map_nil];simp only[Act.put,List.setIfInBounds_toArray,List.set_cons_zero,List.set_cons_succ]
 skip
 go_wp2_with (fail)
 go_end0
 exact⟨⟨_,rfl⟩,s5,yB.o,HT4.o.trans Qs.o⟩
theorem MS(v:Value)(w:World):(invoke (.fn (.method "Len") #[]) #[.iface 88 v]).run prog w=.ok (.enter 188 #[v]) w:=by kernel_rfl
theorem H9(w:World):(Instr.build qy #[(0,.agg (Nd.plain.cs none 0).toArray)]).run prog w=.ok (.agg (dZ Nd.plain none 0 Mp.o).toArray) w:=by kernel_rfl
theorem zU:Enters prog 118:=enters_of func118 ag rfl
def dV(most:Int)(x:aJ)(i p n:Int):aJ×Int:=
 if (gJ x.t i p n).2≠0 then (x,(gJ x.t i p n).2) else if most<((x.t.length+2:Nat):Int) then (x,36) else (⟨(gJ x.t i p n).1,upd x.nd i Nd.plain,upd x.ws i Mp.o⟩,0)
theorem Ux{t:T}{i p n:Int}(h:(gJ t i p n).2≠0):(gJ t i p n).1=t:=by
 unfold gJ at h ⊢;by_cases h1:i<1∨65535<i
 ·rw[if_pos h1]
 rw[if_neg h1]at h ⊢;by_cases h2:has t i=true
 ·rw[if_pos h2]
 rw[if_neg h2]at h ⊢;by_cases h3:has t p=false
 ·rw[if_pos h3]
 rw[if_neg h3]at h ⊢;by_cases h4:n<0∨((kids t p).length:Int)<n
 ·rw[if_pos h4]
 rw[if_neg h4]at h;exact absurd rfl h
theorem Il{t t':T}{i p n:Int}(ok:Ok t)(h:gJ t i p n=(t',0)):t'.length=t.length+1:=by
 unfold gJ at h;by_cases h1:i<1∨65535<i
 ·rw[if_pos h1]at h;cases h
 rw[if_neg h1]at h;by_cases h2:has t i=true
 ·rw[if_pos h2]at h;cases h
 rw[if_neg h2]at h;by_cases h3:has t p=false
 ·rw[if_pos h3]at h;cases h
 rw[if_neg h3]at h;by_cases h4:n<0∨((kids t p).length:Int)<n
 ·rw[if_pos h4]at h;cases h
 rw[if_neg h4]at h;obtain rfl:=(Prod.mk.inj h).1;exact aF.sZ ok.nd _ _
theorem Qn.below{t:T}{H H':Int->Prop}{nd ET:Int->Nd}{ws ws':Int->Mp}{d:Bool}{w':World}(h:Qn g b m s Z t H nd ws H' ET ws' d w)(hb:bz w w'):Qn g b m s Z t H nd ws H' ET ws' d w':=
 ⟨fun e=>(h.no e).below hb,fun e=>(h.yes e).below hb⟩
theorem J6(h:ak w g b m s Z x)(hn:x.t.length<=900)(ci cp cn:Int)(hi:I64 ci)(hp:I64 cp) :
  Calls prog 95 (Vs g ci cp cn).toArray w (VX g b m Z s x (dV Z.2.2 x ci cp cn) w):=by
 have hb0:bz w ((w.alloc (.cells #[.pointer (some ⟨g,0,none⟩)] 25)).alloc (.cells #[.int .i64 ci] 3)):=(bR.alloc nR _).alloc (by simp) _;have HB0:=Hd hb0;have HB:Hid (az ((w.alloc (.cells #[.pointer (some ⟨g,0,none⟩)] 25)).alloc (.cells #[.int .i64 ci] 3)) w.heap.size [.pointer (some ⟨g,0,none⟩)]):=(aA w [.pointer (some ⟨g,0,none⟩)] _).alloc _;have HC:Hid (az ((w.alloc (.cells #[.pointer (some ⟨g,0,none⟩)] 25)).alloc (.cells #[.int .i64 ci] 3)) (w.heap.size+1) [.int .i64 ci]):=aY (w.alloc _) _ (by simp) [.int .i64 ci] _
 have HS:Hid (ak ((w.alloc (.cells #[.pointer (some ⟨g,0,none⟩)] 25)).alloc (.cells #[.int .i64 ci] 3)) g b m s Z x):=h.below hb0;have sJ:Hid (¬af b m s x.t w.heap.size):=fun e=>by have:=h.inside _ e;omega
 have EY:Hid (¬af b m s x.t (w.heap.size+1)):=fun e=>by have:=h.inside _ e;omega
 have HEB:Hid (¬Z.3 w.heap.size):=fun e=>by have:=(h.old _ e).1;omega
 have HEC:Hid (¬Z.3 (w.heap.size+1)):=fun e=>by have:=(h.old _ e).1;omega
 have wQ:=Hd HS.o.blk;have wK:=Hd h.jh;have dY:=Hd h.tree.ok;have HN:Hid (x.t.length<=1000):=by show _<=_;omega
 have Dw:=Hd hn;have HI:=Hd hi;have HP:=Hd hp
 obtain⟨R,hR⟩:=aC (dV Z.2.2 x ci cp cn)
 obtain⟨⟨t1,e0⟩,had⟩:∃r,gJ x.t ci cp cn=r:=⟨_,rfl⟩
 have HAD:=Hd had
 have HR:Hid (R=if e0≠0 then (x,e0) else if Z.2.2<((x.t.length+2:Nat):Int) then (x,36) else (⟨t1,upd x.nd ci Nd.plain,upd x.ws ci Mp.o⟩,0)):=by
  show _=_;rw[←hR];unfold dV;rw[had]
 rw[hR];clear hR h hn hi hp hb0 had;go_enter func95,ntmps95
 go_upto_region 1 with(fail)
 generalize ((w.alloc (.cells #[.pointer (some ⟨g,0,none⟩)] 25)).alloc (.cells #[.int .i64 ci] 3))=wz at*
 refine wR (ae (af b m s x.t) (af b m s x.t)) (fun L wx=>Qm wz g b m s Z x.t (fun i=>has x.t i=true) x.nd x.ws t1 (L 7) wx) [11,12,13,14,15,16,17,18,10] (fun _=>ae.refl _ _) (fun _ _ _ h k=>h.trans k) (fun i=>match i with
  |0|1=>rp g 0
  |2=>rp g 1
  |3=>rp b 0
  |4=>rV (.int .i64 ci)
  |5=>rV (.int .i64 cp)
  |6=>rV (.int .i64 cn)
  |7|8=>rV (.int .i64 e0)
  |_=>ra) (ae.below bR.drew) (⟨fun _=>HS.o.mid.below bR.drew,nofun⟩) ⟨?_,?_,?_,?_,?_,?_,?_,?_,?_,trivial⟩ ?_
 any_goals (first|refine zp fun L a w1 hh=>?_|fail)
 have h4:=hh.p 4 w.heap.size 0;have ⟨c0,i0⟩:=(HB.o.off sJ.o hh.rel).ci 0 rfl;rotate_left;have h11:=rq (hh.d 0 11);rotate_left;have h12:=rq (hh.d 1 12);have i0:=((au.off wQ.o wK.o hh.rel).blk).inside;rotate_left;have h13:=rq (hh.d 2 13);have ⟨c0,i0⟩:=((au.off wQ.o wK.o hh.rel).blk).ci 1 rfl;rotate_left;have h5:=hh.p 5 ((w.heap.size+1)) 0;have ⟨c0,i0⟩:=(HC.o.off EY.o hh.rel).ci 0 rfl;rotate_left;have h2:=hh.o 2 (v:=.int .i64 cp) rfl;rotate_left;have h3:=hh.o 3 (v:=.int .i64 cn) rfl;rotate_left
 ·have xI:=rq (hh.d 3 14);have h15:=rq (hh.d 4 15);have h16:=rq (hh.d 5 16);have h17:=rq (hh.d 6 17);have hS:=Hd (hh.st.no hh.un);have hR:=Hd (show ae (af b m s x.t) (af b m s x.t) wz w1 from hh.rel);have hB:=Hd (show ∀wq,regs.bl w1 wq->True from fun _ _=>trivial);clear hh hB;go_simp;refine(a1r hS.o.tree HN.o ci cp cn HI.o HP.o).mono ?_;rw[HAD.o];rintro e w9 ⟨s9,rfl,lu,QE⟩;have hm:=hS.o.step lu QE;exact⟨_,rfl,hm.2.wide (fun _ k=>k),rfl,⟨nofun,fun _=>⟨_,hm.1,hR.o.trans hm.2⟩⟩⟩
 have h18:=rq (hh.d 7 18);rotate_left
 any_goals (have hJ:=hh.j;clear hh;go_simp;exact⟨_,rfl,ae.refl _ _,rfl,hJ.o⟩)
 intro L w4 val hL hJ hR hv;have h10:val 10=.int .i64 e0:=hv 8 10 ag;have HR4:=Hd hR;obtain⟨s5,xn,GK⟩:=hJ.yes (hL 7 (by decide));have gZ:=Hd xn;have HT4:=Hd GK;clear hv hL hJ hR xn GK;simp only[regs.aG,List.map_cons,List.map_nil,h10];simp only[Act.put,List.setIfInBounds_toArray,List.set_cons_zero,List.set_cons_succ];clear h10
 skip
 by_cases h0:¬e0=0
 ·have t5:(e0==0)=false:=by simpa using h0
  have HE2:Hid (R=(x,e0)):=by show _=_;rw[HR.o,if_pos h0]
  have Qu:=Hd h0
  have HT1:Hid (t1=x.t):=by
   have:=Ux (t:=x.t) (i:=ci) (p:=cp) (n:=cn) (by rw[HAD.o];exact h0);rw[HAD.o]at this;exact this
  clear h0 HR;go_wp2_with (fail);go_ret2;rw[HE2.o];rw[HT1.o]at gZ HT4;exact⟨_,s5,rfl,gZ.o.oV fun _=>Iff.rfl,(ae.below HB0.o).trans HT4.o,fun e=>absurd e Qu.o⟩
 obtain rfl:e0=0:=by simpa using h0
 have HE2:Hid (R=if Z.2.2<((x.t.length+2:Nat):Int) then (x,36) else (⟨t1,upd x.nd ci Nd.plain,upd x.ws ci Mp.o⟩,0)):=by show _=_;rw[HR.o,if_neg (by simp)]
 have HAB:=Hd (qN dY.o HAD.o);have EI:=Hd (Il dY.o HAD.o);have X9:Hid (t1.length<=1000):=by show _<=_;have:=EI.o;have:=Dw.o;omega
 have HN9:Hid (t1.length<=100000):=by show _<=_;have:=X9.o;omega
 clear h0 HR;have HB4:Hid (az w4 w.heap.size [.pointer (some ⟨g,0,none⟩)]):=HB.o.off sJ.o HT4.o;have xP:Hid (az w4 (w.heap.size+1) [.int .i64 ci]):=HC.o.off EY.o HT4.o;have Qv:Hid (¬af b m s5 t1 w.heap.size):=(HT4.o.far _ HB.o.inside sJ.o).1;have X8:Hid (¬af b m s5 t1 (w.heap.size+1)):=(HT4.o.far _ HC.o.inside EY.o).1
 obtain⟨NL,hNL⟩:∃NL:Nat,t1.length+1=NL:=⟨_,rfl⟩
 have HLEN:Hid (∀W,regs.bl w4 W->Calls prog 188 #[.pointer (some ⟨b,0,none⟩)] W (aZ (.int .i64 (NL:Int)) W)):=fun W hb=>by
  have:=a3E (gZ.o.below hb).tree;rw[hNL]at this;exact this
 have U0:Hid (x.t.length+2=NL):=by show _=_;have:=EI.o;omega
 rw[U0.o]at HE2;clear hNL HB HC HS wQ wK sJ EY;by_cases hm:Z.2.2<(NL:Int)
 ·have t5:decide (Z.2.2<(NL:Int))=true:=decide_eq_true hm;have QU:Hid (R=(x,36)):=by show _=_;rw[HE2.o,if_pos hm]
  have EF:Hid (jF t1 ci=(gone [ci] t1,[ci],0)):=by
   show _=_;unfold jF;rw[if_neg (HAB.o.1.uK HAB.o.2.1),if_neg (by rw[ah.2 (.inr HAB.o.2.1)];simp),HAB.o.2.2.2.2.1]
  clear hm HE2;go_wp2_with (fail)
  refine Q5 [22,23,24,25,26,27,28,29,30,31,32] (fun i=>match i with
   |0|1|2|5|6=>rp g 0
   |3=>rV (.iface 88 (.pointer (some ⟨b,0,none⟩)))
   |4=>rV (.int .i64 (NL:Int))
   |7=>rp g 2
   |8=>rp g 4
   |9=>rV (.int .i64 Z.2.2)
   |10=>rT
   |_=>ra) ⟨?_,?_,?_,?_,?_,?_,?_,?_,?_,?_,?_,trivial⟩ ?_
  any_goals (first|refine zp fun L a w1 hh=>?_|fail)
  have h4:=hh.p 4 w.heap.size 0;have ⟨c0,i0⟩:=((HB4.o.below' hh.rel)).ci 0 rfl;rotate_left;have h22:=rq (hh.d 0 22);rotate_left;have h23:=rq (hh.d 1 23);have i0:=((gZ.o.below hh.rel).blk.blk).inside;rotate_left;have CX:=rq (hh.d 2 24);have ⟨c0,i0⟩:=((gZ.o.below hh.rel).blk.blk).ci 0 rfl;rotate_left
  ·have pO:=rq (hh.d 3 25);have hinv:=MS (.pointer (some ⟨b,0,none⟩));have hC:=Hd (HLEN.o _ hh.rel);have hJ:=hh.j;clear hh;go_simp;refine hC.o.mono ?_;rintro e w9 ⟨rfl,bD⟩;exact⟨_,rfl,bD,rfl,hJ.o⟩
  have h4:=hh.p 4 w.heap.size 0;have ⟨c0,i0⟩:=((HB4.o.below' hh.rel)).ci 0 rfl;rotate_left;have h27:=rq (hh.d 5 27);rotate_left;have h28:=rq (hh.d 6 28);have i0:=((gZ.o.below hh.rel).blk.blk).inside;rotate_left;have CW:=rq (hh.d 7 29);have i0:=((gZ.o.below hh.rel).blk.blk).inside;rotate_left;have h30:=rq (hh.d 8 30);have ⟨c0,i0⟩:=((gZ.o.below hh.rel).blk.blk).ci 4 rfl;rotate_left;have IX:=rq (hh.d 4 26);have h31:=rq (hh.d 9 31);rotate_left
  any_goals (clear hh;go_simp;exact⟨_,rfl,rB,rfl,trivial⟩)
  intro L w5 val hL hJ hR hv;have h32:val 32=.bool true:=hv 10 32 ag;have kL:=Hd hR;clear hv hL hJ hR;simp only[regs.aG,List.map_cons,List.map_nil,h32];simp only[Act.put,List.setIfInBounds_toArray,List.set_cons_zero,List.set_cons_succ];clear h32;generalize val 22=v22,val 23=v23,val 24=v24,val 25=v25,val 26=v26,val 27=v27,val 28=v28,val 29=v29,val 30=v30,val 31=v31 at*;have o8:=Hd (gZ.o.below kL.o);have UK:Hid (ae (af b m s x.t) (af b m s5 t1) wz w5):=HT4.o.trans (ae.below kL.o);have gI:=Hd (HB4.o.below' kL.o)
  have HC5:=Hd (xP.o.below' kL.o);have VE:=Hd o8.o.blk;have U1:=Hd o8.o.jh;clear gZ HT4 HB4 xP HLEN kL
  go_upto_region 5 with(fail)
  refine wR (ae (af b m s5 t1) (af b m s5 t1)) (fun L wx=>Qm w5 g b m s5 Z t1 (fun i=>has x.t i=true) x.nd x.ws ((gone [ci] t1)) (L 5) wx) [33,34,35,36,37,38] (fun _=>ae.refl _ _) (fun _ _ _ h k=>h.trans k) (fun i=>match i with
   |0|1=>rp g 0
   |2=>rp g 1
   |3=>rp b 0
   |4=>rV (.int .i64 ci)
   |_=>ra) (ae.below bR.drew) (⟨fun _=>o8.o.below bR.drew,nofun⟩) ⟨?_,?_,?_,?_,?_,?_,trivial⟩ ?_
  any_goals (first|refine zp fun L a w1 hh=>?_|fail)
  have h4:=hh.p 4 w.heap.size 0;have ⟨c0,i0⟩:=(gI.o.off Qv.o hh.rel).ci 0 rfl;rotate_left;have VV:=rq (hh.d 0 33);rotate_left;have Xm:=rq (hh.d 1 34);have i0:=((au.off VE.o U1.o hh.rel).blk).inside;rotate_left;have h35:=rq (hh.d 2 35);have ⟨c0,i0⟩:=((au.off VE.o U1.o hh.rel).blk).ci 1 rfl;rotate_left;have h5:=hh.p 5 ((w.heap.size+1)) 0;have ⟨c0,i0⟩:=(HC5.o.off X8.o hh.rel).ci 0 rfl;rotate_left
  ·have Xl:=rq (hh.d 3 36);have h37:=rq (hh.d 4 37);have hS:=Hd (hh.st.no hh.un);have hR:=Hd (show ae (af b m s5 t1) (af b m s5 t1) w5 w1 from hh.rel);have hB:=Hd (show ∀wq,regs.bl w1 wq->True from fun _ _=>trivial);clear hh hB;go_simp;refine(DF hS.o.tree X9.o ci HI.o).mono ?_;rw[EF.o];rintro e w9 ⟨s9,v9,rfl,lu,-,QE⟩;have hm:=hS.o.step lu QE;exact⟨_,rfl,hm.2.wide (fun _ k=>k),trivial,⟨nofun,fun _=>⟨_,hm.1,hR.o.trans hm.2⟩⟩⟩
  any_goals (have hJ:=hh.j;clear hh;go_simp;exact⟨_,rfl,ae.refl _ _,rfl,hJ.o⟩)
  intro L w6 val hL hJ hR hv;have Qs:=Hd hR;obtain⟨s7,xn,GK⟩:=hJ.yes (hL 5 (by decide));have yB:=Hd xn;have V3:=Hd GK;clear hv hL hJ hR xn GK;simp only[regs.aG,List.map_cons,List.map_nil];simp only[Act.put,List.setIfInBounds_toArray,List.set_cons_zero,List.set_cons_succ]
  skip
  go_wp2_with (fail);go_ret2;rw[QU.o];have hal:=HAB.o.2.2.2.2.2;have a4Y:Ok (gone [ci] t1):=yB.o.tree.ok;have hsc:=yB.o.oV (fun j=>by rw[iq hal]);have hT:=((ae.below HB0.o).trans UK.o).trans V3.o;rw[af.alike hal]at hT;exact⟨_,s7,rfl,hsc.like ⟨dY.o,hal,fun _ _=>rfl,fun _ _=>rfl⟩,hT,fun e=>nomatch e⟩
 have t5:decide (Z.2.2<(NL:Int))=false:=decide_eq_false hm;have QU:Hid (R=(⟨t1,upd x.nd ci Nd.plain,upd x.ws ci Mp.o⟩,0)):=by show _=_;rw[HE2.o,if_neg hm]
 clear hm HE2;go_wp2_with (fail)
 refine Q5 [22,23,24,25,26,27,28,29,30,31,32] (fun i=>match i with
  |0|1|2|5|6=>rp g 0
  |3=>rV (.iface 88 (.pointer (some ⟨b,0,none⟩)))
  |4=>rV (.int .i64 (NL:Int))
  |7=>rp g 2
  |8=>rp g 4
  |9=>rV (.int .i64 Z.2.2)
  |10=>rV (.bool false)
  |_=>ra) ⟨?_,?_,?_,?_,?_,?_,?_,?_,?_,?_,?_,trivial⟩ ?_
 any_goals (first|refine zp fun L a w1 hh=>?_|fail)
 have h4:=hh.p 4 w.heap.size 0;have ⟨c0,i0⟩:=((HB4.o.below' hh.rel)).ci 0 rfl;rotate_left;have h22:=rq (hh.d 0 22);rotate_left;have h23:=rq (hh.d 1 23);have i0:=((gZ.o.below hh.rel).blk.blk).inside;rotate_left;have CX:=rq (hh.d 2 24);have ⟨c0,i0⟩:=((gZ.o.below hh.rel).blk.blk).ci 0 rfl;rotate_left
 ·have pO:=rq (hh.d 3 25);have hinv:=MS (.pointer (some ⟨b,0,none⟩));have hC:=Hd (HLEN.o _ hh.rel);have hJ:=hh.j;clear hh;go_simp;refine hC.o.mono ?_;rintro e w9 ⟨rfl,bD⟩;exact⟨_,rfl,bD,rfl,hJ.o⟩
 have h4:=hh.p 4 w.heap.size 0;have ⟨c0,i0⟩:=((HB4.o.below' hh.rel)).ci 0 rfl;rotate_left;have h27:=rq (hh.d 5 27);rotate_left;have h28:=rq (hh.d 6 28);have i0:=((gZ.o.below hh.rel).blk.blk).inside;rotate_left;have CW:=rq (hh.d 7 29);have i0:=((gZ.o.below hh.rel).blk.blk).inside;rotate_left;have h30:=rq (hh.d 8 30);have ⟨c0,i0⟩:=((gZ.o.below hh.rel).blk.blk).ci 4 rfl;rotate_left;have IX:=rq (hh.d 4 26);have h31:=rq (hh.d 9 31);rotate_left
 any_goals (clear hh;go_simp;exact⟨_,rfl,rB,rfl,trivial⟩)
 intro L w5 val hL hJ hR hv;have h32:val 32=.bool false:=hv 10 32 ag;have kL:=Hd hR;clear hv hL hJ hR;simp only[regs.aG,List.map_cons,List.map_nil,h32];simp only[Act.put,List.setIfInBounds_toArray,List.set_cons_zero,List.set_cons_succ];clear h32
 skip
 have o8:=Hd (gZ.o.below kL.o);have UK:Hid (ae (af b m s x.t) (af b m s5 t1) wz w5):=HT4.o.trans (ae.below kL.o);have gI:=Hd (HB4.o.below' kL.o);have HC5:=Hd (xP.o.below' kL.o);have VE:=Hd o8.o.blk;have U1:=Hd o8.o.jh;clear gZ HT4 HB4 xP HLEN kL
 go_upto_region 7 with(fail)
 refine wR (ae (af b m s5 t1) (af b m s5 t1)) (fun L wx=>Qn g b m s5 Z t1 (fun i=>has x.t i=true) x.nd x.ws (fun j=>j=ci∨has x.t j=true) (upd x.nd ci Nd.plain) (upd x.ws ci Mp.o) (L 7) wx) [39,40,41,42,43,44,45] (fun _=>ae.refl _ _) (fun _ _ _ h k=>h.trans k) (fun i=>match i with
  |0|1=>rp g 0
  |2=>rp g 5
  |3=>rV (.map (some m))
  |4=>rV (.int .i64 ci)
  |5=>rV (.agg (Nd.plain.cs none 0).toArray)
  |6=>rV (.agg (dZ Nd.plain none 0 Mp.o).toArray)
  |_=>ra) (ae.below bR.drew) (⟨fun _=>o8.o.below bR.drew,nofun⟩) ⟨?_,?_,?_,?_,?_,?_,?_,?_,trivial⟩ ?_
 any_goals (first|refine zp fun L a w1 hh=>?_|fail)
 have h4:=hh.p 4 w.heap.size 0;have ⟨c0,i0⟩:=(gI.o.off Qv.o hh.rel).ci 0 rfl;rotate_left;have TD:=rq (hh.d 0 39);rotate_left;have VU:=rq (hh.d 1 40);have i0:=((au.off VE.o U1.o hh.rel).blk).inside;rotate_left;have VT:=rq (hh.d 2 41);have ⟨c0,i0⟩:=((au.off VE.o U1.o hh.rel).blk).ci 5 rfl;rotate_left;have h5:=hh.p 5 ((w.heap.size+1)) 0;have ⟨c0,i0⟩:=(HC5.o.off X8.o hh.rel).ci 0 rfl;rotate_left
 ·have hC:=Hd (yV w1);have hJ:=hh.j;clear hh;go_simp;refine hC.o.mono ?_;rintro e w9 ⟨rfl,bD⟩;exact⟨_,rfl,ae.below bD,rfl,hJ.o.below bD⟩
 ·have QJ:=rq (hh.d 5 44);have hJ:=Hd hh.st;exact wp_build _ _ rfl (by simp[go_sem,QJ]) (H9 w1) ⟨_,rfl,ae.refl _ _,rfl,hJ.o⟩
 ·have h42:=rq (hh.d 3 42);have h43:=rq (hh.d 4 43);have h45:=rq (hh.d 6 45);obtain⟨w9,hrun,hs9,lu⟩:=(hh.st.no hh.un).store HN9.o (fun j hj=>(HAB.o.2.2.2.1 j).2 (.inr hj)) HI.o (show wH Z.3 (af b m s5 t1) w1 (.agg (dZ Nd.plain none 0 Mp.o).toArray) Nd.plain Mp.o from⟨_,_,rfl,pG rfl _,fun a e=>(nomatch e),fun a e=>(nomatch e)⟩);have Pn:=Hd hs9;have Pm:=Hd lu;clear hh hs9 lu;go_simp;exact⟨Pm.o,⟨undef,trivial⟩,nofun,fun _=>Pn.o⟩
 any_goals (have hJ:=hh.j;clear hh;go_simp;exact⟨_,rfl,ae.refl _ _,rfl,hJ.o⟩)
 intro L w7 val hL hJ hR hv;have V5:=Hd hR;have IE:=Hd (hJ.yes (hL 7 (by decide)));clear hv hL hJ hR;simp only[regs.aG,List.map_cons,List.map_nil];simp only[Act.put,List.setIfInBounds_toArray,List.set_cons_zero,List.set_cons_succ]
 skip
 go_wp2_with (fail);go_ret2;rw[QU.o];have hsc:ak w7 g b m s5 Z ⟨t1,upd x.nd ci Nd.plain,upd x.ws ci Mp.o⟩:=IE.o.oV fun j=>(HAB.o.2.2.2.1 j).symm;refine⟨_,s5,rfl,hsc,((ae.below HB0.o).trans UK.o).trans V5.o,fun _=>⟨fun k=>k=w.heap.size∨k=w.heap.size+1,_,_,rfl,zU,?_,?_⟩⟩
 ·rintro k (rfl|rfl)
  ·exact⟨Nat.lt_of_lt_of_le gI.o.inside V5.o.size,fun e=>e.elim Qv.o HEB.o⟩
  ·exact⟨Nat.lt_of_lt_of_le HC5.o.inside V5.o.size,fun e=>e.elim X8.o HEC.o⟩
 ·intro W s1 E hK hs1;have hblk:∀{k:Nat} {cs:List Value},az w5 k cs->¬af b m s5 t1 k->W.heap[k]?=w7.heap[k]?->az W k cs:=fun h1 h2 h3=>h1.stays (h3.trans (V5.o.far _ h1.inside h2).2);refine(Ht hs1 X9.o (hblk gI.o Qv.o (hK _ (.inl rfl)).1) (hblk HC5.o X8.o (hK _ (.inr rfl)).1) (hK _ (.inl rfl)).2.1 (hK _ (.inr rfl)).2.1 HI.o HAB.o.2.1 HAB.o.2.2.2.2.1).mono ?_;rintro e W' ⟨he,s2,h5,h6⟩;have hal:=HAB.o.2.2.2.2.2
  have h7:=h5.oV (fun j=>by
   rw[iq hal,HAB.o.2.2.2.1];constructor
   ·rintro⟨h1,h2|h2⟩
    ·exact absurd h2 h1
    ·exact h2
   ·exact fun h2=>⟨fun e=>HAB.o.2.2.1 (e ▸ h2),.inr h2⟩)
  rw[af.alike hal]at h6;have hne:∀j,has (gone [ci] t1) j=true->j≠ci:=fun j hj e=>by rw[iq hal,e]at hj;exact HAB.o.2.2.1 hj
  exact⟨he,s2,h7.like ⟨dY.o,hal,fun j hj=>(upd_ne _ (hne j hj) _).symm,fun j hj=>(upd_ne _ (hne j hj) _).symm⟩,h6⟩
end
end
end Go.Proofs.YthmegninhpihkaaGreat
namespace Go.Proofs.YthmegninhpihkaaGreat.aF
def idx(l:List Int)(i:Int):Int:=if i∈l then (l.idxOf i:Nat) else -1
abbrev S3:=Int×Int×Int
def grp(t:T)(i:Int):List S3:=(kids t i).mapIdx fun j y=>(y,i,(j:Int))
theorem qG(t:T)(i:Int):(grp t i).length=(kids t i).length:=by simp[grp]
theorem TF(t:T)(i:Int){j:Nat}(h:j<(grp t i).length):(grp t i)[j]=((kids t i)[j]'(by rw[←qG];exact h),i,(j:Int)):=by simp[grp]
theorem yt(t:T)(i:Int):(grp t i).map (·.1)=kids t i:=by
 apply List.ext_getElem
 ·simp[grp]
 ·intro j h1 h2;simp[grp]
theorem xu{l:List Int}(hn:l.Nodup)(j:Nat):(l.filter fun y=>decide (y∈l.take j))=l.take j:=by
 induction l generalizing j with
 |nil=>simp
 |cons a l ih=>
  cases j with
  |zero=>simp
  |succ j=>
   obtain⟨h1,h2⟩:=List.nodup_cons.1 hn;rw[List.take_succ_cons,List.filter_cons_of_pos (by simp),←ih h2 j]
   congr 1
   rw[ih h2 j]
   conv=>rhs;rw[←ih h2 j]
   refine List.filter_congr fun y hy=>?_;have:y≠a:=fun e=>h1 (e ▸ hy);simp[this]
structure BQ(t:T)(f:S3)(k:Nat)(l:List S3):Prop where
 hd:l.head?=some f
 nd:(l.map (·.1)).Nodup
 deep:∀e∈l,depth t f.1<=depth t e.1∧has t e.1=true
 up:∀v (hv:v<l.length),0<v->∃u,∃hu:u<l.length,∃j:Nat,u<v∧u<k∧l[v].2.1=l[u].1∧l[v].2.2=(j:Int)∧(kids t l[u].1)[j]?=some l[v].1 ∧
  ((kids t l[u].1).filter fun y=>decide (y∈(l.take v).map (·.1)))=(kids t l[u].1).take j
 down:∀u (hu:u<l.length),u<k->∀y∈kids t l[u].1,y∈l.map (·.1)
theorem BQ.start{t:T}{f:S3}(hf:has t f.1=true):BQ t f 0 [f]:=
 ⟨rfl,by simp,fun e he=>by rw[List.mem_singleton.1 he];exact⟨Nat.le_refl _,hf⟩,fun v hv h0=>by simp at hv;omega,fun u _ h=>absurd h (by omega)⟩
theorem BQ.fresh{t:T}(ok:Ok t){f:S3}{k:Nat}{l:List S3}(h:BQ t f k l)(hk:k<l.length){y:Int}(hy:y∈kids t l[k].1):y∉l.map (·.1):=fun hm=>by
 obtain⟨e,he,rfl⟩:=List.mem_map.1 hm;obtain⟨v,hv,rfl⟩:=List.mem_iff_getElem.1 he;have hd:=dU ok hy;have hkk:=(h.deep _ (List.getElem_mem hk)).1;by_cases h0:0<v
 ·obtain⟨u,hu,j,-,huk,-,-,e3,-⟩:=h.up v hv h0;have hy2:=List.mem_of_getElem? e3;have e4:=(ok.kid hy).2.symm.trans (ok.kid hy2).2;have hp:=List.pairwise_iff_getElem.1 h.nd u k (by simpa using hu) (by simpa using hk) huk;simp only[List.getElem_map]at hp;exact hp e4.symm
 ·obtain rfl:v=0:=by omega
  have:l[0]=f:=by have:=h.hd;rw[List.head?_eq_getElem?,List.getElem?_eq_getElem hv]at this;exact Option.some.inj this
  rw[this]at hd;omega
theorem BQ.next{t:T}(ok:Ok t){f:S3}{k:Nat}{l:List S3}(h:BQ t f k l)(hk:k<l.length):BQ t f (k+1) (l++grp t l[k].1):=by
 have hfr:=fun y hy=>h.fresh ok hk (y:=y) hy;have hnl:0<l.length:=by omega
 have hhk:=(h.deep _ (List.getElem_mem hk)).2;refine⟨?_,?_,?_,?_,?_⟩
 ·rw[List.head?_append,h.hd];rfl
 ·rw[List.map_append,yt,List.nodup_append];exact⟨h.nd,eQ ok.nd _,fun a ha b hb e=>hfr b hb (e ▸ ha)⟩
 ·intro e he;rcases List.mem_append.1 he with he|he
  ·exact h.deep e he
  ·have h1:e.1∈kids t l[k].1:=by rw[←yt];exact List.mem_map_of_mem he
   have h2:=dU ok h1;have h3:=(h.deep _ (List.getElem_mem hk)).1;exact⟨by omega,ah.2 (.inr (ok.kid h1).1)⟩
 ·intro v hv h0;by_cases hlt:v<l.length
  ·obtain⟨u,hu,j,e1,e2,e3,e4,e5,e6⟩:=h.up v hlt h0;have g1:(l++grp t l[k].1)[v]=l[v]:=List.getElem_append_left hlt;have g2:(l++grp t l[k].1)[u]'(by rw[List.length_append];omega)=l[u]:=List.getElem_append_left hu;refine⟨u,by rw[List.length_append];omega,j,e1,by omega,?_,?_,?_,?_⟩
   ·rw[g1,g2];exact e3
   ·rw[g1];exact e4
   ·rw[g1,g2];exact e5
   ·rw[g2,List.take_append_of_le_length (by omega)];exact e6
  ·have hj:v - l.length<(grp t l[k].1).length:=by rw[List.length_append]at hv;omega
   have g1:(l++grp t l[k].1)[v]=(grp t l[k].1)[v - l.length]:=List.getElem_append_right (by omega);have g2:(l++grp t l[k].1)[k]'(by rw[List.length_append];omega)=l[k]:=List.getElem_append_left hk;rw[TF]at g1;have hj2:v - l.length<(kids t l[k].1).length:=by rw[←qG];exact hj
   refine⟨k,by rw[List.length_append];omega,v - l.length,by omega,by omega,?_,?_,?_,?_⟩
   ·rw[g1,g2]
   ·rw[g1]
   ·rw[g1,g2,List.getElem?_eq_getElem hj2]
   ·rw[g2,List.take_append,List.take_of_length_le (by omega),List.map_append,List.map_take,yt]
    conv=>rhs;rw[←xu (eQ ok.nd l[k].1)]
    refine List.filter_congr fun y hy=>?_;have:=hfr y hy;simp only[List.mem_append,this,false_or]
 ·intro u hu huk y hy;rw[List.map_append,List.mem_append,yt];by_cases hlt:u<l.length
  ·have g2:(l++grp t l[k].1)[u]=l[u]:=List.getElem_append_left hlt;rw[g2]at hy;by_cases e:u=k
   ·subst e;exact .inr hy
   ·exact .inl (h.down u hlt (by omega) y hy)
  ·omega
theorem BQ.len{t:T}{f:S3}{k:Nat}{l:List S3}(h:BQ t f k l):l.length<=t.length+1:=by
 have:=dK (m:=0::ids t) h.nd fun y hy=>by
  obtain⟨e,he,rfl⟩:=List.mem_map.1 hy;rcases ah.1 (h.deep e he).2 with e'|e'
  ·rw[e'];exact List.mem_cons_self
  ·exact List.mem_cons_of_mem _ e'
 simpa[ids]using this
theorem BQ.all{t:T}(ok:Ok t){f:S3}{k:Nat}{l:List S3}(h:BQ t f k l)(hk:l.length<=k)(hf:f.1∈ids t){y:Int}:y∈l.map (·.1)↔y∈walk t f.1:=by
 have h0:∃hl:0<l.length,l[0]=f:=by
  have:=h.hd;rw[List.head?_eq_getElem?]at this;obtain⟨h1,h2⟩:=List.getElem?_eq_some_iff.1 this;exact⟨h1,h2⟩
 obtain⟨hl0,e0⟩:=h0;constructor
 ·intro hm;obtain⟨e,he,rfl⟩:=List.mem_map.1 hm;obtain⟨v,hv,rfl⟩:=List.mem_iff_getElem.1 he;clear hm he
  induction v using Nat.strongRecOn with
  |_ v ih=>
   by_cases hv0:0<v
   ·obtain⟨u,hu,j,e1,-,-,-,e5,-⟩:=h.up v hv hv0;exact qw ok (.inr hf) (ih u e1 hu) (List.mem_of_getElem? e5)
   ·obtain rfl:v=0:=by omega
    rw[e0,walk_eq ok];exact List.mem_cons_self
 ·intro hm
  have key:∀n:Nat,∀z,depth t z<=n->z∈walk t f.1->z∈l.map (·.1):=by
   intro n
   induction n with
   |zero=>
    intro z hz hw;rcases(dI ok (.inr hf)).1 hw with e|e
    ·rw[e,←e0];exact List.mem_map_of_mem (List.getElem_mem hl0)
    ·have:=iY ok e;omega
   |succ n ih=>
    intro z hz hw;rcases(dI ok (.inr hf)).1 hw with e|e
    ·rw[e,←e0];exact List.mem_map_of_mem (List.getElem_mem hl0)
    ·obtain⟨hzi,-⟩:=bH e;have hd:=bP ok hzi
     have hp:par t z∈walk t f.1:=by
      refine(dI ok (.inr hf)).2 ?_;exact(within_iff ok hzi (.inr hf)).1 e
     have:=ih _ (by omega) hp;obtain⟨q,hq,eq⟩:=List.mem_map.1 this;obtain⟨u,hu,rfl⟩:=List.mem_iff_getElem.1 hq;refine h.down u hu (by omega) z ?_;rw[eq];exact jH hzi
  exact key _ y (Nat.le_refl _) hm
theorem G8{l:List Int}(hn:l.Nodup){P:Int->Prop}[DecidablePred P]{a:Int}{j:Nat}(hj:l[j]?=some a)(h:(l.filter fun y=>decide (P y))=l.take j):(l.filter fun y=>decide (P y∨y=a))=ins j a (l.take j):=by
 obtain⟨hlt,he⟩:=List.getElem?_eq_some_iff.1 hj
 have e1:ins j a (l.take j)=l.take (j+1):=by
  unfold ins;rw[List.take_take,Nat.min_self,List.drop_take,Nat.sub_self,List.take_zero,List.take_succ_eq_append_getElem hlt,he]
 rw[e1]
 conv=>rhs;rw[←xu hn (j+1)]
 refine List.filter_congr fun y hy=>?_
 have h1:P y↔y∈l.take j:=by
  rw[←h,List.mem_filter];simp[hy]
 have h2:y∈l.take (j+1)↔y∈l.take j∨y=a:=by
  rw[List.take_succ_eq_append_getElem hlt,List.mem_append,List.mem_singleton,he]
 exact decide_eq_decide.2 ((or_congr h1 Iff.rfl).trans h2.symm)
structure Back(t:T)(D:List Int)(l:List S3)(j:Nat)(u:T):Prop where
 ok:Ok u
 kids:∀q,aF.kids u q=(aF.kids t q).filter fun y=>decide (y∉D∨y∈(l.take j).map (·.1))
theorem Back.has{t u:T}{D:List Int}{l:List S3}{j:Nat}(h:Back t D l j u){y:Int}:y∈ids u↔y∈ids t∧(y∉D∨y∈(l.take j).map (·.1)):=by
 have e:∀{v:T} {z:Int},z∈ids v↔∃p,z∈aF.kids v p:=fun {v z}=>by
  rw[bg];exact exists_congr fun p=>fU.symm
 rw[e,e];constructor
 ·rintro⟨p,hp⟩;rw[h.kids,List.mem_filter]at hp;exact⟨⟨p,hp.1⟩,by simpa using hp.2⟩
 ·rintro⟨⟨p,hp⟩,h2⟩;refine⟨p,?_⟩;rw[h.kids,List.mem_filter];exact⟨hp,by simpa using h2⟩
theorem Back.start{t:T}(ok:Ok t){i:Int}(hi:i∈ids t)(l:List S3):Back t (walk t i) l 0 (gone (walk t i) t):=
 ⟨ok.gone hi,fun q=>by rw[nK];refine List.filter_congr fun y _=>?_;simp⟩
theorem Back.next{t u:T}(ok:Ok t){f:S3}{k j:Nat}{l:List S3}(hf:f.1∈ids t)(hp0:f.2.1=par t f.1)(hq0:f.2.2=idx (aF.kids t (par t f.1)) f.1)(h:BQ t f k l)(hk:l.length<=k)(hb:Back t (walk t f.1) l j u)(hj:j<l.length) :
  gJ u l[j].1 l[j].2.1 l[j].2.2=((gJ u l[j].1 l[j].2.1 l[j].2.2).1,0)∧Back t (walk t f.1) l (j+1) (gJ u l[j].1 l[j].2.1 l[j].2.2).1∧l[j].1∈ids t∧l[j].2.1=par t l[j].1:=by
 have hall:=fun y=>h.all ok hk hf (y:=y);have hme:∀v (hv:v<l.length),l[v].1∈walk t f.1:=fun v hv=>(hall _).1 (List.mem_map_of_mem (List.getElem_mem hv))
 have hit:∀v (hv:v<l.length),l[v].1∈ids t:=fun v hv=>by
  rcases(dI ok (.inr hf)).1 (hme v hv) with e|e
  ·rw[e];exact hf
  ·exact(bH e).1
 have hnj:l[j].1∉(l.take j).map (·.1):=fun hm=>by
  obtain⟨e,he,e2⟩:=List.mem_map.1 hm;obtain⟨v,hv,rfl⟩:=List.mem_iff_getElem.1 he;rw[List.length_take]at hv;rw[List.getElem_take]at e2;have:=List.pairwise_iff_getElem.1 h.nd v j (by simp;omega) (by simpa using hj) (by omega);simp only[List.getElem_map]at this;exact this e2
 have htk:(l.take (j+1)).map (·.1)=(l.take j).map (·.1)++[l[j].1]:=by rw[List.take_succ_eq_append_getElem hj,List.map_append];rfl
 have hni:¬aF.has u l[j].1=true:=fun e=>by
  rcases ah.1 e with e|e
  ·exact ok.uK (hit j hj) e
  ·exact(hb.has.1 e).2.elim (fun e=>e (hme j hj)) hnj
 have a4X:1<=l[j].1∧l[j].1<=65535:=by
  obtain⟨p,hp⟩:=bg.1 (hit j hj);exact ok.Rw _ hp
 -- the parent and the place
 have hpp:aF.has u l[j].2.1=true∧∃n:Nat,l[j].2.2=(n:Int)∧n<=(aF.kids u l[j].2.1).length∧l[j].2.1=par t l[j].1∧ins n l[j].1 (aF.kids u l[j].2.1)=(aF.kids t l[j].2.1).filter fun y=>decide (y∉walk t f.1∨y∈(l.take (j+1)).map (·.1)):=by
  by_cases h0:0<j
  ·obtain⟨v,hv,n,e1,-,e3,e4,e5,e6⟩:=h.up j hj h0;have hkv:l[j].1∈aF.kids t l[v].1:=List.mem_of_getElem? e5;obtain⟨hn,-⟩:=List.getElem?_eq_some_iff.1 e5
   have hmv:l[v].1∈(l.take j).map (·.1):=by
    refine List.mem_map.2 ⟨(l.take j)[v]'(by rw[List.length_take];omega),List.getElem_mem _,?_⟩;rw[List.getElem_take]
   have hku:aF.kids u l[v].1=(aF.kids t l[v].1).take n:=by
    rw[hb.kids,←e6];refine List.filter_congr fun y hy=>?_;have:y∈walk t f.1:=qw ok (.inr hf) (hme v hv) hy;simp[this]
   rw[e3];refine⟨ah.2 (.inr (hb.has.2 ⟨hit v hv,.inr hmv⟩)),n,e4,?_,(ok.kid hkv).2.symm,?_⟩
   ·rw[hku,List.length_take];omega
   ·rw[hku,htk];have e7:((aF.kids t l[v].1).filter fun y=>decide (y∉walk t f.1∨y∈(l.take j).map (·.1)))=(aF.kids t l[v].1).take n:=by rw[←hb.kids,hku]
    have:=G8 (eQ ok.nd l[v].1) e5 e7;rw[←this];refine List.filter_congr fun y _=>?_;simp[or_assoc]
  ·obtain rfl:j=0:=by omega
   have e0:l[0]=f:=by have:=h.hd;rw[List.head?_eq_getElem?,List.getElem?_eq_getElem hj]at this;exact Option.some.inj this
   obtain⟨hpi,hpw⟩:=lH ok hf;have Xf:=ok.fQ hf
   have hnw:par t f.1∉walk t f.1:=fun e=>by
    rcases(dI ok (.inr hf)).1 e with e|e
    ·exact hpi e
    ·rw[hpw]at e;cases e
   have hku:aF.kids u (par t f.1)=(aF.kids t (par t f.1)).filter fun y=>decide (y≠f.1):=by
    rw[hb.kids,←vK ok hf hnw,nK];refine List.filter_congr fun y _=>?_;simp
   have hkm:=jH hf;have hlt:(aF.kids t (par t f.1)).idxOf f.1<(aF.kids t (par t f.1)).length:=List.idxOf_lt_length_of_mem hkm;have hge:(aF.kids t (par t f.1))[(aF.kids t (par t f.1)).idxOf f.1]=f.1:=List.getElem_idxOf hlt;have hib:=ui hlt (eQ ok.nd (par t f.1));rw[hge]at hib;rw[e0,hp0];refine⟨?_,(aF.kids t (par t f.1)).idxOf f.1,?_,?_,rfl,?_⟩
   ·rcases Xf with e|e
    ·rw[e];exact ah.2 (.inl rfl)
    ·exact ah.2 (.inr (hb.has.2 ⟨e,.inl hnw⟩))
   ·rw[hq0];unfold idx;rw[if_pos hkm]
   ·rw[hku];have:=congrArg List.length hib;unfold ins at this;rw[List.length_append,List.length_cons,List.length_take,List.length_drop]at this;omega
   ·rw[hku,hib];refine(List.filter_eq_self.2 fun y hy=>?_).symm;rw[decide_eq_true_eq];by_cases e:y=f.1
    ·refine .inr ?_;rw[htk,e0,e];simp
    ·refine .inl fun hw=>?_;have h1:=vK ok hf hnw;rw[nK]at h1;have h2:y∈(aF.kids t (par t f.1)).filter fun k=>decide (k≠f.1):=List.mem_filter.2 ⟨hy,by simpa using e⟩;rw[←h1,List.mem_filter]at h2;simp at h2;exact h2.2 hw
 obtain⟨hhp,n,en,hle,a2b,hins⟩:=hpp
 have hadd:gJ u l[j].1 l[j].2.1 l[j].2.2=(put (l[j].1,l[j].2.1) n u,0):=by
  unfold gJ;rw[if_neg (by omega),if_neg hni,if_neg (by rw[hhp];simp),if_neg (by rw[en];omega),en,Int.toNat_natCast]
 rw[hadd];refine⟨rfl,⟨by have:=(qM hb.ok l[j].1 l[j].2.1 l[j].2.2).1;rw[hadd]at this;exact this,fun q=>?_⟩,hit j hj,a2b⟩;rw[nJ hb.ok.nd hle];by_cases hq:q=l[j].2.1
 ·rw[if_pos hq,hq];exact hins
 ·rw[if_neg hq,hb.kids,htk];refine List.filter_congr fun y hy=>?_;have:y≠l[j].1:=fun e=>hq (by rw[a2b,←e];exact(ok.kid hy).2.symm);simp[this]
theorem Back.end_{t u:T}(ok:Ok t){f:S3}{k:Nat}{l:List S3}(hf:f.1∈ids t)(h:BQ t f k l)(hk:l.length<=k)(hb:Back t (walk t f.1) l l.length u)(q:Int):aF.kids u q=aF.kids t q:=by
 rw[hb.kids,List.take_length];refine List.filter_eq_self.2 fun y _=>?_;rw[decide_eq_true_eq,h.all ok hk hf];exact(Decidable.em _).symm
theorem Back.len{t u:T}{D:List Int}{l:List S3}{j:Nat}(h:Back t D l j u):u.length<=t.length:=by
 have:=dK (m:=ids t) h.ok.nd fun y hy=>(h.has.1 hy).1
 simpa[ids]using this
end Go.Proofs.YthmegninhpihkaaGreat.aF
