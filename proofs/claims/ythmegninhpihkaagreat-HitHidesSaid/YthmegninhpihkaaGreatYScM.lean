import Derived.Test.YthmegninhpihkaaGreatYScK
set_option maxHeartbeats 16000000
set_option maxRecDepth 100000
open Go.Proofs.Tryz
namespace Go.Proofs.YthmegninhpihkaaGreat
section
open Go.RowKit fD fO aF Go.Maps
abbrev rM:TypeId:=93
abbrev qC:TypeId:=137
abbrev fA:TypeId:=91
theorem fF:prog.underlying fA=some (.map 3 qC):=underlying91
def JA:List Value:=dY ⟨⟨0,0,0,0,0,0⟩,0,false,false,⟨0,0,0,0⟩,⟨0,0,0,0,0,0,[]⟩⟩ none 0 ⟨0,0,0,0,0,0⟩
theorem ja(w:World):(zeroValue qC).run prog w=.ok (.agg JA.toArray) w:=by kernel_rfl
structure aK where
 t:T
 nd:Int->Nd
 ws:Int->Mp
def upd{α:Type}(f:Int->α)(i:Int)(y:α):Int->α:=fun j=>if j=i then y else f j
theorem upd_same{α:Type}(f:Int->α)(i:Int)(y:α):upd f i y i=y:=if_pos rfl
theorem upd_ne{α:Type}(f:Int->α){i j:Int}(h:j≠i)(y:α):upd f i y j=f j:=if_neg h
def af(b m:Nat)(s:Sh)(t:T):bF:=fun k=>k=m∨gq b s t k
def Jc(b m:Nat)(s:Sh)(t:T)(E:bF):bF:=fun k=>af b m s t k∨E k
structure ZR where
 b:Int
 c:Int
structure ZZ where
 a:Int
 r:ZR
 E:bF
structure dE(E S:bF)(w:World)(n:Nd)(A:Option Addr):Prop where
 row:Row eW w A n.lk.l
 off:∀a,A=some a->n.lk.l≠[]->¬S a.block
 e:∀a,A=some a->n.lk.l≠[]->¬E a.block
def wJ(E S:bF)(w:World)(v:Value)(n:Nd)(u:Mp):Prop:=∃A c,v=YU n A c u∧dE E S w n A
structure Fit(n:Nd):Prop where
 p:n.lk.p<4294967296
 l:∀z∈n.lk.l,z<4294967296
 len:n.lk.l.length<=300
theorem Row.stays{w w':World}{A:Option Addr}{l:List Nat}(h:Row eW w A l)(hb:∀a,A=some a->l≠[]->w'.heap[a.block]?=w.heap[a.block]?):Row eW w' A l:=fun hn=>by
 obtain⟨b,off,e,hc⟩:=h hn;have hne:l≠[]:=fun e=>by rw[e]at hn;exact absurd hn (by simp)
 refine⟨b,off,e,fun j hj=>?_⟩;have h1:=hb _ e hne;have h2:=hc j hj;rw[←h2];unfold World.cell?;simp only at h1 ⊢;rw[h1]
theorem Row.lt{w:World}{A:Option Addr}{l:List Nat}(h:Row eW w A l){a:Addr}(e:A=some a)(hne:l≠[]):a.block<w.heap.size:=by
 have hn:0<l.length:=List.length_pos_iff.2 hne;obtain⟨b,off,e2,hc⟩:=h hn;rw[e]at e2;obtain rfl:=Option.some.inj e2;exact World.block_lt_of_cell? w ⟨b,_,none⟩ (hc 0 hn)
section
variable {E S S':bF}{w w':World}{n:Nd}{A:Option Addr}{v:Value}{u:Mp}
theorem dE.turn(h:dE E S w n A)(ht:ae S S' w w'):dE E S' w' n A:=
 ⟨Row.stays h.1 fun a e hne=>(ht.far _ (Row.lt h.1 e hne) (h.2 a e hne)).2,fun a e hne=>(ht.far _ (Row.lt h.1 e hne) (h.2 a e hne)).1,h.3⟩
theorem wJ.turn(h:wJ E S w v n u)(ht:ae S S' w w'):wJ E S' w' v n u:=by
 obtain⟨A,c,e,h⟩:=h;exact⟨A,c,e,h.turn ht⟩
end
structure au(w:World)(g b m:Nat)(s:Sh)(Z:ZZ)(x:aK):Prop where
 blk:ak w g [.iface 88 (.pointer (some ⟨b,0,none⟩)),.pointer (some ⟨b,0,none⟩),.int .i64 Z.1,.int .i64 Z.2.1,.int .i64 Z.2.2,.map (some m)] rM
 tree:aW w b s x.t
 map:∃es,VM w m es∧(∀i,omap.look es i≠none->has x.t i=true)∧∀i,has x.t i=true->∃v,omap.look es i=some v∧wJ Z.3 (af b m s x.t) w v (x.nd i) (x.ws i)
 jm:¬af b m s x.t g
 qW:¬gq b s x.t m
 old:∀k,Z.3 k->k<w.heap.size∧¬af b m s x.t k∧k≠g
theorem Eo(t:T):(ids t).length=t.length:=by simp[ids]
theorem Hz{es:LV}{t:T}(hr:omap.mQ lt es)(h:∀i,omap.look es i≠none->has t i=true):es.length<=t.length+1:=by
 have hn:(es.map (·.1)).Nodup:=by
  refine List.Pairwise.map _ (fun a b hab=>?_) hr;exact ord.ne hab
 have:=dK (m:=0::ids t) hn fun x hx=>by
  obtain⟨p,hp,rfl⟩:=List.mem_map.1 hx;have h1:=h p.1 (by rw[omap.mQ.xm ord hr hp];simp);rcases aj.1 h1 with e|e
  ·exact List.mem_cons.2 (.inl e)
  ·exact List.mem_cons_of_mem _ e
 rw[List.length_map,List.length_cons,Eo]at this;exact this
section
variable {w w':World}{g b m:Nat}{s:Sh}{Z:ZZ}{x:aK}
theorem au.inside(h:au w g b m s Z x):∀k,af b m s x.t k->k<w.heap.size:=by
 rintro k (rfl|hk)
 ·obtain⟨es,hm,_⟩:=h.map;exact hm.inside
 ·exact h.tree.raw.inside k hk
theorem au.top(h:au w g b m s Z x):(w.cell? ⟨g,0,none⟩=some (.iface 88 (.pointer (some ⟨b,0,none⟩)))∧w.cell? ⟨g,1,none⟩=some (.pointer (some ⟨b,0,none⟩))∧w.cell? ⟨g,2,none⟩=some (.int .i64 Z.1)∧w.cell? ⟨g,3,none⟩=some (.int .i64 Z.2.1)∧w.cell? ⟨g,4,none⟩=some (.int .i64 Z.2.2)∧w.cell? ⟨g,5,none⟩=some (.map (some m)))∧g<w.heap.size:=
 have h1:=h.blk.blk
 ⟨⟨h1.cell 0,h1.cell 1,h1.cell 2,h1.cell 3,h1.cell 4,h1.cell 5⟩,h1.inside⟩
theorem au.stays(h:au w g b m s Z x)(ht:ae (af b m s x.t) (af b m s x.t) w w')(hn:∀k,af b m s x.t k->w'.heap[k]?=w.heap[k]?):au w' g b m s Z x:=by
 obtain⟨es,hm,h1,h2⟩:=h.map;refine⟨h.blk.stays (ht.far g h.blk.inside h.jm).2,h.tree.stays fun k hk=>hn k (.inr hk),⟨es,hm.stays (hn m (.inl rfl)),h1,fun i hi=>?_⟩,h.jm,h.qW,fun k hk=>⟨Nat.lt_of_lt_of_le (h.old k hk).1 ht.size,(h.old k hk).2⟩⟩;obtain⟨v,e,hv⟩:=h2 i hi;exact⟨v,e,hv.turn ht⟩
theorem au.below(h:au w g b m s Z x)(hb:bz w w'):au w' g b m s Z x:=h.stays (ae.below hb) fun k hk=>hb.block k (h.inside k hk)
theorem au.look(h:au w g b m s Z x){i:Int}(hi:I64 i)(hh:has x.t i=true):∃A c,(Instr.lookup fA (.map (some m)) (.int .i64 i) false).run prog w=.ok (YU (x.nd i) A c (x.ws i)) w ∧
  (Instr.lookup fA (.map (some m)) (.int .i64 i) true).run prog w=.ok (.tuple #[YU (x.nd i) A c (x.ws i),.bool true]) w∧dE Z.3 (af b m s x.t) w (x.nd i) A:=by
 obtain⟨es,hm,-,h2⟩:=h.map;obtain⟨v,e,A,c,rfl,hv⟩:=h2 i hh;have h3:=hm.lookup fF (ja w) hi;have h4:=hm.look_ok fF (ja w) hi;rw[e]at h3 h4;exact⟨A,c,h3,h4,hv⟩
theorem au.dJ(h:au w g b m s Z x){i:Int}(hi:I64 i)(hh:¬has x.t i=true):(Instr.lookup fA (.map (some m)) (.int .i64 i) false).run prog w=.ok (.agg JA.toArray) w ∧
  (Instr.lookup fA (.map (some m)) (.int .i64 i) true).run prog w=.ok (.tuple #[.agg JA.toArray,.bool false]) w:=by
 obtain⟨es,hm,h1,-⟩:=h.map
 have e:omap.look es i=none:=by
  cases e:omap.look es i with
  |none=>rfl
  |some v=>exact absurd (h1 i (by rw[e];simp)) hh
 have h3:=hm.lookup fF (ja w) hi;have h4:=hm.look_ok fF (ja w) hi;rw[e]at h3 h4;exact⟨h3,h4⟩
theorem ae.rQ{S:bF}{w w':World}{m:Nat}(hg:w.grownBy w' (some m))(hm:S m):ae S S w w':=ae.grown hg fun k e=>by
 obtain rfl:=Option.some.inj e;exact hm
theorem au.store(h:au w g b m s Z x)(hn:x.t.length<=100000){i:Int}(hi:I64 i)(hh:has x.t i=true){v:Value}{n:Nd}{u:Mp}(hv:wJ Z.3 (af b m s x.t) w v n u) :
  ∃w',(Instr.mapUpdate fA (.map (some m)) (.int .i64 i) v).run prog w=.ok () w'∧au w' g b m s Z ⟨x.t,upd x.nd i n,upd x.ws i u⟩∧ae (af b m s x.t) (af b m s x.t) w w':=by
 obtain⟨es,hm,h1,h2⟩:=h.map;have hle:=Hz hm.rises h1;obtain⟨w',hrun,hm',hg⟩:=hm.store fF hi v (by have:=iH i v es;omega);have ht:ae (af b m s x.t) (af b m s x.t) w w':=ae.rQ hg (.inl rfl);refine⟨w',hrun,⟨h.blk.stays (ht.far g h.blk.inside h.jm).2,h.tree.stays fun k hk=>hg.block k (h.tree.raw.inside k hk) fun e=>?_,⟨_,hm',fun j hj=>?_,fun j hj=>?_⟩,h.jm,h.qW,fun k hk=>⟨Nat.lt_of_lt_of_le (h.old k hk).1 ht.size,(h.old k hk).2⟩⟩,ht⟩
 ·exact h.qW (Option.some.inj e ▸ hk)
 ·rw[omap.dC]at hj;by_cases e:j=i
  ·rw[e];exact hh
  ·rw[if_neg e]at hj;exact h1 j hj
 ·rw[omap.dC];by_cases e:j=i
  ·subst e;rw[if_pos rfl];exact⟨v,rfl,by simp only[upd_same];exact hv.turn ht⟩
  ·rw[if_neg e];obtain⟨v',e',hv'⟩:=h2 j hj;exact⟨v',e',by simp only[upd_ne _ e];exact hv'.turn ht⟩
structure aK.like(x y:aK):Prop where
 ok:Ok y.t
 kids:∀q,aF.kids x.t q=aF.kids y.t q
 nd:∀i,has x.t i=true->y.nd i=x.nd i
 ws:∀i,has x.t i=true->y.ws i=x.ws i
theorem aW.alike{w:World}{b:Nat}{s:Sh}{t u:T}(h:aW w b s u)(ok:Ok t)(al:∀q,kids u q=kids t q):aW w b s t:=by
 have h1:eQ u=eQ t:=funext fun i=>by show(has u i=true)=(has t i=true);rw[iq al]
 have h3:kids u=kids t:=funext al;have h2:Bg u=Bg t:=funext fun i=>by unfold Bg;rw[Du h.ok ok al]
 have hr:Raw w b s (eQ u) (Bg u) (kids u):=h.raw;rw[h1,h2,h3]at hr;exact⟨hr,ok⟩
theorem af.alike{b m:Nat}{s:Sh}{t u:T}(al:∀q,kids u q=kids t q):af b m s u=af b m s t:=by
 have h1:eQ u=eQ t:=funext fun i=>by show(has u i=true)=(has t i=true);rw[iq al]
 unfold af gq;rw[h1]
theorem au.like(h:au w g b m s Z x){y:aK}(l:x.like y):au w g b m s Z y:=by
 obtain⟨es,hm,h1,h2⟩:=h.map;have e:=af.alike (b:=b) (m:=m) (s:=s) l.kids;refine⟨h.blk,h.tree.alike l.ok l.kids,⟨es,hm,fun i hi=>?_,fun i hi=>?_⟩,by rw[←e];exact h.jm,fun hk=>h.qW ?_,fun k hk=>⟨(h.old k hk).1,by rw[←e];exact(h.old k hk).2.1,(h.old k hk).2.2⟩⟩
 ·rw[←iq l.kids];exact h1 i hi
 ·rw[←iq l.kids]at hi;rw[←e,l.nd i hi,l.ws i hi];exact h2 i hi
 ·have h1:eQ x.t=eQ y.t:=funext fun i=>by show(has x.t i=true)=(has y.t i=true);rw[iq l.kids]
  unfold gq at hk ⊢;rw[h1];exact hk
end
def uJ(g b m:Nat)(Z:ZZ)(v:Value)(w:World)(S:bF)(x' x:aK):Prop:=
 ∃(K:bF) (f:Nat) (cs:Array Value),v=.func (.func f) #[] cs∧Enters prog f∧(∀k,K k->k<w.heap.size∧¬S k) ∧
  ∀(W:World) (s1:Sh) (E:bF),(∀k,K k->W.heap[k]?=w.heap[k]?∧¬af b m s1 x'.t k∧¬E k)->au W g b m s1 ⟨Z.1,Z.2,E⟩ x' ->
   Calls prog f cs W fun e W'=>(∃r,e=.returned r)∧∃s2,au W' g b m s2 ⟨Z.1,Z.2,E⟩ x∧ae (af b m s1 x'.t) (af b m s2 x.t) W W'
theorem uJ.turn{g b m:Nat}{Z:ZZ}{v:Value}{w w':World}{S S':bF}{x' x:aK}(h:uJ g b m Z v w S x' x)(ht:ae S S' w w'):uJ g b m Z v w' S' x' x:=by
 obtain⟨K,f,cs,e,he,hk,hc⟩:=h;refine⟨K,f,cs,e,he,fun k hK=>⟨Nat.lt_of_lt_of_le (hk k hK).1 ht.size,(ht.far k (hk k hK).1 (hk k hK).2).1⟩,fun W s1 E hW hs=>hc W s1 E (fun k hK=>⟨(hW k hK).1.trans (ht.far k (hk k hK).1 (hk k hK).2).2,(hW k hK).2⟩) hs⟩
def Wn(g b m:Nat)(Z:ZZ)(s:Sh)(x:aK)(r:aK×Int)(w:World)(e:Ending)(w':World):Prop:=
 ∃fv s',e=.returned (.tuple #[fv,.int .i64 r.2])∧au w' g b m s' Z r.1∧ae (af b m s x.t) (af b m s' r.1.t) w w'∧(r.2=0->uJ g b m Z fv w' (Jc b m s' r.1.t Z.3) r.1 x)
theorem Gs{w:World}{o:dM}{Ao An:Option Addr}{n:Nd}(h1:Row eW w Ao o.lk.l)(h2:Row eW w An n.lk.l):Row eW w (aX o Ao An) (bU n o).lk.l:=by
 unfold aX bU;by_cases h7:o.k=7
 ·rw[if_pos h7,if_neg (by omega),if_neg (by omega),if_neg (by omega),if_pos h7];exact h1
 ·rw[if_neg h7,if_neg h7];by_cases h4:o.k=4
  ·rw[if_pos h4];exact h2
  rw[if_neg h4];by_cases h5:o.k=5
  ·rw[if_pos h5];exact h2
  rw[if_neg h5];by_cases h6:o.k=6
  ·rw[if_pos h6];exact h2
  rw[if_neg h6];by_cases h8:o.k=8
  ·rw[if_pos h8];exact h2
  rw[if_neg h8];exact h2
theorem tK{o:dM}{n:Nd}(h1:Fit { n with lk:=o.lk })(h2:Fit n):Fit (bU n o):=by
 unfold bU;by_cases h4:o.k=4
 ·rw[if_pos h4];exact⟨h2.p,h2.l,h2.len⟩
 rw[if_neg h4];by_cases h5:o.k=5
 ·rw[if_pos h5];exact⟨h2.p,h2.l,h2.len⟩
 rw[if_neg h5];by_cases h6:o.k=6
 ·rw[if_pos h6];exact⟨h2.p,h2.l,h2.len⟩
 rw[if_neg h6];by_cases h7:o.k=7
 ·rw[if_pos h7];exact h1
 rw[if_neg h7];by_cases h8:o.k=8
 ·rw[if_pos h8];exact⟨h2.p,h2.l,h2.len⟩
 rw[if_neg h8];exact h2
end
section
open Go.RowKit fD fO aF Go.Maps
theorem kV(n:Nd)(A:Option Addr)(c:Nat)(u:Mp)(w:World):(Instr.build qC #[(0,.agg (n.cs A c).toArray),(1,.agg u.cs.toArray)]).run prog w=.ok (.agg (dY n A c u).toArray) w:=by kernel_rfl
theorem zS(n:Nd)(A:Option Addr)(c:Nat)(u:Mp)(w:World):(Instr.field qC (.agg (dY n A c u).toArray) 0).run prog w=.ok (.agg (n.cs A c).toArray) w:=by kernel_rfl
theorem wp_build{P:Program}{op:Oper}{a:Act}{w:World}{K:Act->World->Prop}{Q:Exit->Act->World->Prop}(t:TypeId)(parts:Array (Nat×Operand))(ho:op.op=.build t parts){vals:Array (Nat×Value)}(hv:(parts.map fun q=>(q.1,a.eval q.2))=vals){v:Value}(hrun:(Instr.build t vals).run P w=.ok v w)
  (h:K (a.put op.dst v) w):op.wp P a w K Q:=by
 subst hv;unfold Oper.wp execOp;simp only[ho,Sem.run_bind,Result.andThen_ok,hrun];exact h
theorem yV(w:World):Calls prog 50 #[] w (aY (.agg (Nd.plain.cs none 0).toArray) w):=OU w
theorem Uy(n:Nd)(A:Option Addr)(c:Nat)(hf:Fit n)(w:World)(hr:Row eW w A n.lk.l):Calls prog 125 #[.agg (n.cs A c).toArray] w (aY (.int .i64 n.chk) w):=
 GG n.m n.op n.hi n.cl n.r n.lk.k n.lk.W n.lk.H n.lk.p n.lk.iw n.lk.ih A n.lk.l c hf.p hf.l (by have:=hf.len;unfold maxLen;omega) w hr
def V8(n:Nd)(E S:bF)(w:World)(e:Ending)(w':World):Prop:=∃A c,e=.returned (.agg (n.cs A c).toArray)∧dE E S w' n A∧bz w w'∧∀a,A=some a->n.lk.l≠[]->w.heap.size<=a.block∧∀j,w'.frozen? ⟨a.block,j,none⟩=false
theorem NJ(n:Nd)(A:Option Addr)(c:Nat)(hf:n.lk.l.length<=20000000)(w:World)(hr:Row eW w A n.lk.l)(E S:bF)(hE:∀k,E k->k<w.heap.size)(hS:∀k,S k->k<w.heap.size):Calls prog 46 #[.agg (n.cs A c).toArray] w (V8 n E S w):=by
 refine(JG n.m n.op n.hi n.cl n.r n.lk.k n.lk.W n.lk.H n.lk.p n.lk.iw n.lk.ih A n.lk.l c w hr hf).mono ?_;rintro e w' ⟨A9,c9,rfl,hp,hb⟩
 have hq:∀a,A9=some a->n.lk.l≠[]->w.heap.size<=a.block∧∀j,w'.frozen? ⟨a.block,j,none⟩=false:=fun a e hne=>by
  obtain⟨b,off,e2,hc⟩:=hp.1 (List.length_pos_iff.2 hne);have h1:=hp.2.1 b off e2;rw[e2]at e;obtain rfl:=Option.some.inj e;exact h1
 exact⟨A9,c9,rfl,⟨hp.1,fun a e hne hs=>by have:=hq a e hne;have:=hS _ hs;omega,fun a e hne hs=>by have:=hq a e hne;have:=hE _ hs;omega⟩,hb,hq⟩
structure ScJ(g b m:Nat)(s:Sh)(Z:ZZ)(x x':aK)(d:Bool)(w:World):Prop where
 no:d=false->au w g b m s Z x
 yes:d=true->au w g b m s Z x'
theorem ScJ.below{g b m:Nat}{s:Sh}{Z:ZZ}{x x':aK}{d:Bool}{w w':World}(h:ScJ g b m s Z x x' d w)(hb:bz w w'):ScJ g b m s Z x x' d w':=
 ⟨fun e=>(h.no e).below hb,fun e=>(h.yes e).below hb⟩
theorem ak.off{S S':bF}{w w':World}{k:Nat}{cs:List Value}{T:TypeId}(h:ak w k cs T)(hn:¬S k)(ht:ae S S' w w'):ak w' k cs T:=h.stays (ht.far k h.inside hn).2
theorem az.off{S S':bF}{w w':World}{k:Nat}{cs:List Value}(h:az w k cs)(hn:¬S k)(ht:ae S S' w w'):az w' k cs:=h.stays (ht.far k h.inside hn).2
section
variable {w:World}{g b m:Nat}{s:Sh}{Z:ZZ}{x:aK}
theorem Gg(h:au w g b m s Z x)(hn:x.t.length<=100000){kw kb ko:Nat}{n:Nd}{A:Option Addr}{c:Nat}{u:Mp}{o:dM}{Ao:Option Addr}{co:Nat}(hw:az w kw (dY n A c u))(hb:az w kb [.pointer (some ⟨g,0,none⟩)])(ho:az w ko (o.cs Ao co))
  (h1:¬af b m s x.t kw) (h2:¬af b m s x.t kb) (h3:¬af b m s x.t ko) (hp:dE Z.3 (af b m s x.t) w n A) (hi:I64 o.i) (hh:has x.t o.i=true) :
  Calls prog 126 (Vt kw kb ko).toArray w fun e w'=>(∃r,e=.returned r)∧au w' g b m s Z ⟨x.t,upd x.nd o.i n,upd x.ws o.i u⟩∧ae (af b m s x.t) (af b m s x.t) w w':=by
 have HS:=Hd h;have HN:=Hd hn;have HB:=Hd hb;have HO:=Hd ho;have HW:=Hd hw;have sQ:=Hd h2;have uV:=Hd h3;have HNW:=Hd h1;have wV:=Hd h.blk;have wL:=Hd h.jm;have HI:=Hd hi;have HH:=Hd hh
 have HP:Hid (wJ Z.3 (af b m s x.t) w (.agg (dY n A c u).toArray) n u):=⟨A,c,rfl,hp⟩
 clear h hn hw hb ho h1 h2 h3 hp hi hh;go_enter func126,ntmps126
 go_upto_region 0 with(fail)
 refine wR (ae (af b m s x.t) (af b m s x.t)) (fun L wx=>ScJ g b m s Z x ⟨x.t,upd x.nd o.i n,upd x.ws o.i u⟩ (L 7) wx) [3,4,5,6,7,8,9] (fun _=>ae.refl _ _) (fun _ _ _ h k=>h.trans k) (fun i=>match i with
  |0|1=>rp g 0
  |2=>rp g 5
  |3=>rV (.map (some m))
  |4=>rp ko 1
  |5=>rV (.int .i64 o.i)
  |6=>rV (.agg (dY n A c u).toArray)
  |_=>ra) (ae.below bR.drew) (⟨fun _=>HS.o.below bR.drew,nofun⟩) ⟨?_,?_,?_,?_,?_,?_,?_,?_,trivial⟩ ?_
 any_goals (first|refine zp fun L a w1 hh=>?_|fail)
 have h1:=hh.p 1 kb 0;have ⟨c0,i0⟩:=(HB.o.off sQ.o hh.rel).ci 0 rfl;rotate_left;have h3:=rq (hh.d 0 3);rotate_left;have h4:=rq (hh.d 1 4);have i0:=((ak.off wV.o wL.o hh.rel).blk).inside;rotate_left;have h5:=rq (hh.d 2 5);have ⟨c0,i0⟩:=((ak.off wV.o wL.o hh.rel).blk).ci 5 rfl;rotate_left;have h2:=hh.p 2 ko 0;have i0:=(HO.o.off uV.o hh.rel).inside;rotate_left;have h7:=rq (hh.d 4 7);have ⟨c0,i0⟩:=(HO.o.off uV.o hh.rel).ci 1 rfl;rotate_left
 ·have h0:=hh.p 0 kw 0;have hB:=Hd (HW.o.off HNW.o hh.rel);have hJ:=Hd hh.st;exact aN 137 _ rfl kw 0 (by simpa[go_sem]using h0) _ hB.o (dY n A c u) rfl _ underlying137 rfl ag ⟨_,rfl,ae.refl _ _,rfl,hJ.o⟩
 ·have h6:=rq (hh.d 3 6);have h8:=rq (hh.d 5 8);have h9:=rq (hh.d 6 9);obtain⟨w9,hrun,hs9,lF⟩:=(hh.st.no hh.un).store HN.o HI.o HH.o (HP.o.turn hh.rel);have PM:=Hd hs9;have PL:=Hd lF;clear hh hs9 lF;go_simp;exact⟨PL.o,⟨undef,trivial⟩,nofun,fun _=>PM.o⟩
 any_goals (have hJ:=hh.j;clear hh;go_simp;exact⟨_,rfl,ae.refl _ _,rfl,hJ.o⟩)
 intro L w4 val hL hJ hR hv;have HR4:=Hd hR;have Rj:=Hd (hJ.yes (hL 7 (by decide)));clear hv hL hJ hR;simp only[regs.aG,List.map_cons,List.map_nil];simp only[Act.put,List.setIfInBounds_toArray,List.set_cons_zero,List.set_cons_succ]
 skip
 go_wp2_with (fail)
 go_end0
 exact⟨⟨_,rfl⟩,Rj.o,HR4.o⟩
def lI(x:aK)(o:dM):aK×Int:=
 if has x.t o.i=false then (x,30) else if (bU Nd.plain o).chk≠0 then (x,(bU Nd.plain o).chk) else (⟨x.t,upd x.nd o.i (bU (x.nd o.i) o),x.ws⟩,0)
theorem jA{α:Type}(f:Int->α)(i:Int):upd f i (f i)=f:=by
 funext j
 unfold upd;by_cases e:j=i
 ·rw[if_pos e,e]
 ·rw[if_neg e]
theorem MB{α:Type}(f:Int->α)(i:Int)(y z:α):upd (upd f i y) i z=upd f i z:=by
 funext j
 unfold upd;by_cases e:j=i
 ·rw[if_pos e,if_pos e]
 ·rw[if_neg e,if_neg e,if_neg e]
theorem au.zl(h:au w g b m s Z x){i:Int}(hi:I64 i)(hh:has x.t i=true):∃A c,∀W,bz w W->(Instr.lookup fA (.map (some m)) (.int .i64 i) false).run prog W=.ok (.agg (dY (x.nd i) A c (x.ws i)).toArray) W ∧
  (Instr.lookup fA (.map (some m)) (.int .i64 i) true).run prog W=.ok (.tuple #[.agg (dY (x.nd i) A c (x.ws i)).toArray,.bool true]) W∧dE Z.3 (af b m s x.t) W (x.nd i) A:=by
 obtain⟨es,hm,-,h2⟩:=h.map;obtain⟨v,e,A,c,rfl,hv⟩:=h2 i hh;refine⟨A,c,fun W hb=>?_⟩;have h3:=(hm.below hb).lookup fF (ja W) hi;have h4:=(hm.below hb).look_ok fF (ja W) hi;rw[e]at h3 h4;exact⟨h3,h4,hv.turn (ae.below hb)⟩
theorem YX(o:dM)(Ao:Option Addr)(co:Nat)(n:Nd)(An:Option Addr)(cn:Nat)(w:World) :
  Calls prog 124 #[.agg (o.cs Ao co).toArray,.agg (n.cs An cn).toArray] w (aY (.agg ((bU n o).cs (aX o Ao An) (aX o co cn)).toArray) w):=on_any o Ao co n An cn w
theorem MK{n:Nd}{o:dM}(h:o.k≠7):(bU n o).lk=n.lk:=by
 unfold bU;by_cases h4:o.k=4
 ·rw[if_pos h4]
 rw[if_neg h4];by_cases h5:o.k=5
 ·rw[if_pos h5]
 rw[if_neg h5];by_cases h6:o.k=6
 ·rw[if_pos h6]
 rw[if_neg h6,if_neg h];by_cases h8:o.k=8
 ·rw[if_pos h8]
 rw[if_neg h8]
theorem dE.lk{E S:bF}{w:World}{n n':Nd}{A:Option Addr}(h:dE E S w n A)(e:n'.lk=n.lk):dE E S w n' A:=
 ⟨by rw[e];exact h.1,by rw[e];exact h.2,by rw[e];exact h.3⟩
theorem xA:Enters prog 126:=enters_of func126 ag rfl
theorem vW:Fit Nd.plain:=⟨by decide,(by intro z hz;cases hz),by decide⟩
theorem pM{w:World}{n:Nd}(h:n.lk.l=[])(A:Option Addr):Row eW w A n.lk.l:=by
 rw[h];intro hn;exact absurd hn (by simp)
theorem set_any(h:au w g b m s Z x)(hn:x.t.length<=100000)(o:dM)(Ao:Option Addr)(co:Nat)(hr:Row eW w Ao o.lk.l)(hfo:Fit { Nd.plain with lk:=o.lk })(hfx:∀i,has x.t i=true->Fit (x.nd i))(hi:I64 o.i) :
  Calls prog 98 #[.pointer (some ⟨g,0,none⟩),o.v Ao co] w (Wn g b m Z s x (lI x o) w):=by
 unfold dM.v;have HB0:Hid (bz w ((w.alloc (.cells #[.pointer (some ⟨g,0,none⟩)] 25)).alloc (.cells (o.cs Ao co).toArray 85))):=(bR.alloc nR _).alloc (by simp) _;have Yt:Hid (az ((w.alloc (.cells #[.pointer (some ⟨g,0,none⟩)] 25)).alloc (.cells (o.cs Ao co).toArray 85)) w.heap.size [.pointer (some ⟨g,0,none⟩)]):=(aA w [.pointer (some ⟨g,0,none⟩)] _).alloc _;have a3l:Hid (az ((w.alloc (.cells #[.pointer (some ⟨g,0,none⟩)] 25)).alloc (.cells (o.cs Ao co).toArray 85)) (w.heap.size+1) (o.cs Ao co)):=aZ (w.alloc _) _ (by simp) (o.cs Ao co) _
 have uU:Hid (au ((w.alloc (.cells #[.pointer (some ⟨g,0,none⟩)] 25)).alloc (.cells (o.cs Ao co).toArray 85)) g b m s Z x):=h.below HB0.o;have kJ:Hid (∀k,af b m s x.t k->k<w.heap.size):=h.inside;have IP:Hid (∀k,Z.3 k->k<w.heap.size):=fun k hk=>(h.old k hk).1;have HR0:Hid (Row eW ((w.alloc (.cells #[.pointer (some ⟨g,0,none⟩)] 25)).alloc (.cells (o.cs Ao co).toArray 85)) Ao o.lk.l):=Row.below hr HB0.o;have iO:Hid (((w.alloc (.cells #[.pointer (some ⟨g,0,none⟩)] 25)).alloc (.cells (o.cs Ao co).toArray 85)).heap.size=w.heap.size+2):=by show _=_;simp
 have HN:=Hd hn;have HFO:=Hd hfo;have Jj:=Hd hfx;have HI:=Hd hi
 obtain⟨R,hR⟩:=aC (lI x o)
 have HR:=Hd hR;rw[hR];clear hR h hn hr hfo hfx hi;go_enter func98,ntmps98
 go_upto_region 1 with(fail)
 generalize ((w.alloc (.cells #[.pointer (some ⟨g,0,none⟩)] 25)).alloc (.cells (o.cs Ao co).toArray 85))=wz at*;have FS:Hid (∀W,bz wz W->au W g b m s Z x):=fun W hb=>uU.o.below hb;have FB:Hid (∀W,bz wz W->az W w.heap.size [.pointer (some ⟨g,0,none⟩)]):=fun W hb=>Yt.o.below' hb;have FO:Hid (∀W,bz wz W->az W (w.heap.size+1) (o.cs Ao co)):=fun W hb=>a3l.o.below' hb;by_cases hh:¬has x.t o.i=true
 ·have HH:=Hd hh;have HE:Hid (R=(x,30)):=by show _=_;rw[←HR.o];unfold lI;rw[if_pos (by simpa using hh)]
  clear hh
  refine QR (Below wz.heap.size) (fun L V wx=>JN wz.heap.size [] (Vi) (JA) (L 10) (L 11) (V 6) wx) [11,12,13,14,15,16,17,10,18,19,6,7] (fun _=>bR) (fun _ _ _ h k=>h.trans k) (fun i=>match i with
   |0|1=>rp g 0
   |2=>rp g 5
   |3=>rV (.map (some m))
   |4=>rp (w.heap.size+1) 1
   |5=>rV (.int .i64 o.i)
   |6|7=>rV (.tuple #[.agg (JA).toArray,.bool false])
   |8=>rV (.agg (JA).toArray)
   |9|12=>rV (.bool false)
   |_=>ra) (bR.drew) (JN.start (old:=[]) trivial) ⟨?_,?_,?_,?_,?_,?_,?_,?_,?_,?_,?_,?_,?_,trivial⟩ ?_
  any_goals (first|refine fP fun L a w1 hh=>?_|fail)
  have h2:=hh.p 2 w.heap.size 0;have ⟨c0,i0⟩:=(FB.o _ hh.rel).ci 0 rfl;rotate_left;have h11:=rq (hh.d 0 11);rotate_left;have h12:=rq (hh.d 1 12);have i0:=((FS.o _ hh.rel).blk.blk).inside;rotate_left;have h13:=rq (hh.d 2 13);have ⟨c0,i0⟩:=((FS.o _ hh.rel).blk.blk).ci 5 rfl;rotate_left;have h3:=hh.p 3 ((w.heap.size+1)) 0;have i0:=(FO.o _ hh.rel).inside;rotate_left;have h15:=rq (hh.d 4 15);have ⟨c0,i0⟩:=(FO.o _ hh.rel).ci 1 rfl;rotate_left;have xJ:=rq (hh.d 3 14);have h16:=rq (hh.d 5 16);have hlk:=((FS.o _ hh.rel).dJ HI.o HH.o).2;rotate_left;have h17:=rq (hh.d 6 17)
  rotate_left;have h10:=rq (hh.d 7 10);rotate_left;have h10:=rq (hh.d 7 10);rotate_left
  ·have hJ:=Hd hh.st;have hsz:=Hd hh.size;have hun:=Hd hh.un;clear hh;go_simp;exact⟨_,rfl,bR.alloc hJ.o.1.2.1 _,trivial,JN.new hJ.o hun.o (bP.bI (by rw[hsz.o];simp))⟩
  ·have h18:=rq (hh.d 8 18);have hup:=hh.up 10 ag;obtain⟨g9,vS,nz,gJ⟩:=hh.st.2.1 hup;have h6:a.tmps[6]?.getD undef=.pointer (some ⟨g9,0,none⟩):=rq (vS);rw[hh.un]at gJ;have hJ:=Hd hh.st;have hun:=Hd hh.un;refine dB 137 _ _ rfl g9 0 (by simpa[go_sem]using h6) (JA) (by simpa[go_sem]using h18) _ gJ (nE rfl) ag (by rfl) ?_;intro w9 nC BC;have hP:=hJ.o.Oy hup hun.o vS nC BC rfl;exact⟨undef,rfl,hP.2,trivial,hP.1⟩
  have h19:=rq (hh.d 9 19);rotate_left
  any_goals (have hJ:=hh.j;clear hh;go_simp;exact⟨_,rfl,bR,rfl,JN.slots hJ.o sn⟩)
  intro L w4 val hL hJ hR hv;have h7:val 7=.bool false:=hv 12 7 ag;have HR4:=Hd hR;obtain⟨g6,e6,BB,Zc⟩:=hJ.2.1 (hL 10 (by decide));clear hv hL hJ hR;simp only[regs.aG,List.map_cons,List.map_nil,h7];simp only[Act.put,List.setIfInBounds_toArray,List.set_cons_zero,List.set_cons_succ];clear h7;generalize val 11=v11,val 12=v12,val 13=v13,val 14=v14,val 15=v15,val 16=v16,val 17=v17,val 10=v10,val 18=v18,val 19=v19 at*;go_wp2_with (fail);go_ret2;rw[HE.o];exact⟨_,s,rfl,FS.o _ HR4.o,ae.below (HB0.o.trans (HR4.o.mono HB0.o.size)),fun e=>nomatch e⟩
 have hh2:has x.t o.i=true:=by simpa using hh
 have HH:=Hd hh2;have lZ:Hid (R=if (bU Nd.plain o).chk≠0 then (x,(bU Nd.plain o).chk) else (⟨x.t,upd x.nd o.i (bU (x.nd o.i) o),x.ws⟩,0)):=by show _=_;rw[←HR.o];unfold lI;rw[if_neg (by rw[hh2];simp)]
 have WH:=Hd (Jj.o _ hh2);obtain⟨A,c,hlk⟩:=uU.o.zl HI.o hh2;have FL:=Hd hlk;clear hh hh2 hlk Jj HR
 obtain⟨n,hn⟩:=aC (x.nd o.i)
 obtain⟨u,hu⟩:=aC (x.ws o.i)
 have HNU:=Hd (And.intro hn hu);rw[hn]at WH lZ;rw[hn,hu]at FL;clear hn hu
 refine QR (Below wz.heap.size) (fun L V wx=>JN wz.heap.size [] (Vi) (dY n A c u) (L 10) (L 11) (V 6) wx) [11,12,13,14,15,16,17,10,18,19,6,7] (fun _=>bR) (fun _ _ _ h k=>h.trans k) (fun i=>match i with
  |0|1=>rp g 0
  |2=>rp g 5
  |3=>rV (.map (some m))
  |4=>rp (w.heap.size+1) 1
  |5=>rV (.int .i64 o.i)
  |6|7=>rV (.tuple #[.agg (dY n A c u).toArray,.bool true])
  |8=>rV (.agg (dY n A c u).toArray)
  |9|12=>rT
  |_=>ra) (bR.drew) (JN.start (old:=[]) trivial) ⟨?_,?_,?_,?_,?_,?_,?_,?_,?_,?_,?_,?_,?_,trivial⟩ ?_
 any_goals (first|refine fP fun L a w1 hh=>?_|fail)
 have h2:=hh.p 2 w.heap.size 0;have ⟨c0,i0⟩:=(FB.o _ hh.rel).ci 0 rfl;rotate_left;have h11:=rq (hh.d 0 11);rotate_left;have h12:=rq (hh.d 1 12);have i0:=((FS.o _ hh.rel).blk.blk).inside;rotate_left;have h13:=rq (hh.d 2 13);have ⟨c0,i0⟩:=((FS.o _ hh.rel).blk.blk).ci 5 rfl;rotate_left;have h3:=hh.p 3 ((w.heap.size+1)) 0;have i0:=(FO.o _ hh.rel).inside;rotate_left;have h15:=rq (hh.d 4 15);have ⟨c0,i0⟩:=(FO.o _ hh.rel).ci 1 rfl;rotate_left;have xJ:=rq (hh.d 3 14);have h16:=rq (hh.d 5 16);have hlk:=(FL.o _ hh.rel).2.1;rotate_left;have h17:=rq (hh.d 6 17);rotate_left
 have h10:=rq (hh.d 7 10);rotate_left;have h10:=rq (hh.d 7 10);rotate_left
 ·have hJ:=Hd hh.st;have hsz:=Hd hh.size;have hun:=Hd hh.un;clear hh;go_simp;exact⟨_,rfl,bR.alloc hJ.o.1.2.1 _,trivial,JN.new hJ.o hun.o (bP.bI (by rw[hsz.o];simp))⟩
 ·have h18:=rq (hh.d 8 18);have hup:=hh.up 10 ag;obtain⟨g9,vS,nz,gJ⟩:=hh.st.2.1 hup;have h6:a.tmps[6]?.getD undef=.pointer (some ⟨g9,0,none⟩):=rq (vS);rw[hh.un]at gJ;have hJ:=Hd hh.st;have hun:=Hd hh.un;refine dB 137 _ _ rfl g9 0 (by simpa[go_sem]using h6) (dY n A c u) (by simpa[go_sem]using h18) _ gJ (nE rfl) ag (by rfl) ?_;intro w9 nC BC;have hP:=hJ.o.Oy hup hun.o vS nC BC rfl;exact⟨undef,rfl,hP.2,trivial,hP.1⟩
 have h19:=rq (hh.d 9 19);rotate_left
 any_goals (have hJ:=hh.j;clear hh;go_simp;exact⟨_,rfl,bR,rfl,JN.slots hJ.o sn⟩)
 intro L w4 val hL hJ hR hv;have h7:val 7=.bool true:=hv 12 7 ag;have HR4:=Hd hR;obtain⟨g6,e6,BB,Zc⟩:=hJ.2.1 (hL 10 (by decide));have sJ:=Hd (And.intro BB (show az w4 g6 (dY n A c u) by rw[hL 11 (by decide)]at Zc;exact Zc));clear hv hL hJ hR BB Zc;simp only[regs.aG,List.map_cons,List.map_nil,h7];simp only[Act.put,List.setIfInBounds_toArray,List.set_cons_zero,List.set_cons_succ];clear h7
 skip
 rw[e6];clear e6;have FS4:Hid (∀W,regs.bl w4 W->au W g b m s Z x):=fun W hb=>FS.o W (HR4.o.trans (Below.mono hb HR4.o.size));have FB4:Hid (∀W,regs.bl w4 W->az W w.heap.size [.pointer (some ⟨g,0,none⟩)]):=fun W hb=>FB.o W (HR4.o.trans (Below.mono hb HR4.o.size));have FO4:Hid (∀W,regs.bl w4 W->az W (w.heap.size+1) (o.cs Ao co)):=fun W hb=>FO.o W (HR4.o.trans (Below.mono hb HR4.o.size));have FP4:Hid (∀W,regs.bl w4 W->az W g6 (dY n A c u)):=fun W hb=>sJ.o.2.below' hb
 have FN4:Hid (∀W,regs.bl w4 W->dE Z.3 (af b m s x.t) W n A):=fun W hb=>(FL.o W (HR4.o.trans (Below.mono hb HR4.o.size))).2.2;have FW4:Hid (∀W,regs.bl w4 W->bz w W):=fun W hb=>HB0.o.trans ((HR4.o.trans (Below.mono hb HR4.o.size)).mono HB0.o.size);have FR4:Hid (∀W,regs.bl w4 W->Row eW W Ao o.lk.l):=fun W hb=>Row.below HR0.o (HR4.o.trans (Below.mono hb HR4.o.size));have HG6:Hid (wz.heap.size<=g6):=sJ.o.1
 obtain⟨e0,he0⟩:=aC ((bU Nd.plain o).chk)
 have HCK:Hid (∀W,regs.bl w4 W->Calls prog 125 #[.agg ((bU Nd.plain o).cs (aX o Ao none) (aX o co 0)).toArray] W (aY (.int .i64 e0) W)):=fun W hb=>by
  have:=Uy (bU Nd.plain o) (aX o Ao none) (aX o co 0) (tK HFO.o vW) W (Gs (FR4.o W hb) (pM rfl none));rw[he0]at this;exact this
 rw[he0]at lZ;clear he0 uU FS FB FO FL HR0 Yt a3l;go_wp2_with (fail)
 refine Rw [22,23,24,25,8] (fun i=>match i with
  |0=>rV (.agg (o.cs Ao co).toArray)
  |1=>rV (.agg (Nd.plain.cs none 0).toArray)
  |2=>rV (.agg ((bU Nd.plain o).cs (aX o Ao none) (aX o co 0)).toArray)
  |3|4=>rV (.int .i64 e0)
  |_=>ra) ⟨?_,?_,?_,?_,?_,trivial⟩ ?_
 any_goals (first|refine zp fun L a w1 hh=>?_|fail)
 ·have h3:=hh.p 3 ((w.heap.size+1)) 0;have hB:=Hd (FO4.o _ hh.rel);have hJ:=Hd hh.st;exact aN 85 _ rfl (w.heap.size+1) 0 (by simpa[go_sem]using h3) _ hB.o (o.cs Ao co) rfl _ underlying85 rfl ag ⟨_,rfl,rB,rfl,hJ.o⟩
 ·have hC:=Hd (yV w1);have hJ:=hh.j;clear hh;go_simp;refine hC.o.mono ?_;rintro e w9 ⟨rfl,bD⟩;exact⟨_,rfl,bD,rfl,hJ.o⟩
 ·have h22:=rq (hh.d 0 22);have h23:=rq (hh.d 1 23);have hC:=Hd (YX o Ao co Nd.plain none 0 w1);have hJ:=hh.j;clear hh;go_simp;refine hC.o.mono ?_;rintro e w9 ⟨rfl,bD⟩;exact⟨_,rfl,bD,rfl,hJ.o⟩
 ·have CY:=rq (hh.d 2 24);have hC:=Hd (HCK.o _ hh.rel);have hJ:=hh.j;clear hh;go_simp;refine hC.o.mono ?_;rintro e w9 ⟨rfl,bD⟩;exact⟨_,rfl,bD,rfl,hJ.o⟩
 ·have Ew:=rq (hh.d 3 25);clear hh;go_simp;exact⟨_,rfl,rB,rfl,trivial⟩
 intro L w5 val hL hJ hR hv;have h8:val 8=.int .i64 e0:=hv 4 8 ag;have kN:=Hd hR;clear hv hL hJ hR HCK;simp only[regs.aG,List.map_cons,List.map_nil,h8];simp only[Act.put,List.setIfInBounds_toArray,List.set_cons_zero,List.set_cons_succ];clear h8
 skip
 by_cases h0:¬e0=0
 ·have t5:(e0==0)=false:=by simpa using h0
  have HE2:Hid (R=(x,e0)):=by show _=_;rw[lZ.o,if_pos h0]
  have QH:=Hd h0;clear h0 lZ;go_wp2_with (fail);go_ret2;rw[HE2.o];exact⟨_,s,rfl,FS4.o _ kN.o,ae.below (FW4.o _ kN.o),fun e=>absurd e QH.o⟩
 obtain rfl:e0=0:=by simpa using h0
 have HE2:Hid (R=(⟨x.t,upd x.nd o.i (bU n o),x.ws⟩,0)):=by show _=_;rw[lZ.o,if_neg (by simp)]
 clear h0 lZ
 obtain⟨N,hN⟩:=aC (bU n o)
 have HNN:=Hd hN;rw[hN]at HE2;have a3y:Hid (Fit N):=by rw[←hN];exact tK ⟨HFO.o.p,HFO.o.l,HFO.o.len⟩ WH.o
 have HON:=Hd (fun W=>YX o Ao co n A c W);rw[hN]at HON;clear hN;have Fj:=Hd (FO4.o _ kN.o);have HP5:=Hd (FP4.o _ kN.o);go_wp2_with (first|(with_reducible refine gL ?_;first|(refine wt 85 0 rfl rfl rfl Fj.o (o.cs Ao co) rfl underlying85 rfl ?_)|(refine wt 77 0 rfl rfl rfl HP5.o (n.cs A c) rfl underlying77 rfl ?_)));refine(HON.o _).mono ?_;rintro e w6 ⟨rfl,hb6⟩;have QO:Hid (regs.bl w4 w6):=Below.trans kN.o (hb6.mono kN.o.size);have HZ6:Hid (az (w6.alloc (.cells Va.toArray 77)) w6.heap.size Va):=aA w6 Va _
 have V4:Hid (Below w6.heap.size w6 (w6.alloc (.cells Va.toArray 77))):=bR.alloc nR _;clear hb6 Fj HP5
 go_upto_region 8 with(first|(with_reducible refine gS ?_;first|(refine ay 77 _ _ rfl rfl rfl _ 0 rfl (N.cs (aX o Ao A) (aX o co c)) rfl (Va) HZ6.o (N.cs (aX o Ao A) (aX o co c)) rfl (nE rfl) ag (Nd.one _ _ _) ?_;intro w7 HW7 EY)))
 have sU:Hid (Below w6.heap.size w6 w7):=HW7.o.below V4.o nR;have sK:Hid (regs.bl w4 w7):=Below.trans QO.o (sU.o.mono QO.o.size)
 obtain⟨k9,hk9⟩:=aC w6.heap.size
 have WG:Hid (w6.heap.size=k9):=hk9;rw[hk9]at EY HW7 ⊢;have HS9:Hid (∀k,af b m s x.t k->k<k9):=fun k hk=>by rw[←WG.o];exact(FS4.o _ QO.o).inside k hk
 have HX9:Hid (g6<k9∧w.heap.size+1<k9):=by
  have h1:=(FP4.o _ QO.o).inside;have h2:=(FO4.o _ QO.o).inside;rw[WG.o]at h1 h2;exact⟨h1,h2⟩
 clear hk9 HZ6 V4 sU HW7 HON;have c0:=(FO4.o _ sK.o).c 0 rfl;have i0:w.heap.size+1<w7.heap.size:=(FO4.o _ sK.o).inside;by_cases h7:o.k=7
 ·have t7:(o.k==7)=true:=by simpa using h7
  have YC:=Hd (NJ N (aX o Ao A) (aX o co c) (by have:=a3y.o.len;omega) w7 (by rw[←HNN.o];exact Gs (FR4.o _ sK.o) (FN4.o _ sK.o).1) Z.3 (af b m s x.t) (fun k hk=>((FS4.o _ sK.o).old k hk).1) (fun k hk=>(FS4.o _ sK.o).inside k hk));unfold V8 at YC;clear h7;go_wp2_with (first|(with_reducible refine gL ?_;first|(refine wt 77 0 rfl rfl rfl EY.o (N.cs (aX o Ao A) (aX o co c)) rfl underlying77 rfl ?_)));refine YC.o.mono ?_;rintro e w8 ⟨A9,c9,rfl,a2b,hb8,a2g⟩;have VS:=Hd (EY.o.below' hb8)
  have a5b:Hid (regs.bl w4 w8):=Below.trans sK.o (hb8.mono sK.o.size);have VI:=Hd a2b;have HG8:Hid (∀a,A9=some a->N.lk.l≠[]->a.block≠k9):=fun a ea hne e=>by have:=a2g a ea hne;have:=EY.o.inside;omega
  have hsz:w4.heap.size<=k9:=by rw[←WG.o];exact QO.o.size
  have X8:=Hd hsz;clear hb8 a2b a2g YC hsz
  go_upto_region 10 with(first|(with_reducible refine gS ?_;first|(refine ay 77 _ _ rfl rfl rfl _ 0 rfl (N.cs A9 c9) rfl (N.cs (aX o Ao A) (aX o co c)) VS.o (N.cs A9 c9) rfl (nE rfl) ag (Nd.one _ _ _) ?_;intro w9 Q8 HK)))
  have QP:Hid (regs.bl w4 w9):=Q8.o.below a5b.o X8.o
  have Be:Hid (dE Z.3 (af b m s x.t) w9 N A9):=⟨Row.stays VI.o.1 fun a ea hne=>Q8.o.far (HG8.o a ea hne),VI.o.2,VI.o.3⟩
  have HS:=Hd (FS4.o _ QP.o);have HB:=Hd (FB4.o _ QP.o);have HO:=Hd (FO4.o _ QP.o);have HP:=Hd (FP4.o _ QP.o);have sQ:Hid (¬af b m s x.t w.heap.size):=fun e=>by have:=kJ.o _ e;omega
  have uV:Hid (¬af b m s x.t (w.heap.size+1)):=fun e=>by have:=kJ.o _ e;omega
  have ZC:Hid (¬af b m s x.t k9):=fun e=>by have:=HS9.o _ e;omega
  have IU:Hid (¬af b m s x.t g6):=fun e=>by have:=kJ.o _ e;have:=HG6.o;have:=iO.o;omega
  have HEB:Hid (¬Z.3 w.heap.size):=fun e=>by have:=IP.o _ e;omega
  have HEO:Hid (¬Z.3 (w.heap.size+1)):=fun e=>by have:=IP.o _ e;omega
  have HEP:Hid (¬Z.3 g6):=fun e=>by have:=IP.o _ e;have:=HG6.o;have:=iO.o;omega
  have wV:=Hd HS.o.blk;have wL:=Hd HS.o.jm;have wM:=Hd (FN4.o _ QP.o)
  refine wR (ae (af b m s x.t) (af b m s x.t)) (fun L wx=>ScJ g b m s Z x ⟨x.t,upd x.nd o.i N,upd x.ws o.i u⟩ (L 10) wx) [38,39,40,41,42,43,44,45,46,47] (fun _=>ae.refl _ _) (fun _ _ _ h k=>h.trans k) (fun i=>match i with
   |0|1=>rp g 0
   |2=>rp g 5
   |3=>rV (.map (some m))
   |4=>rp (w.heap.size+1) 1
   |5=>rV (.int .i64 o.i)
   |6=>rV (.agg (N.cs A9 c9).toArray)
   |7=>rp g6 20
   |8=>rV (.agg (u.cs).toArray)
   |9=>rV (.agg (dY N A9 c9 u).toArray)
   |_=>ra) (ae.below bR.drew) (⟨fun _=>HS.o.below bR.drew,nofun⟩) ⟨?_,?_,?_,?_,?_,?_,?_,?_,?_,?_,?_,trivial⟩ ?_
  any_goals (first|refine zp fun L a w1 hh=>?_|fail)
  have h2:=hh.p 2 w.heap.size 0;have ⟨c0,i0⟩:=(HB.o.off sQ.o hh.rel).ci 0 rfl;rotate_left;have h38:=rq (hh.d 0 38);rotate_left;have TZ:=rq (hh.d 1 39);have i0:=((ak.off wV.o wL.o hh.rel).blk).inside;rotate_left;have Wi:=rq (hh.d 2 40);have ⟨c0,i0⟩:=((ak.off wV.o wL.o hh.rel).blk).ci 5 rfl;rotate_left;have h3:=hh.p 3 ((w.heap.size+1)) 0;have i0:=(HO.o.off uV.o hh.rel).inside;rotate_left;have h42:=rq (hh.d 4 42);have ⟨c0,i0⟩:=(HO.o.off uV.o hh.rel).ci 1 rfl;rotate_left
  ·have h9:=hh.p 9 k9 0;have hB:=Hd (HK.o.off ZC.o hh.rel);have hJ:=Hd hh.st;exact aN 77 _ rfl k9 0 (by simpa[go_sem]using h9) _ hB.o (N.cs A9 c9) rfl _ underlying77 rfl ag ⟨_,rfl,ae.refl _ _,rfl,hJ.o⟩
  have h6:=hh.p 6 g6 0;have i0:=(HP.o.off IU.o hh.rel).inside;rotate_left
  ·have h45:=rq (hh.d 7 45);have hB:=Hd (HP.o.off IU.o hh.rel);have hJ:=Hd hh.st;exact aN 67 _ rfl g6 20 (by simpa[go_sem]using h45) _ hB.o (u.cs) rfl _ underlying67 rfl ag ⟨_,rfl,ae.refl _ _,rfl,hJ.o⟩
  ·have QY:=rq (hh.d 6 44);have h46:=rq (hh.d 8 46);have hJ:=Hd hh.st;exact wp_build _ _ rfl (by simp[go_sem,QY,h46]) (kV N A9 c9 u w1) ⟨_,rfl,ae.refl _ _,rfl,hJ.o⟩
  ·have Wh:=rq (hh.d 3 41);have h43:=rq (hh.d 5 43);have h47:=rq (hh.d 9 47);obtain⟨w9,hrun,hs9,lF⟩:=(hh.st.no hh.un).store HN.o HI.o HH.o (show wJ Z.3 (af b m s x.t) w1 (.agg (dY N A9 c9 u).toArray) N u from⟨_,_,rfl,Be.o.turn hh.rel⟩);have PM:=Hd hs9;have PL:=Hd lF;clear hh hs9 lF;go_simp;exact⟨PL.o,⟨undef,trivial⟩,nofun,fun _=>PM.o⟩
  any_goals (have hJ:=hh.j;clear hh;go_simp;exact⟨_,rfl,ae.refl _ _,rfl,hJ.o⟩)
  intro L BZ val hL hJ hR hv;have mD:=Hd hR;have I5:=Hd (hJ.yes (hL 10 (by decide)));clear hv hL hJ hR;simp only[regs.aG,List.map_cons,List.map_nil];simp only[Act.put,List.setIfInBounds_toArray,List.set_cons_zero,List.set_cons_succ];generalize val 38=v38,val 39=v39,val 40=v40,val 41=v41,val 42=v42,val 43=v43,val 44=v44,val 45=v45,val 46=v46,val 47=v47 at*
  have HS5:Hid (au BZ g b m s Z R.1):=by
   show au _ _ _ _ _ _ _;have:=I5.o;rw[←HNU.o.2,jA]at this;rw[HE2.o];exact this
  clear I5;go_wp2_with (fail);go_ret2;rw[HE2.o]at HS5 ⊢;have ht:ae (af b m s x.t) (af b m s x.t) w BZ:=(ae.below (FW4.o _ QP.o)).trans mD.o;refine⟨_,s,rfl,HS5.o,ht,fun _=>⟨fun k=>(k=g6∨k=w.heap.size∨k=w.heap.size+1)∨∃a,A=some a∧n.lk.l≠[]∧k=a.block,_,_,rfl,xA,?_,?_⟩⟩
  ·rintro k ((rfl|rfl|rfl)|⟨a,ea,hne,rfl⟩)
   ·exact⟨Nat.lt_of_lt_of_le HP.o.inside mD.o.size,fun e=>e.elim IU.o HEP.o⟩
   ·exact⟨Nat.lt_of_lt_of_le HB.o.inside mD.o.size,fun e=>e.elim sQ.o HEB.o⟩
   ·exact⟨Nat.lt_of_lt_of_le HO.o.inside mD.o.size,fun e=>e.elim uV.o HEO.o⟩
   ·exact⟨Nat.lt_of_lt_of_le (Row.lt wM.o.1 ea hne) mD.o.size,fun e=>e.elim (wM.o.2 a ea hne) (wM.o.3 a ea hne)⟩
  ·intro W s1 E hK hs1;have hblk:∀{k:Nat} {cs:List Value},az w9 k cs->¬af b m s x.t k->W.heap[k]?=BZ.heap[k]?->az W k cs:=fun h1 h2 h3=>h1.stays (h3.trans (mD.o.far _ h1.inside h2).2)
   have hnd:dE E (af b m s1 x.t) W n A:=⟨Row.stays wM.o.1 fun a ea hne=>((hK _ (.inr ⟨a,ea,hne,rfl⟩)).1).trans (mD.o.far _ (Row.lt wM.o.1 ea hne) (wM.o.2 a ea hne)).2,fun a ea hne=>(hK _ (.inr ⟨a,ea,hne,rfl⟩)).2.1,fun a ea hne=>(hK _ (.inr ⟨a,ea,hne,rfl⟩)).2.2⟩
   refine(Gg hs1 HN.o (hblk HP.o IU.o (hK _ (.inl (.inl rfl))).1) (hblk HB.o sQ.o (hK _ (.inl (.inr (.inl rfl)))).1) (hblk HO.o uV.o (hK _ (.inl (.inr (.inr rfl)))).1) (hK _ (.inl (.inl rfl))).2.1 (hK _ (.inl (.inr (.inl rfl)))).2.1 (hK _ (.inl (.inr (.inr rfl)))).2.1 hnd HI.o HH.o).mono ?_;rintro e W' ⟨he,h5,h6⟩;refine⟨he,s1,?_,h6⟩;have e1:(⟨x.t,upd (upd x.nd o.i N) o.i n,upd x.ws o.i u⟩:aK)=x:=by rw[MB,←HNU.o.1,←HNU.o.2,jA,jA]
   rw[e1]at h5;exact h5
 have t7:(o.k==7)=false:=by simpa using h7
 have Be:Hid (dE Z.3 (af b m s x.t) w7 N A):=(FN4.o _ sK.o).lk (by rw[←HNN.o];exact MK h7)
 have HK:Hid (az w7 k9 (N.cs A c)):=by
  have:=EY.o;rw[show aX o Ao A=A from if_neg h7,show aX o co c=c from if_neg h7]at this;exact this
 clear h7 EY;have HS:=Hd (FS4.o _ sK.o);have HB:=Hd (FB4.o _ sK.o);have HO:=Hd (FO4.o _ sK.o);have HP:=Hd (FP4.o _ sK.o);have sQ:Hid (¬af b m s x.t w.heap.size):=fun e=>by have:=kJ.o _ e;omega
 have uV:Hid (¬af b m s x.t (w.heap.size+1)):=fun e=>by have:=kJ.o _ e;omega
 have ZC:Hid (¬af b m s x.t k9):=fun e=>by have:=HS9.o _ e;omega
 have IU:Hid (¬af b m s x.t g6):=fun e=>by have:=kJ.o _ e;have:=HG6.o;have:=iO.o;omega
 have HEB:Hid (¬Z.3 w.heap.size):=fun e=>by have:=IP.o _ e;omega
 have HEO:Hid (¬Z.3 (w.heap.size+1)):=fun e=>by have:=IP.o _ e;omega
 have HEP:Hid (¬Z.3 g6):=fun e=>by have:=IP.o _ e;have:=HG6.o;have:=iO.o;omega
 have wV:=Hd HS.o.blk;have wL:=Hd HS.o.jm;have wM:=Hd (FN4.o _ sK.o)
 go_upto_region 10 with(fail)
 refine wR (ae (af b m s x.t) (af b m s x.t)) (fun L wx=>ScJ g b m s Z x ⟨x.t,upd x.nd o.i N,upd x.ws o.i u⟩ (L 10) wx) [38,39,40,41,42,43,44,45,46,47] (fun _=>ae.refl _ _) (fun _ _ _ h k=>h.trans k) (fun i=>match i with
  |0|1=>rp g 0
  |2=>rp g 5
  |3=>rV (.map (some m))
  |4=>rp (w.heap.size+1) 1
  |5=>rV (.int .i64 o.i)
  |6=>rV (.agg (N.cs A c).toArray)
  |7=>rp g6 20
  |8=>rV (.agg (u.cs).toArray)
  |9=>rV (.agg (dY N A c u).toArray)
  |_=>ra) (ae.below bR.drew) (⟨fun _=>HS.o.below bR.drew,nofun⟩) ⟨?_,?_,?_,?_,?_,?_,?_,?_,?_,?_,?_,trivial⟩ ?_
 any_goals (first|refine zp fun L a w1 hh=>?_|fail)
 have h2:=hh.p 2 w.heap.size 0;have ⟨c0,i0⟩:=(HB.o.off sQ.o hh.rel).ci 0 rfl;rotate_left;have h38:=rq (hh.d 0 38);rotate_left;have TZ:=rq (hh.d 1 39);have i0:=((ak.off wV.o wL.o hh.rel).blk).inside;rotate_left;have Wi:=rq (hh.d 2 40);have ⟨c0,i0⟩:=((ak.off wV.o wL.o hh.rel).blk).ci 5 rfl;rotate_left;have h3:=hh.p 3 ((w.heap.size+1)) 0;have i0:=(HO.o.off uV.o hh.rel).inside;rotate_left;have h42:=rq (hh.d 4 42);have ⟨c0,i0⟩:=(HO.o.off uV.o hh.rel).ci 1 rfl;rotate_left
 ·have h9:=hh.p 9 k9 0;have hB:=Hd (HK.o.off ZC.o hh.rel);have hJ:=Hd hh.st;exact aN 77 _ rfl k9 0 (by simpa[go_sem]using h9) _ hB.o (N.cs A c) rfl _ underlying77 rfl ag ⟨_,rfl,ae.refl _ _,rfl,hJ.o⟩
 have h6:=hh.p 6 g6 0;have i0:=(HP.o.off IU.o hh.rel).inside;rotate_left
 ·have h45:=rq (hh.d 7 45);have hB:=Hd (HP.o.off IU.o hh.rel);have hJ:=Hd hh.st;exact aN 67 _ rfl g6 20 (by simpa[go_sem]using h45) _ hB.o (u.cs) rfl _ underlying67 rfl ag ⟨_,rfl,ae.refl _ _,rfl,hJ.o⟩
 ·have QY:=rq (hh.d 6 44);have h46:=rq (hh.d 8 46);have hJ:=Hd hh.st;exact wp_build _ _ rfl (by simp[go_sem,QY,h46]) (kV N A c u w1) ⟨_,rfl,ae.refl _ _,rfl,hJ.o⟩
 ·have Wh:=rq (hh.d 3 41);have h43:=rq (hh.d 5 43);have h47:=rq (hh.d 9 47);obtain⟨w9,hrun,hs9,lF⟩:=(hh.st.no hh.un).store HN.o HI.o HH.o (show wJ Z.3 (af b m s x.t) w1 (.agg (dY N A c u).toArray) N u from⟨_,_,rfl,Be.o.turn hh.rel⟩);have PM:=Hd hs9;have PL:=Hd lF;clear hh hs9 lF;go_simp;exact⟨PL.o,⟨undef,trivial⟩,nofun,fun _=>PM.o⟩
 any_goals (have hJ:=hh.j;clear hh;go_simp;exact⟨_,rfl,ae.refl _ _,rfl,hJ.o⟩)
 intro L BZ val hL hJ hR hv;have mD:=Hd hR;have I5:=Hd (hJ.yes (hL 10 (by decide)));clear hv hL hJ hR;simp only[regs.aG,List.map_cons,List.map_nil];simp only[Act.put,List.setIfInBounds_toArray,List.set_cons_zero,List.set_cons_succ]
 skip
 have HS5:Hid (au BZ g b m s Z R.1):=by
  show au _ _ _ _ _ _ _;have:=I5.o;rw[←HNU.o.2,jA]at this;rw[HE2.o];exact this
 clear I5;go_wp2_with (fail);go_ret2;rw[HE2.o]at HS5 ⊢;have ht:ae (af b m s x.t) (af b m s x.t) w BZ:=(ae.below (FW4.o _ sK.o)).trans mD.o;refine⟨_,s,rfl,HS5.o,ht,fun _=>⟨fun k=>(k=g6∨k=w.heap.size∨k=w.heap.size+1)∨∃a,A=some a∧n.lk.l≠[]∧k=a.block,_,_,rfl,xA,?_,?_⟩⟩
 ·rintro k ((rfl|rfl|rfl)|⟨a,ea,hne,rfl⟩)
  ·exact⟨Nat.lt_of_lt_of_le HP.o.inside mD.o.size,fun e=>e.elim IU.o HEP.o⟩
  ·exact⟨Nat.lt_of_lt_of_le HB.o.inside mD.o.size,fun e=>e.elim sQ.o HEB.o⟩
  ·exact⟨Nat.lt_of_lt_of_le HO.o.inside mD.o.size,fun e=>e.elim uV.o HEO.o⟩
  ·exact⟨Nat.lt_of_lt_of_le (Row.lt wM.o.1 ea hne) mD.o.size,fun e=>e.elim (wM.o.2 a ea hne) (wM.o.3 a ea hne)⟩
 ·intro W s1 E hK hs1;have hblk:∀{k:Nat} {cs:List Value},az w7 k cs->¬af b m s x.t k->W.heap[k]?=BZ.heap[k]?->az W k cs:=fun h1 h2 h3=>h1.stays (h3.trans (mD.o.far _ h1.inside h2).2)
  have hnd:dE E (af b m s1 x.t) W n A:=⟨Row.stays wM.o.1 fun a ea hne=>((hK _ (.inr ⟨a,ea,hne,rfl⟩)).1).trans (mD.o.far _ (Row.lt wM.o.1 ea hne) (wM.o.2 a ea hne)).2,fun a ea hne=>(hK _ (.inr ⟨a,ea,hne,rfl⟩)).2.1,fun a ea hne=>(hK _ (.inr ⟨a,ea,hne,rfl⟩)).2.2⟩
  refine(Gg hs1 HN.o (hblk HP.o IU.o (hK _ (.inl (.inl rfl))).1) (hblk HB.o sQ.o (hK _ (.inl (.inr (.inl rfl)))).1) (hblk HO.o uV.o (hK _ (.inl (.inr (.inr rfl)))).1) (hK _ (.inl (.inl rfl))).2.1 (hK _ (.inl (.inr (.inl rfl)))).2.1 (hK _ (.inl (.inr (.inr rfl)))).2.1 hnd HI.o HH.o).mono ?_;rintro e W' ⟨he,h5,h6⟩;refine⟨he,s1,?_,h6⟩;have e1:(⟨x.t,upd (upd x.nd o.i N) o.i n,upd x.ws o.i u⟩:aK)=x:=by rw[MB,←HNU.o.1,←HNU.o.2,jA,jA]
  rw[e1]at h5;exact h5
end
end
end Go.Proofs.YthmegninhpihkaaGreat
