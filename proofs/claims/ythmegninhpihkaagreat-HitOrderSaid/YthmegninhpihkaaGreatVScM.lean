import Derived.Test.YthmegninhpihkaaGreatVScK
set_option maxHeartbeats 16000000
set_option maxRecDepth 100000
open Go.Proofs.Tryz
namespace Go.Proofs.YthmegninhpihkaaGreat
section
open Go.RowKit fG gm aF Go.Maps
abbrev rE:TypeId:=93
abbrev qy:TypeId:=137
abbrev eY:TypeId:=91
theorem fD:prog.underlying eY=some (.map 3 qy):=underlying91
def Jq:List Value:=dZ ⟨⟨0,0,0,0,0,0⟩,0,false,false,⟨0,0,0,0⟩,⟨0,0,0,0,0,0,[]⟩⟩ none 0 ⟨0,0,0,0,0,0⟩
theorem iV(w:World):(zeroValue qy).run prog w=.ok (.agg Jq.toArray) w:=by kernel_rfl
structure aJ where
 t:T
 nd:Int->Nd
 ws:Int->Mp
def upd{α:Type}(f:Int->α)(i:Int)(y:α):Int->α:=fun j=>if j=i then y else f j
theorem upd_same{α:Type}(f:Int->α)(i:Int)(y:α):upd f i y i=y:=if_pos rfl
theorem upd_ne{α:Type}(f:Int->α){i j:Int}(h:j≠i)(y:α):upd f i y j=f j:=if_neg h
def af(b m:Nat)(s:Sh)(t:T):bF:=fun k=>k=m∨gq b s t k
def IY(b m:Nat)(s:Sh)(t:T)(E:bF):bF:=fun k=>af b m s t k∨E k
structure ZR where
 b:Int
 c:Int
structure ZZ where
 a:Int
 r:ZR
 E:bF
structure dD(E S:bF)(w:World)(n:Nd)(A:Option Addr):Prop where
 row:Row eW w A n.lk.l
 off:∀a,A=some a->n.lk.l≠[]->¬S a.block
 e:∀a,A=some a->n.lk.l≠[]->¬E a.block
def wH(E S:bF)(w:World)(v:Value)(n:Nd)(u:Mp):Prop:=∃A c,v=YI n A c u∧dD E S w n A
structure Fit(n:Nd):Prop where
 p:n.lk.p<4294967296
 l:∀z∈n.lk.l,z<4294967296
 len:n.lk.l.length<=300
theorem Row.stays{w w':World}{A:Option Addr}{l:List Nat}(h:Row eW w A l)(hb:∀a,A=some a->l≠[]->w'.heap[a.block]?=w.heap[a.block]?):Row eW w' A l:=fun hn=>by
 obtain⟨b,off,e,hc⟩:=h hn;have hne:l≠[]:=fun e=>by rw[e]at hn;exact absurd hn (by simp)
 refine⟨b,off,e,fun j hj=>?_⟩;have h1:=hb _ e hne;have h2:=hc j hj;rw[←h2];unfold World.cell?;simp only at h1 ⊢;rw[h1]
theorem Row.lt{w:World}{A:Option Addr}{l:List Nat}(h:Row eW w A l){a:Addr}(e:A=some a)(hne:l≠[]):a.block<w.heap.size:=by
 have hn:0<l.length:=List.length_pos_iff.2 hne;obtain⟨b,off,e2,hc⟩:=h hn;rw[e]at e2;obtain rfl:=Option.some.inj e2;exact World.block_lt_of_cell? w ⟨b,_,none⟩ (hc 0 hn)
section
variable {E S S':bF}{w w':World}{n:Nd}{A:Option Addr}{v:Value}{u:Mp}
theorem dD.turn(h:dD E S w n A)(ht:ae S S' w w'):dD E S' w' n A:=
 ⟨Row.stays h.1 fun a e hne=>(ht.far _ (Row.lt h.1 e hne) (h.2 a e hne)).2,fun a e hne=>(ht.far _ (Row.lt h.1 e hne) (h.2 a e hne)).1,h.3⟩
theorem wH.turn(h:wH E S w v n u)(ht:ae S S' w w'):wH E S' w' v n u:=by
 obtain⟨A,c,e,h⟩:=h;exact⟨A,c,e,h.turn ht⟩
end
structure ak(w:World)(g b m:Nat)(s:Sh)(Z:ZZ)(x:aJ):Prop where
 blk:au w g [.iface 88 (.pointer (some ⟨b,0,none⟩)),.pointer (some ⟨b,0,none⟩),.int .i64 Z.1,.int .i64 Z.2.1,.int .i64 Z.2.2,.map (some m)] rE
 tree:aX w b s x.t
 map:∃es,VM w m es∧(∀i,omap.look es i≠none->has x.t i=true)∧∀i,has x.t i=true->∃v,omap.look es i=some v∧wH Z.3 (af b m s x.t) w v (x.nd i) (x.ws i)
 jh:¬af b m s x.t g
 qQ:¬gq b s x.t m
 old:∀k,Z.3 k->k<w.heap.size∧¬af b m s x.t k∧k≠g
theorem Eb(t:T):(ids t).length=t.length:=by simp[ids]
theorem Hf{es:LV}{t:T}(hr:omap.mP lt es)(h:∀i,omap.look es i≠none->has t i=true):es.length<=t.length+1:=by
 have hn:(es.map (·.1)).Nodup:=by
  refine List.Pairwise.map _ (fun a b hab=>?_) hr;exact ord.ne hab
 have:=dK (m:=0::ids t) hn fun x hx=>by
  obtain⟨p,hp,rfl⟩:=List.mem_map.1 hx;have h1:=h p.1 (by rw[omap.mP.xh ord hr hp];simp);rcases ah.1 h1 with e|e
  ·exact List.mem_cons.2 (.inl e)
  ·exact List.mem_cons_of_mem _ e
 rw[List.length_map,List.length_cons,Eb]at this;exact this
section
variable {w w':World}{g b m:Nat}{s:Sh}{Z:ZZ}{x:aJ}
theorem ak.inside(h:ak w g b m s Z x):∀k,af b m s x.t k->k<w.heap.size:=by
 rintro k (rfl|hk)
 ·obtain⟨es,hm,_⟩:=h.map;exact hm.inside
 ·exact h.tree.raw.inside k hk
theorem ak.top(h:ak w g b m s Z x):(w.cell? ⟨g,0,none⟩=some (.iface 88 (.pointer (some ⟨b,0,none⟩)))∧w.cell? ⟨g,1,none⟩=some (.pointer (some ⟨b,0,none⟩))∧w.cell? ⟨g,2,none⟩=some (.int .i64 Z.1)∧w.cell? ⟨g,3,none⟩=some (.int .i64 Z.2.1)∧w.cell? ⟨g,4,none⟩=some (.int .i64 Z.2.2)∧w.cell? ⟨g,5,none⟩=some (.map (some m)))∧g<w.heap.size:=
 have h1:=h.blk.blk
 ⟨⟨h1.cell 0,h1.cell 1,h1.cell 2,h1.cell 3,h1.cell 4,h1.cell 5⟩,h1.inside⟩
theorem ak.stays(h:ak w g b m s Z x)(ht:ae (af b m s x.t) (af b m s x.t) w w')(hn:∀k,af b m s x.t k->w'.heap[k]?=w.heap[k]?):ak w' g b m s Z x:=by
 obtain⟨es,hm,h1,h2⟩:=h.map;refine⟨h.blk.stays (ht.far g h.blk.inside h.jh).2,h.tree.stays fun k hk=>hn k (.inr hk),⟨es,hm.stays (hn m (.inl rfl)),h1,fun i hi=>?_⟩,h.jh,h.qQ,fun k hk=>⟨Nat.lt_of_lt_of_le (h.old k hk).1 ht.size,(h.old k hk).2⟩⟩;obtain⟨v,e,hv⟩:=h2 i hi;exact⟨v,e,hv.turn ht⟩
theorem ak.below(h:ak w g b m s Z x)(hb:bz w w'):ak w' g b m s Z x:=h.stays (ae.below hb) fun k hk=>hb.block k (h.inside k hk)
theorem ak.look(h:ak w g b m s Z x){i:Int}(hi:I64 i)(hh:has x.t i=true):∃A c,(Instr.lookup eY (.map (some m)) (.int .i64 i) false).run prog w=.ok (YI (x.nd i) A c (x.ws i)) w ∧
  (Instr.lookup eY (.map (some m)) (.int .i64 i) true).run prog w=.ok (.tuple #[YI (x.nd i) A c (x.ws i),.bool true]) w∧dD Z.3 (af b m s x.t) w (x.nd i) A:=by
 obtain⟨es,hm,-,h2⟩:=h.map;obtain⟨v,e,A,c,rfl,hv⟩:=h2 i hh;have h3:=hm.lookup fD (iV w) hi;have h4:=hm.look_ok fD (iV w) hi;rw[e]at h3 h4;exact⟨A,c,h3,h4,hv⟩
theorem ak.fB(h:ak w g b m s Z x){i:Int}(hi:I64 i)(hh:¬has x.t i=true):(Instr.lookup eY (.map (some m)) (.int .i64 i) false).run prog w=.ok (.agg Jq.toArray) w ∧
  (Instr.lookup eY (.map (some m)) (.int .i64 i) true).run prog w=.ok (.tuple #[.agg Jq.toArray,.bool false]) w:=by
 obtain⟨es,hm,h1,-⟩:=h.map
 have e:omap.look es i=none:=by
  cases e:omap.look es i with
  |none=>rfl
  |some v=>exact absurd (h1 i (by rw[e];simp)) hh
 have h3:=hm.lookup fD (iV w) hi;have h4:=hm.look_ok fD (iV w) hi;rw[e]at h3 h4;exact⟨h3,h4⟩
theorem ae.rG{S:bF}{w w':World}{m:Nat}(hg:w.grownBy w' (some m))(hm:S m):ae S S w w':=ae.grown hg fun k e=>by
 obtain rfl:=Option.some.inj e;exact hm
theorem ak.store(h:ak w g b m s Z x)(hn:x.t.length<=100000){i:Int}(hi:I64 i)(hh:has x.t i=true){v:Value}{n:Nd}{u:Mp}(hv:wH Z.3 (af b m s x.t) w v n u) :
  ∃w',(Instr.mapUpdate eY (.map (some m)) (.int .i64 i) v).run prog w=.ok () w'∧ak w' g b m s Z ⟨x.t,upd x.nd i n,upd x.ws i u⟩∧ae (af b m s x.t) (af b m s x.t) w w':=by
 obtain⟨es,hm,h1,h2⟩:=h.map;have hle:=Hf hm.rises h1;obtain⟨w',hrun,hm',hg⟩:=hm.store fD hi v (by have:=iF i v es;omega);have ht:ae (af b m s x.t) (af b m s x.t) w w':=ae.rG hg (.inl rfl);refine⟨w',hrun,⟨h.blk.stays (ht.far g h.blk.inside h.jh).2,h.tree.stays fun k hk=>hg.block k (h.tree.raw.inside k hk) fun e=>?_,⟨_,hm',fun j hj=>?_,fun j hj=>?_⟩,h.jh,h.qQ,fun k hk=>⟨Nat.lt_of_lt_of_le (h.old k hk).1 ht.size,(h.old k hk).2⟩⟩,ht⟩
 ·exact h.qQ (Option.some.inj e ▸ hk)
 ·rw[omap.dw]at hj;by_cases e:j=i
  ·rw[e];exact hh
  ·rw[if_neg e]at hj;exact h1 j hj
 ·rw[omap.dw];by_cases e:j=i
  ·subst e;rw[if_pos rfl];exact⟨v,rfl,by simp only[upd_same];exact hv.turn ht⟩
  ·rw[if_neg e];obtain⟨v',e',hv'⟩:=h2 j hj;exact⟨v',e',by simp only[upd_ne _ e];exact hv'.turn ht⟩
structure aJ.like(x y:aJ):Prop where
 ok:Ok y.t
 kids:∀q,aF.kids x.t q=aF.kids y.t q
 nd:∀i,has x.t i=true->y.nd i=x.nd i
 ws:∀i,has x.t i=true->y.ws i=x.ws i
theorem aX.alike{w:World}{b:Nat}{s:Sh}{t u:T}(h:aX w b s u)(ok:Ok t)(al:∀q,kids u q=kids t q):aX w b s t:=by
 have h1:eH u=eH t:=funext fun i=>by show(has u i=true)=(has t i=true);rw[iq al]
 have h3:kids u=kids t:=funext al;have h2:Bi u=Bi t:=funext fun i=>by unfold Bi;rw[Dq h.ok ok al]
 have hr:Raw w b s (eH u) (Bi u) (kids u):=h.raw;rw[h1,h2,h3]at hr;exact⟨hr,ok⟩
theorem af.alike{b m:Nat}{s:Sh}{t u:T}(al:∀q,kids u q=kids t q):af b m s u=af b m s t:=by
 have h1:eH u=eH t:=funext fun i=>by show(has u i=true)=(has t i=true);rw[iq al]
 unfold af gq;rw[h1]
theorem ak.like(h:ak w g b m s Z x){y:aJ}(l:x.like y):ak w g b m s Z y:=by
 obtain⟨es,hm,h1,h2⟩:=h.map;have e:=af.alike (b:=b) (m:=m) (s:=s) l.kids;refine⟨h.blk,h.tree.alike l.ok l.kids,⟨es,hm,fun i hi=>?_,fun i hi=>?_⟩,by rw[←e];exact h.jh,fun hk=>h.qQ ?_,fun k hk=>⟨(h.old k hk).1,by rw[←e];exact(h.old k hk).2.1,(h.old k hk).2.2⟩⟩
 ·rw[←iq l.kids];exact h1 i hi
 ·rw[←iq l.kids]at hi;rw[←e,l.nd i hi,l.ws i hi];exact h2 i hi
 ·have h1:eH x.t=eH y.t:=funext fun i=>by show(has x.t i=true)=(has y.t i=true);rw[iq l.kids]
  unfold gq at hk ⊢;rw[h1];exact hk
end
def uD(g b m:Nat)(Z:ZZ)(v:Value)(w:World)(S:bF)(x' x:aJ):Prop:=
 ∃(K:bF) (f:Nat) (cs:Array Value),v=.func (.func f) #[] cs∧Enters prog f∧(∀k,K k->k<w.heap.size∧¬S k) ∧
  ∀(W:World) (s1:Sh) (E:bF),(∀k,K k->W.heap[k]?=w.heap[k]?∧¬af b m s1 x'.t k∧¬E k)->ak W g b m s1 ⟨Z.1,Z.2,E⟩ x' ->
   Calls prog f cs W fun e W'=>(∃r,e=.returned r)∧∃s2,ak W' g b m s2 ⟨Z.1,Z.2,E⟩ x∧ae (af b m s1 x'.t) (af b m s2 x.t) W W'
theorem uD.turn{g b m:Nat}{Z:ZZ}{v:Value}{w w':World}{S S':bF}{x' x:aJ}(h:uD g b m Z v w S x' x)(ht:ae S S' w w'):uD g b m Z v w' S' x' x:=by
 obtain⟨K,f,cs,e,he,hk,hc⟩:=h;refine⟨K,f,cs,e,he,fun k hK=>⟨Nat.lt_of_lt_of_le (hk k hK).1 ht.size,(ht.far k (hk k hK).1 (hk k hK).2).1⟩,fun W s1 E hW hs=>hc W s1 E (fun k hK=>⟨(hW k hK).1.trans (ht.far k (hk k hK).1 (hk k hK).2).2,(hW k hK).2⟩) hs⟩
def VX(g b m:Nat)(Z:ZZ)(s:Sh)(x:aJ)(r:aJ×Int)(w:World)(e:Ending)(w':World):Prop:=
 ∃fv s',e=.returned (.tuple #[fv,.int .i64 r.2])∧ak w' g b m s' Z r.1∧ae (af b m s x.t) (af b m s' r.1.t) w w'∧(r.2=0->uD g b m Z fv w' (IY b m s' r.1.t Z.3) r.1 x)
theorem Gh{w:World}{o:dH}{Ao An:Option Addr}{n:Nd}(h1:Row eW w Ao o.lk.l)(h2:Row eW w An n.lk.l):Row eW w (aW o Ao An) (bT n o).lk.l:=by
 unfold aW bT;by_cases h7:o.k=7
 ·rw[if_pos h7,if_neg (by omega),if_neg (by omega),if_neg (by omega),if_pos h7];exact h1
 ·rw[if_neg h7,if_neg h7];by_cases h4:o.k=4
  ·rw[if_pos h4];exact h2
  rw[if_neg h4];by_cases h5:o.k=5
  ·rw[if_pos h5];exact h2
  rw[if_neg h5];by_cases h6:o.k=6
  ·rw[if_pos h6];exact h2
  rw[if_neg h6];by_cases h8:o.k=8
  ·rw[if_pos h8];exact h2
  rw[if_neg h8];exact h2
theorem tC{o:dH}{n:Nd}(h1:Fit { n with lk:=o.lk })(h2:Fit n):Fit (bT n o):=by
 unfold bT;by_cases h4:o.k=4
 ·rw[if_pos h4];exact⟨h2.p,h2.l,h2.len⟩
 rw[if_neg h4];by_cases h5:o.k=5
 ·rw[if_pos h5];exact⟨h2.p,h2.l,h2.len⟩
 rw[if_neg h5];by_cases h6:o.k=6
 ·rw[if_pos h6];exact⟨h2.p,h2.l,h2.len⟩
 rw[if_neg h6];by_cases h7:o.k=7
 ·rw[if_pos h7];exact h1
 rw[if_neg h7];by_cases h8:o.k=8
 ·rw[if_pos h8];exact⟨h2.p,h2.l,h2.len⟩
 rw[if_neg h8];exact h2
end
section
open Go.RowKit fG gm aF Go.Maps
theorem kV(n:Nd)(A:Option Addr)(c:Nat)(u:Mp)(w:World):(Instr.build qy #[(0,.agg (n.cs A c).toArray),(1,.agg u.cs.toArray)]).run prog w=.ok (.agg (dZ n A c u).toArray) w:=by kernel_rfl
theorem zQ(n:Nd)(A:Option Addr)(c:Nat)(u:Mp)(w:World):(Instr.field qy (.agg (dZ n A c u).toArray) 0).run prog w=.ok (.agg (n.cs A c).toArray) w:=by kernel_rfl
theorem wp_build{P:Program}{op:Oper}{a:Act}{w:World}{K:Act->World->Prop}{Q:Exit->Act->World->Prop}(t:TypeId)(parts:Array (Nat×Operand))(ho:op.op=.build t parts){vals:Array (Nat×Value)}(hv:(parts.map fun q=>(q.1,a.eval q.2))=vals){v:Value}(hrun:(Instr.build t vals).run P w=.ok v w)
  (h:K (a.put op.dst v) w):op.wp P a w K Q:=by
 subst hv;unfold Oper.wp execOp;simp only[ho,Sem.run_bind,Result.andThen_ok,hrun];exact h
theorem yV(w:World):Calls prog 50 #[] w (aZ (.agg (Nd.plain.cs none 0).toArray) w):=OC w
theorem Uh(n:Nd)(A:Option Addr)(c:Nat)(hf:Fit n)(w:World)(hr:Row eW w A n.lk.l):Calls prog 125 #[.agg (n.cs A c).toArray] w (aZ (.int .i64 n.chk) w):=
 Gq n.m n.op n.hi n.cl n.r n.lk.k n.lk.W n.lk.H n.lk.p n.lk.iw n.lk.ih A n.lk.l c hf.p hf.l (by have:=hf.len;unfold maxLen;omega) w hr
def VQ(n:Nd)(E S:bF)(w:World)(e:Ending)(w':World):Prop:=∃A c,e=.returned (.agg (n.cs A c).toArray)∧dD E S w' n A∧bz w w'∧∀a,A=some a->n.lk.l≠[]->w.heap.size<=a.block∧∀j,w'.frozen? ⟨a.block,j,none⟩=false
theorem Nr(n:Nd)(A:Option Addr)(c:Nat)(hf:n.lk.l.length<=20000000)(w:World)(hr:Row eW w A n.lk.l)(E S:bF)(hE:∀k,E k->k<w.heap.size)(hS:∀k,S k->k<w.heap.size):Calls prog 46 #[.agg (n.cs A c).toArray] w (VQ n E S w):=by
 refine(Jv n.m n.op n.hi n.cl n.r n.lk.k n.lk.W n.lk.H n.lk.p n.lk.iw n.lk.ih A n.lk.l c w hr hf).mono ?_;rintro e w' ⟨A9,c9,rfl,hp,hb⟩
 have hq:∀a,A9=some a->n.lk.l≠[]->w.heap.size<=a.block∧∀j,w'.frozen? ⟨a.block,j,none⟩=false:=fun a e hne=>by
  obtain⟨b,off,e2,hc⟩:=hp.1 (List.length_pos_iff.2 hne);have h1:=hp.2.1 b off e2;rw[e2]at e;obtain rfl:=Option.some.inj e;exact h1
 exact⟨A9,c9,rfl,⟨hp.1,fun a e hne hs=>by have:=hq a e hne;have:=hS _ hs;omega,fun a e hne hs=>by have:=hq a e hne;have:=hE _ hs;omega⟩,hb,hq⟩
structure ScJ(g b m:Nat)(s:Sh)(Z:ZZ)(x x':aJ)(d:Bool)(w:World):Prop where
 no:d=false->ak w g b m s Z x
 yes:d=true->ak w g b m s Z x'
theorem ScJ.below{g b m:Nat}{s:Sh}{Z:ZZ}{x x':aJ}{d:Bool}{w w':World}(h:ScJ g b m s Z x x' d w)(hb:bz w w'):ScJ g b m s Z x x' d w':=
 ⟨fun e=>(h.no e).below hb,fun e=>(h.yes e).below hb⟩
theorem au.off{S S':bF}{w w':World}{k:Nat}{cs:List Value}{T:TypeId}(h:au w k cs T)(hn:¬S k)(ht:ae S S' w w'):au w' k cs T:=h.stays (ht.far k h.inside hn).2
theorem az.off{S S':bF}{w w':World}{k:Nat}{cs:List Value}(h:az w k cs)(hn:¬S k)(ht:ae S S' w w'):az w' k cs:=h.stays (ht.far k h.inside hn).2
section
variable {w:World}{g b m:Nat}{s:Sh}{Z:ZZ}{x:aJ}
theorem FX(h:ak w g b m s Z x)(hn:x.t.length<=100000){kw kb ko:Nat}{n:Nd}{A:Option Addr}{c:Nat}{u:Mp}{o:dH}{Ao:Option Addr}{co:Nat}(hw:az w kw (dZ n A c u))(hb:az w kb [.pointer (some ⟨g,0,none⟩)])(ho:az w ko (o.cs Ao co))
  (h1:¬af b m s x.t kw) (h2:¬af b m s x.t kb) (h3:¬af b m s x.t ko) (hp:dD Z.3 (af b m s x.t) w n A) (hi:I64 o.i) (hh:has x.t o.i=true) :
  Calls prog 126 (Vt kw kb ko).toArray w fun e w'=>(∃r,e=.returned r)∧ak w' g b m s Z ⟨x.t,upd x.nd o.i n,upd x.ws o.i u⟩∧ae (af b m s x.t) (af b m s x.t) w w':=by
 have HS:=Hd h;have HN:=Hd hn;have HB:=Hd hb;have HO:=Hd ho;have HW:=Hd hw;have sJ:=Hd h2;have uQ:=Hd h3;have HNW:=Hd h1;have wQ:=Hd h.blk;have wK:=Hd h.jh;have HI:=Hd hi;have HH:=Hd hh
 have HP:Hid (wH Z.3 (af b m s x.t) w (.agg (dZ n A c u).toArray) n u):=⟨A,c,rfl,hp⟩
 clear h hn hw hb ho h1 h2 h3 hp hi hh;go_enter func126,ntmps126
 go_upto_region 0 with(fail)
 refine wR (ae (af b m s x.t) (af b m s x.t)) (fun L wx=>ScJ g b m s Z x ⟨x.t,upd x.nd o.i n,upd x.ws o.i u⟩ (L 7) wx) [3,4,5,6,7,8,9] (fun _=>ae.refl _ _) (fun _ _ _ h k=>h.trans k) (fun i=>match i with
  |0|1=>rp g 0
  |2=>rp g 5
  |3=>rV (.map (some m))
  |4=>rp ko 1
  |5=>rV (.int .i64 o.i)
  |6=>rV (.agg (dZ n A c u).toArray)
  |_=>ra) (ae.below bR.drew) (⟨fun _=>HS.o.below bR.drew,nofun⟩) ⟨?_,?_,?_,?_,?_,?_,?_,?_,trivial⟩ ?_
 any_goals (first|refine zp fun L a w1 hh=>?_|fail)
 have h1:=hh.p 1 kb 0;have ⟨c0,i0⟩:=(HB.o.off sJ.o hh.rel).ci 0 rfl;rotate_left;have h3:=rq (hh.d 0 3);rotate_left;have h4:=rq (hh.d 1 4);have i0:=((au.off wQ.o wK.o hh.rel).blk).inside;rotate_left;have h5:=rq (hh.d 2 5);have ⟨c0,i0⟩:=((au.off wQ.o wK.o hh.rel).blk).ci 5 rfl;rotate_left;have h2:=hh.p 2 ko 0;have i0:=(HO.o.off uQ.o hh.rel).inside;rotate_left;have h7:=rq (hh.d 4 7);have ⟨c0,i0⟩:=(HO.o.off uQ.o hh.rel).ci 1 rfl;rotate_left
 ·have h0:=hh.p 0 kw 0;have hB:=Hd (HW.o.off HNW.o hh.rel);have hJ:=Hd hh.st;exact aK 137 _ rfl kw 0 (by simpa[go_sem]using h0) _ hB.o (dZ n A c u) rfl _ underlying137 rfl ag ⟨_,rfl,ae.refl _ _,rfl,hJ.o⟩
 ·have h6:=rq (hh.d 3 6);have h8:=rq (hh.d 5 8);have h9:=rq (hh.d 6 9);obtain⟨w9,hrun,hs9,lu⟩:=(hh.st.no hh.un).store HN.o HI.o HH.o (HP.o.turn hh.rel);have Pn:=Hd hs9;have Pm:=Hd lu;clear hh hs9 lu;go_simp;exact⟨Pm.o,⟨undef,trivial⟩,nofun,fun _=>Pn.o⟩
 any_goals (have hJ:=hh.j;clear hh;go_simp;exact⟨_,rfl,ae.refl _ _,rfl,hJ.o⟩)
 intro L w4 val hL hJ hR hv;have HR4:=Hd hR;have QT:=Hd (hJ.yes (hL 7 (by decide)));clear hv hL hJ hR;simp only[regs.aG,List.map_cons,List.map_nil];simp only[Act.put,List.setIfInBounds_toArray,List.set_cons_zero,List.set_cons_succ]
 skip
 go_wp2_with (fail)
 go_end0
 exact⟨⟨_,rfl⟩,QT.o,HR4.o⟩
def kQ(x:aJ)(o:dH):aJ×Int:=
 if has x.t o.i=false then (x,30) else if (bT Nd.plain o).chk≠0 then (x,(bT Nd.plain o).chk) else (⟨x.t,upd x.nd o.i (bT (x.nd o.i) o),x.ws⟩,0)
theorem jy{α:Type}(f:Int->α)(i:Int):upd f i (f i)=f:=by
 funext j
 unfold upd;by_cases e:j=i
 ·rw[if_pos e,e]
 ·rw[if_neg e]
theorem LM{α:Type}(f:Int->α)(i:Int)(y z:α):upd (upd f i y) i z=upd f i z:=by
 funext j
 unfold upd;by_cases e:j=i
 ·rw[if_pos e,if_pos e]
 ·rw[if_neg e,if_neg e,if_neg e]
theorem ak.zn(h:ak w g b m s Z x){i:Int}(hi:I64 i)(hh:has x.t i=true):∃A c,∀W,bz w W->(Instr.lookup eY (.map (some m)) (.int .i64 i) false).run prog W=.ok (.agg (dZ (x.nd i) A c (x.ws i)).toArray) W ∧
  (Instr.lookup eY (.map (some m)) (.int .i64 i) true).run prog W=.ok (.tuple #[.agg (dZ (x.nd i) A c (x.ws i)).toArray,.bool true]) W∧dD Z.3 (af b m s x.t) W (x.nd i) A:=by
 obtain⟨es,hm,-,h2⟩:=h.map;obtain⟨v,e,A,c,rfl,hv⟩:=h2 i hh;refine⟨A,c,fun W hb=>?_⟩;have h3:=(hm.below hb).lookup fD (iV W) hi;have h4:=(hm.below hb).look_ok fD (iV W) hi;rw[e]at h3 h4;exact⟨h3,h4,hv.turn (ae.below hb)⟩
theorem YL(o:dH)(Ao:Option Addr)(co:Nat)(n:Nd)(An:Option Addr)(cn:Nat)(w:World) :
  Calls prog 124 #[.agg (o.cs Ao co).toArray,.agg (n.cs An cn).toArray] w (aZ (.agg ((bT n o).cs (aW o Ao An) (aW o co cn)).toArray) w):=on_any o Ao co n An cn w
theorem LY{n:Nd}{o:dH}(h:o.k≠7):(bT n o).lk=n.lk:=by
 unfold bT;by_cases h4:o.k=4
 ·rw[if_pos h4]
 rw[if_neg h4];by_cases h5:o.k=5
 ·rw[if_pos h5]
 rw[if_neg h5];by_cases h6:o.k=6
 ·rw[if_pos h6]
 rw[if_neg h6,if_neg h];by_cases h8:o.k=8
 ·rw[if_pos h8]
 rw[if_neg h8]
theorem dD.lk{E S:bF}{w:World}{n n':Nd}{A:Option Addr}(h:dD E S w n A)(e:n'.lk=n.lk):dD E S w n' A:=
 ⟨by rw[e];exact h.1,by rw[e];exact h.2,by rw[e];exact h.3⟩
theorem xx:Enters prog 126:=enters_of func126 ag rfl
theorem vU:Fit Nd.plain:=⟨by decide,(by intro z hz;cases hz),by decide⟩
theorem pG{w:World}{n:Nd}(h:n.lk.l=[])(A:Option Addr):Row eW w A n.lk.l:=by
 rw[h];intro hn;exact absurd hn (by simp)
theorem set_any(h:ak w g b m s Z x)(hn:x.t.length<=100000)(o:dH)(Ao:Option Addr)(co:Nat)(hr:Row eW w Ao o.lk.l)(hfo:Fit { Nd.plain with lk:=o.lk })(hfx:∀i,has x.t i=true->Fit (x.nd i))(hi:I64 o.i) :
  Calls prog 98 #[.pointer (some ⟨g,0,none⟩),o.v Ao co] w (VX g b m Z s x (kQ x o) w):=by
 unfold dH.v;have HB0:Hid (bz w ((w.alloc (.cells #[.pointer (some ⟨g,0,none⟩)] 25)).alloc (.cells (o.cs Ao co).toArray 85))):=(bR.alloc nR _).alloc (by simp) _;have Yg:Hid (az ((w.alloc (.cells #[.pointer (some ⟨g,0,none⟩)] 25)).alloc (.cells (o.cs Ao co).toArray 85)) w.heap.size [.pointer (some ⟨g,0,none⟩)]):=(aA w [.pointer (some ⟨g,0,none⟩)] _).alloc _;have a3a:Hid (az ((w.alloc (.cells #[.pointer (some ⟨g,0,none⟩)] 25)).alloc (.cells (o.cs Ao co).toArray 85)) (w.heap.size+1) (o.cs Ao co)):=aY (w.alloc _) _ (by simp) (o.cs Ao co) _
 have uP:Hid (ak ((w.alloc (.cells #[.pointer (some ⟨g,0,none⟩)] 25)).alloc (.cells (o.cs Ao co).toArray 85)) g b m s Z x):=h.below HB0.o;have kG:Hid (∀k,af b m s x.t k->k<w.heap.size):=h.inside;have IA:Hid (∀k,Z.3 k->k<w.heap.size):=fun k hk=>(h.old k hk).1;have HR0:Hid (Row eW ((w.alloc (.cells #[.pointer (some ⟨g,0,none⟩)] 25)).alloc (.cells (o.cs Ao co).toArray 85)) Ao o.lk.l):=Row.below hr HB0.o;have iL:Hid (((w.alloc (.cells #[.pointer (some ⟨g,0,none⟩)] 25)).alloc (.cells (o.cs Ao co).toArray 85)).heap.size=w.heap.size+2):=by show _=_;simp
 have HN:=Hd hn;have HFO:=Hd hfo;have Ja:=Hd hfx;have HI:=Hd hi
 obtain⟨R,hR⟩:=aC (kQ x o)
 have HR:=Hd hR;rw[hR];clear hR h hn hr hfo hfx hi;go_enter func98,ntmps98
 go_upto_region 1 with(fail)
 generalize ((w.alloc (.cells #[.pointer (some ⟨g,0,none⟩)] 25)).alloc (.cells (o.cs Ao co).toArray 85))=wz at*;have FS:Hid (∀W,bz wz W->ak W g b m s Z x):=fun W hb=>uP.o.below hb;have FB:Hid (∀W,bz wz W->az W w.heap.size [.pointer (some ⟨g,0,none⟩)]):=fun W hb=>Yg.o.below' hb;have FO:Hid (∀W,bz wz W->az W (w.heap.size+1) (o.cs Ao co)):=fun W hb=>a3a.o.below' hb;by_cases hh:¬has x.t o.i=true
 ·have HH:=Hd hh;have HE:Hid (R=(x,30)):=by show _=_;rw[←HR.o];unfold kQ;rw[if_pos (by simpa using hh)]
  clear hh
  refine QC (Below wz.heap.size) (fun L V wx=>JN wz.heap.size [] (Vi) (Jq) (L 10) (L 11) (V 6) wx) [11,12,13,14,15,16,17,10,18,19,6,7] (fun _=>bR) (fun _ _ _ h k=>h.trans k) (fun i=>match i with
   |0|1=>rp g 0
   |2=>rp g 5
   |3=>rV (.map (some m))
   |4=>rp (w.heap.size+1) 1
   |5=>rV (.int .i64 o.i)
   |6|7=>rV (.tuple #[.agg (Jq).toArray,.bool false])
   |8=>rV (.agg (Jq).toArray)
   |9|12=>rV (.bool false)
   |_=>ra) (bR.drew) (JN.start (old:=[]) trivial) ⟨?_,?_,?_,?_,?_,?_,?_,?_,?_,?_,?_,?_,?_,trivial⟩ ?_
  any_goals (first|refine fK fun L a w1 hh=>?_|fail)
  have h2:=hh.p 2 w.heap.size 0;have ⟨c0,i0⟩:=(FB.o _ hh.rel).ci 0 rfl;rotate_left;have h11:=rq (hh.d 0 11);rotate_left;have h12:=rq (hh.d 1 12);have i0:=((FS.o _ hh.rel).blk.blk).inside;rotate_left;have h13:=rq (hh.d 2 13);have ⟨c0,i0⟩:=((FS.o _ hh.rel).blk.blk).ci 5 rfl;rotate_left;have h3:=hh.p 3 ((w.heap.size+1)) 0;have i0:=(FO.o _ hh.rel).inside;rotate_left;have h15:=rq (hh.d 4 15);have ⟨c0,i0⟩:=(FO.o _ hh.rel).ci 1 rfl;rotate_left;have xI:=rq (hh.d 3 14);have h16:=rq (hh.d 5 16);have hlk:=((FS.o _ hh.rel).fB HI.o HH.o).2;rotate_left;have h17:=rq (hh.d 6 17)
  rotate_left;have h10:=rq (hh.d 7 10);rotate_left;have h10:=rq (hh.d 7 10);rotate_left
  ·have hJ:=Hd hh.st;have hsz:=Hd hh.size;have hun:=Hd hh.un;clear hh;go_simp;exact⟨_,rfl,bR.alloc hJ.o.1.2.1 _,trivial,JN.new hJ.o hun.o (bM.bI (by rw[hsz.o];simp))⟩
  ·have h18:=rq (hh.d 8 18);have hup:=hh.up 10 ag;obtain⟨g9,vO,mZ,gK⟩:=hh.st.2.1 hup;have h6:a.tmps[6]?.getD undef=.pointer (some ⟨g9,0,none⟩):=rq (vO);rw[hh.un]at gK;have hJ:=Hd hh.st;have hun:=Hd hh.un;refine dn 137 _ _ rfl g9 0 (by simpa[go_sem]using h6) (Jq) (by simpa[go_sem]using h18) _ gK (nE rfl) ag (by rfl) ?_;intro w9 ng BD;have hP:=hJ.o.Og hup hun.o vO ng BD rfl;exact⟨undef,rfl,hP.2,trivial,hP.1⟩
  have h19:=rq (hh.d 9 19);rotate_left
  any_goals (have hJ:=hh.j;clear hh;go_simp;exact⟨_,rfl,bR,rfl,JN.slots hJ.o sn⟩)
  intro L w4 val hL hJ hR hv;have h7:val 7=.bool false:=hv 12 7 ag;have HR4:=Hd hR;obtain⟨g6,e6,BC,Y0⟩:=hJ.2.1 (hL 10 (by decide));clear hv hL hJ hR;simp only[regs.aG,List.map_cons,List.map_nil,h7];simp only[Act.put,List.setIfInBounds_toArray,List.set_cons_zero,List.set_cons_succ];clear h7;generalize val 11=v11,val 12=v12,val 13=v13,val 14=v14,val 15=v15,val 16=v16,val 17=v17,val 10=v10,val 18=v18,val 19=v19 at*;go_wp2_with (fail);go_ret2;rw[HE.o];exact⟨_,s,rfl,FS.o _ HR4.o,ae.below (HB0.o.trans (HR4.o.mono HB0.o.size)),fun e=>nomatch e⟩
 have hh2:has x.t o.i=true:=by simpa using hh
 have HH:=Hd hh2;have lZ:Hid (R=if (bT Nd.plain o).chk≠0 then (x,(bT Nd.plain o).chk) else (⟨x.t,upd x.nd o.i (bT (x.nd o.i) o),x.ws⟩,0)):=by show _=_;rw[←HR.o];unfold kQ;rw[if_neg (by rw[hh2];simp)]
 have Wi:=Hd (Ja.o _ hh2);obtain⟨A,c,hlk⟩:=uP.o.zn HI.o hh2;have FL:=Hd hlk;clear hh hh2 hlk Ja HR
 obtain⟨n,hn⟩:=aC (x.nd o.i)
 obtain⟨u,hu⟩:=aC (x.ws o.i)
 have HNU:=Hd (And.intro hn hu);rw[hn]at Wi lZ;rw[hn,hu]at FL;clear hn hu
 refine QC (Below wz.heap.size) (fun L V wx=>JN wz.heap.size [] (Vi) (dZ n A c u) (L 10) (L 11) (V 6) wx) [11,12,13,14,15,16,17,10,18,19,6,7] (fun _=>bR) (fun _ _ _ h k=>h.trans k) (fun i=>match i with
  |0|1=>rp g 0
  |2=>rp g 5
  |3=>rV (.map (some m))
  |4=>rp (w.heap.size+1) 1
  |5=>rV (.int .i64 o.i)
  |6|7=>rV (.tuple #[.agg (dZ n A c u).toArray,.bool true])
  |8=>rV (.agg (dZ n A c u).toArray)
  |9|12=>rT
  |_=>ra) (bR.drew) (JN.start (old:=[]) trivial) ⟨?_,?_,?_,?_,?_,?_,?_,?_,?_,?_,?_,?_,?_,trivial⟩ ?_
 any_goals (first|refine fK fun L a w1 hh=>?_|fail)
 have h2:=hh.p 2 w.heap.size 0;have ⟨c0,i0⟩:=(FB.o _ hh.rel).ci 0 rfl;rotate_left;have h11:=rq (hh.d 0 11);rotate_left;have h12:=rq (hh.d 1 12);have i0:=((FS.o _ hh.rel).blk.blk).inside;rotate_left;have h13:=rq (hh.d 2 13);have ⟨c0,i0⟩:=((FS.o _ hh.rel).blk.blk).ci 5 rfl;rotate_left;have h3:=hh.p 3 ((w.heap.size+1)) 0;have i0:=(FO.o _ hh.rel).inside;rotate_left;have h15:=rq (hh.d 4 15);have ⟨c0,i0⟩:=(FO.o _ hh.rel).ci 1 rfl;rotate_left;have xI:=rq (hh.d 3 14);have h16:=rq (hh.d 5 16);have hlk:=(FL.o _ hh.rel).2.1;rotate_left;have h17:=rq (hh.d 6 17);rotate_left
 have h10:=rq (hh.d 7 10);rotate_left;have h10:=rq (hh.d 7 10);rotate_left
 ·have hJ:=Hd hh.st;have hsz:=Hd hh.size;have hun:=Hd hh.un;clear hh;go_simp;exact⟨_,rfl,bR.alloc hJ.o.1.2.1 _,trivial,JN.new hJ.o hun.o (bM.bI (by rw[hsz.o];simp))⟩
 ·have h18:=rq (hh.d 8 18);have hup:=hh.up 10 ag;obtain⟨g9,vO,mZ,gK⟩:=hh.st.2.1 hup;have h6:a.tmps[6]?.getD undef=.pointer (some ⟨g9,0,none⟩):=rq (vO);rw[hh.un]at gK;have hJ:=Hd hh.st;have hun:=Hd hh.un;refine dn 137 _ _ rfl g9 0 (by simpa[go_sem]using h6) (dZ n A c u) (by simpa[go_sem]using h18) _ gK (nE rfl) ag (by rfl) ?_;intro w9 ng BD;have hP:=hJ.o.Og hup hun.o vO ng BD rfl;exact⟨undef,rfl,hP.2,trivial,hP.1⟩
 have h19:=rq (hh.d 9 19);rotate_left
 any_goals (have hJ:=hh.j;clear hh;go_simp;exact⟨_,rfl,bR,rfl,JN.slots hJ.o sn⟩)
 intro L w4 val hL hJ hR hv;have h7:val 7=.bool true:=hv 12 7 ag;have HR4:=Hd hR;obtain⟨g6,e6,BC,Y0⟩:=hJ.2.1 (hL 10 (by decide));have sD:=Hd (And.intro BC (show az w4 g6 (dZ n A c u) by rw[hL 11 (by decide)]at Y0;exact Y0));clear hv hL hJ hR BC Y0;simp only[regs.aG,List.map_cons,List.map_nil,h7];simp only[Act.put,List.setIfInBounds_toArray,List.set_cons_zero,List.set_cons_succ];clear h7
 skip
 rw[e6];clear e6;have FS4:Hid (∀W,regs.bl w4 W->ak W g b m s Z x):=fun W hb=>FS.o W (HR4.o.trans (Below.mono hb HR4.o.size));have FB4:Hid (∀W,regs.bl w4 W->az W w.heap.size [.pointer (some ⟨g,0,none⟩)]):=fun W hb=>FB.o W (HR4.o.trans (Below.mono hb HR4.o.size));have FO4:Hid (∀W,regs.bl w4 W->az W (w.heap.size+1) (o.cs Ao co)):=fun W hb=>FO.o W (HR4.o.trans (Below.mono hb HR4.o.size));have FP4:Hid (∀W,regs.bl w4 W->az W g6 (dZ n A c u)):=fun W hb=>sD.o.2.below' hb
 have FN4:Hid (∀W,regs.bl w4 W->dD Z.3 (af b m s x.t) W n A):=fun W hb=>(FL.o W (HR4.o.trans (Below.mono hb HR4.o.size))).2.2;have FW4:Hid (∀W,regs.bl w4 W->bz w W):=fun W hb=>HB0.o.trans ((HR4.o.trans (Below.mono hb HR4.o.size)).mono HB0.o.size);have FR4:Hid (∀W,regs.bl w4 W->Row eW W Ao o.lk.l):=fun W hb=>Row.below HR0.o (HR4.o.trans (Below.mono hb HR4.o.size));have HG6:Hid (wz.heap.size<=g6):=sD.o.1
 obtain⟨e0,he0⟩:=aC ((bT Nd.plain o).chk)
 have HCK:Hid (∀W,regs.bl w4 W->Calls prog 125 #[.agg ((bT Nd.plain o).cs (aW o Ao none) (aW o co 0)).toArray] W (aZ (.int .i64 e0) W)):=fun W hb=>by
  have:=Uh (bT Nd.plain o) (aW o Ao none) (aW o co 0) (tC HFO.o vU) W (Gh (FR4.o W hb) (pG rfl none));rw[he0]at this;exact this
 rw[he0]at lZ;clear he0 uP FS FB FO FL HR0 Yg a3a;go_wp2_with (fail)
 refine Q5 [22,23,24,25,8] (fun i=>match i with
  |0=>rV (.agg (o.cs Ao co).toArray)
  |1=>rV (.agg (Nd.plain.cs none 0).toArray)
  |2=>rV (.agg ((bT Nd.plain o).cs (aW o Ao none) (aW o co 0)).toArray)
  |3|4=>rV (.int .i64 e0)
  |_=>ra) ⟨?_,?_,?_,?_,?_,trivial⟩ ?_
 any_goals (first|refine zp fun L a w1 hh=>?_|fail)
 ·have h3:=hh.p 3 ((w.heap.size+1)) 0;have hB:=Hd (FO4.o _ hh.rel);have hJ:=Hd hh.st;exact aK 85 _ rfl (w.heap.size+1) 0 (by simpa[go_sem]using h3) _ hB.o (o.cs Ao co) rfl _ underlying85 rfl ag ⟨_,rfl,rB,rfl,hJ.o⟩
 ·have hC:=Hd (yV w1);have hJ:=hh.j;clear hh;go_simp;refine hC.o.mono ?_;rintro e w9 ⟨rfl,bD⟩;exact⟨_,rfl,bD,rfl,hJ.o⟩
 ·have h22:=rq (hh.d 0 22);have h23:=rq (hh.d 1 23);have hC:=Hd (YL o Ao co Nd.plain none 0 w1);have hJ:=hh.j;clear hh;go_simp;refine hC.o.mono ?_;rintro e w9 ⟨rfl,bD⟩;exact⟨_,rfl,bD,rfl,hJ.o⟩
 ·have CX:=rq (hh.d 2 24);have hC:=Hd (HCK.o _ hh.rel);have hJ:=hh.j;clear hh;go_simp;refine hC.o.mono ?_;rintro e w9 ⟨rfl,bD⟩;exact⟨_,rfl,bD,rfl,hJ.o⟩
 ·have pO:=rq (hh.d 3 25);clear hh;go_simp;exact⟨_,rfl,rB,rfl,trivial⟩
 intro L w5 val hL hJ hR hv;have h8:val 8=.int .i64 e0:=hv 4 8 ag;have kL:=Hd hR;clear hv hL hJ hR HCK;simp only[regs.aG,List.map_cons,List.map_nil,h8];simp only[Act.put,List.setIfInBounds_toArray,List.set_cons_zero,List.set_cons_succ];clear h8
 skip
 by_cases h0:¬e0=0
 ·have t5:(e0==0)=false:=by simpa using h0
  have HE2:Hid (R=(x,e0)):=by show _=_;rw[lZ.o,if_pos h0]
  have Qu:=Hd h0;clear h0 lZ;go_wp2_with (fail);go_ret2;rw[HE2.o];exact⟨_,s,rfl,FS4.o _ kL.o,ae.below (FW4.o _ kL.o),fun e=>absurd e Qu.o⟩
 obtain rfl:e0=0:=by simpa using h0
 have HE2:Hid (R=(⟨x.t,upd x.nd o.i (bT n o),x.ws⟩,0)):=by show _=_;rw[lZ.o,if_neg (by simp)]
 clear h0 lZ
 obtain⟨N,hN⟩:=aC (bT n o)
 have HNN:=Hd hN;rw[hN]at HE2;have a3n:Hid (Fit N):=by rw[←hN];exact tC ⟨HFO.o.p,HFO.o.l,HFO.o.len⟩ Wi.o
 have HON:=Hd (fun W=>YL o Ao co n A c W);rw[hN]at HON;clear hN;have Bf:=Hd (FO4.o _ kL.o);have HP5:=Hd (FP4.o _ kL.o);go_wp2_with (first|(with_reducible refine gL ?_;first|(refine wt 85 0 rfl rfl rfl Bf.o (o.cs Ao co) rfl underlying85 rfl ?_)|(refine wt 77 0 rfl rfl rfl HP5.o (n.cs A c) rfl underlying77 rfl ?_)));refine(HON.o _).mono ?_;rintro e w6 ⟨rfl,hb6⟩;have QA:Hid (regs.bl w4 w6):=Below.trans kL.o (hb6.mono kL.o.size);have HZ6:Hid (az (w6.alloc (.cells Va.toArray 77)) w6.heap.size Va):=aA w6 Va _
 have VN:Hid (Below w6.heap.size w6 (w6.alloc (.cells Va.toArray 77))):=bR.alloc nR _;clear hb6 Bf HP5
 go_upto_region 8 with(first|(with_reducible refine gS ?_;first|(refine ay 77 _ _ rfl rfl rfl _ 0 rfl (N.cs (aW o Ao A) (aW o co c)) rfl (Va) HZ6.o (N.cs (aW o Ao A) (aW o co c)) rfl (nE rfl) ag (Nd.one _ _ _) ?_;intro w7 HW7 EK)))
 have sN:Hid (Below w6.heap.size w6 w7):=HW7.o.below VN.o nR;have sF:Hid (regs.bl w4 w7):=Below.trans QA.o (sN.o.mono QA.o.size)
 obtain⟨k9,hk9⟩:=aC w6.heap.size
 have Wh:Hid (w6.heap.size=k9):=hk9;rw[hk9]at EK HW7 ⊢;have HS9:Hid (∀k,af b m s x.t k->k<k9):=fun k hk=>by rw[←Wh.o];exact(FS4.o _ QA.o).inside k hk
 have HX9:Hid (g6<k9∧w.heap.size+1<k9):=by
  have h1:=(FP4.o _ QA.o).inside;have h2:=(FO4.o _ QA.o).inside;rw[Wh.o]at h1 h2;exact⟨h1,h2⟩
 clear hk9 HZ6 VN sN HW7 HON;have c0:=(FO4.o _ sF.o).c 0 rfl;have i0:w.heap.size+1<w7.heap.size:=(FO4.o _ sF.o).inside;by_cases h7:o.k=7
 ·have t7:(o.k==7)=true:=by simpa using h7
  have Yp:=Hd (Nr N (aW o Ao A) (aW o co c) (by have:=a3n.o.len;omega) w7 (by rw[←HNN.o];exact Gh (FR4.o _ sF.o) (FN4.o _ sF.o).1) Z.3 (af b m s x.t) (fun k hk=>((FS4.o _ sF.o).old k hk).1) (fun k hk=>(FS4.o _ sF.o).inside k hk));unfold VQ at Yp;clear h7;go_wp2_with (first|(with_reducible refine gL ?_;first|(refine wt 77 0 rfl rfl rfl EK.o (N.cs (aW o Ao A) (aW o co c)) rfl underlying77 rfl ?_)));refine Yp.o.mono ?_;rintro e w8 ⟨A9,c9,rfl,a1U,hb8,a1Z⟩;have VB:=Hd (EK.o.below' hb8)
  have a4S:Hid (regs.bl w4 w8):=Below.trans sF.o (hb8.mono sF.o.size);have U4:=Hd a1U;have HG8:Hid (∀a,A9=some a->N.lk.l≠[]->a.block≠k9):=fun a ea hne e=>by have:=a1Z a ea hne;have:=EK.o.inside;omega
  have hsz:w4.heap.size<=k9:=by rw[←Wh.o];exact QA.o.size
  have XT:=Hd hsz;clear hb8 a1U a1Z Yp hsz
  go_upto_region 10 with(first|(with_reducible refine gS ?_;first|(refine ay 77 _ _ rfl rfl rfl _ 0 rfl (N.cs A9 c9) rfl (N.cs (aW o Ao A) (aW o co c)) VB.o (N.cs A9 c9) rfl (nE rfl) ag (Nd.one _ _ _) ?_;intro w9 QP HK)))
  have QB:Hid (regs.bl w4 w9):=QP.o.below a4S.o XT.o
  have EX:Hid (dD Z.3 (af b m s x.t) w9 N A9):=⟨Row.stays U4.o.1 fun a ea hne=>QP.o.far (HG8.o a ea hne),U4.o.2,U4.o.3⟩
  have HS:=Hd (FS4.o _ QB.o);have HB:=Hd (FB4.o _ QB.o);have HO:=Hd (FO4.o _ QB.o);have HP:=Hd (FP4.o _ QB.o);have sJ:Hid (¬af b m s x.t w.heap.size):=fun e=>by have:=kG.o _ e;omega
  have uQ:Hid (¬af b m s x.t (w.heap.size+1)):=fun e=>by have:=kG.o _ e;omega
  have Zo:Hid (¬af b m s x.t k9):=fun e=>by have:=HS9.o _ e;omega
  have IC:Hid (¬af b m s x.t g6):=fun e=>by have:=kG.o _ e;have:=HG6.o;have:=iL.o;omega
  have HEB:Hid (¬Z.3 w.heap.size):=fun e=>by have:=IA.o _ e;omega
  have HEO:Hid (¬Z.3 (w.heap.size+1)):=fun e=>by have:=IA.o _ e;omega
  have HEP:Hid (¬Z.3 g6):=fun e=>by have:=IA.o _ e;have:=HG6.o;have:=iL.o;omega
  have wQ:=Hd HS.o.blk;have wK:=Hd HS.o.jh;have wL:=Hd (FN4.o _ QB.o)
  refine wR (ae (af b m s x.t) (af b m s x.t)) (fun L wx=>ScJ g b m s Z x ⟨x.t,upd x.nd o.i N,upd x.ws o.i u⟩ (L 10) wx) [38,39,40,41,42,43,44,45,46,47] (fun _=>ae.refl _ _) (fun _ _ _ h k=>h.trans k) (fun i=>match i with
   |0|1=>rp g 0
   |2=>rp g 5
   |3=>rV (.map (some m))
   |4=>rp (w.heap.size+1) 1
   |5=>rV (.int .i64 o.i)
   |6=>rV (.agg (N.cs A9 c9).toArray)
   |7=>rp g6 20
   |8=>rV (.agg (u.cs).toArray)
   |9=>rV (.agg (dZ N A9 c9 u).toArray)
   |_=>ra) (ae.below bR.drew) (⟨fun _=>HS.o.below bR.drew,nofun⟩) ⟨?_,?_,?_,?_,?_,?_,?_,?_,?_,?_,?_,trivial⟩ ?_
  any_goals (first|refine zp fun L a w1 hh=>?_|fail)
  have h2:=hh.p 2 w.heap.size 0;have ⟨c0,i0⟩:=(HB.o.off sJ.o hh.rel).ci 0 rfl;rotate_left;have h38:=rq (hh.d 0 38);rotate_left;have TD:=rq (hh.d 1 39);have i0:=((au.off wQ.o wK.o hh.rel).blk).inside;rotate_left;have VU:=rq (hh.d 2 40);have ⟨c0,i0⟩:=((au.off wQ.o wK.o hh.rel).blk).ci 5 rfl;rotate_left;have h3:=hh.p 3 ((w.heap.size+1)) 0;have i0:=(HO.o.off uQ.o hh.rel).inside;rotate_left;have h42:=rq (hh.d 4 42);have ⟨c0,i0⟩:=(HO.o.off uQ.o hh.rel).ci 1 rfl;rotate_left
  ·have h9:=hh.p 9 k9 0;have hB:=Hd (HK.o.off Zo.o hh.rel);have hJ:=Hd hh.st;exact aK 77 _ rfl k9 0 (by simpa[go_sem]using h9) _ hB.o (N.cs A9 c9) rfl _ underlying77 rfl ag ⟨_,rfl,ae.refl _ _,rfl,hJ.o⟩
  have h6:=hh.p 6 g6 0;have i0:=(HP.o.off IC.o hh.rel).inside;rotate_left
  ·have h45:=rq (hh.d 7 45);have hB:=Hd (HP.o.off IC.o hh.rel);have hJ:=Hd hh.st;exact aK 67 _ rfl g6 20 (by simpa[go_sem]using h45) _ hB.o (u.cs) rfl _ underlying67 rfl ag ⟨_,rfl,ae.refl _ _,rfl,hJ.o⟩
  ·have QJ:=rq (hh.d 6 44);have h46:=rq (hh.d 8 46);have hJ:=Hd hh.st;exact wp_build _ _ rfl (by simp[go_sem,QJ,h46]) (kV N A9 c9 u w1) ⟨_,rfl,ae.refl _ _,rfl,hJ.o⟩
  ·have VT:=rq (hh.d 3 41);have h43:=rq (hh.d 5 43);have h47:=rq (hh.d 9 47);obtain⟨w9,hrun,hs9,lu⟩:=(hh.st.no hh.un).store HN.o HI.o HH.o (show wH Z.3 (af b m s x.t) w1 (.agg (dZ N A9 c9 u).toArray) N u from⟨_,_,rfl,EX.o.turn hh.rel⟩);have Pn:=Hd hs9;have Pm:=Hd lu;clear hh hs9 lu;go_simp;exact⟨Pm.o,⟨undef,trivial⟩,nofun,fun _=>Pn.o⟩
  any_goals (have hJ:=hh.j;clear hh;go_simp;exact⟨_,rfl,ae.refl _ _,rfl,hJ.o⟩)
  intro L BZ val hL hJ hR hv;have mg:=Hd hR;have IM:=Hd (hJ.yes (hL 10 (by decide)));clear hv hL hJ hR;simp only[regs.aG,List.map_cons,List.map_nil];simp only[Act.put,List.setIfInBounds_toArray,List.set_cons_zero,List.set_cons_succ];generalize val 38=v38,val 39=v39,val 40=v40,val 41=v41,val 42=v42,val 43=v43,val 44=v44,val 45=v45,val 46=v46,val 47=v47 at*
  have HS5:Hid (ak BZ g b m s Z R.1):=by
   show ak _ _ _ _ _ _ _;have:=IM.o;rw[←HNU.o.2,jy]at this;rw[HE2.o];exact this
  clear IM;go_wp2_with (fail);go_ret2;rw[HE2.o]at HS5 ⊢;have ht:ae (af b m s x.t) (af b m s x.t) w BZ:=(ae.below (FW4.o _ QB.o)).trans mg.o;refine⟨_,s,rfl,HS5.o,ht,fun _=>⟨fun k=>(k=g6∨k=w.heap.size∨k=w.heap.size+1)∨∃a,A=some a∧n.lk.l≠[]∧k=a.block,_,_,rfl,xx,?_,?_⟩⟩
  ·rintro k ((rfl|rfl|rfl)|⟨a,ea,hne,rfl⟩)
   ·exact⟨Nat.lt_of_lt_of_le HP.o.inside mg.o.size,fun e=>e.elim IC.o HEP.o⟩
   ·exact⟨Nat.lt_of_lt_of_le HB.o.inside mg.o.size,fun e=>e.elim sJ.o HEB.o⟩
   ·exact⟨Nat.lt_of_lt_of_le HO.o.inside mg.o.size,fun e=>e.elim uQ.o HEO.o⟩
   ·exact⟨Nat.lt_of_lt_of_le (Row.lt wL.o.1 ea hne) mg.o.size,fun e=>e.elim (wL.o.2 a ea hne) (wL.o.3 a ea hne)⟩
  ·intro W s1 E hK hs1;have hblk:∀{k:Nat} {cs:List Value},az w9 k cs->¬af b m s x.t k->W.heap[k]?=BZ.heap[k]?->az W k cs:=fun h1 h2 h3=>h1.stays (h3.trans (mg.o.far _ h1.inside h2).2)
   have hnd:dD E (af b m s1 x.t) W n A:=⟨Row.stays wL.o.1 fun a ea hne=>((hK _ (.inr ⟨a,ea,hne,rfl⟩)).1).trans (mg.o.far _ (Row.lt wL.o.1 ea hne) (wL.o.2 a ea hne)).2,fun a ea hne=>(hK _ (.inr ⟨a,ea,hne,rfl⟩)).2.1,fun a ea hne=>(hK _ (.inr ⟨a,ea,hne,rfl⟩)).2.2⟩
   refine(FX hs1 HN.o (hblk HP.o IC.o (hK _ (.inl (.inl rfl))).1) (hblk HB.o sJ.o (hK _ (.inl (.inr (.inl rfl)))).1) (hblk HO.o uQ.o (hK _ (.inl (.inr (.inr rfl)))).1) (hK _ (.inl (.inl rfl))).2.1 (hK _ (.inl (.inr (.inl rfl)))).2.1 (hK _ (.inl (.inr (.inr rfl)))).2.1 hnd HI.o HH.o).mono ?_;rintro e W' ⟨he,h5,h6⟩;refine⟨he,s1,?_,h6⟩;have e1:(⟨x.t,upd (upd x.nd o.i N) o.i n,upd x.ws o.i u⟩:aJ)=x:=by rw[LM,←HNU.o.1,←HNU.o.2,jy,jy]
   rw[e1]at h5;exact h5
 have t7:(o.k==7)=false:=by simpa using h7
 have EX:Hid (dD Z.3 (af b m s x.t) w7 N A):=(FN4.o _ sF.o).lk (by rw[←HNN.o];exact LY h7)
 have HK:Hid (az w7 k9 (N.cs A c)):=by
  have:=EK.o;rw[show aW o Ao A=A from if_neg h7,show aW o co c=c from if_neg h7]at this;exact this
 clear h7 EK;have HS:=Hd (FS4.o _ sF.o);have HB:=Hd (FB4.o _ sF.o);have HO:=Hd (FO4.o _ sF.o);have HP:=Hd (FP4.o _ sF.o);have sJ:Hid (¬af b m s x.t w.heap.size):=fun e=>by have:=kG.o _ e;omega
 have uQ:Hid (¬af b m s x.t (w.heap.size+1)):=fun e=>by have:=kG.o _ e;omega
 have Zo:Hid (¬af b m s x.t k9):=fun e=>by have:=HS9.o _ e;omega
 have IC:Hid (¬af b m s x.t g6):=fun e=>by have:=kG.o _ e;have:=HG6.o;have:=iL.o;omega
 have HEB:Hid (¬Z.3 w.heap.size):=fun e=>by have:=IA.o _ e;omega
 have HEO:Hid (¬Z.3 (w.heap.size+1)):=fun e=>by have:=IA.o _ e;omega
 have HEP:Hid (¬Z.3 g6):=fun e=>by have:=IA.o _ e;have:=HG6.o;have:=iL.o;omega
 have wQ:=Hd HS.o.blk;have wK:=Hd HS.o.jh;have wL:=Hd (FN4.o _ sF.o)
 go_upto_region 10 with(fail)
 refine wR (ae (af b m s x.t) (af b m s x.t)) (fun L wx=>ScJ g b m s Z x ⟨x.t,upd x.nd o.i N,upd x.ws o.i u⟩ (L 10) wx) [38,39,40,41,42,43,44,45,46,47] (fun _=>ae.refl _ _) (fun _ _ _ h k=>h.trans k) (fun i=>match i with
  |0|1=>rp g 0
  |2=>rp g 5
  |3=>rV (.map (some m))
  |4=>rp (w.heap.size+1) 1
  |5=>rV (.int .i64 o.i)
  |6=>rV (.agg (N.cs A c).toArray)
  |7=>rp g6 20
  |8=>rV (.agg (u.cs).toArray)
  |9=>rV (.agg (dZ N A c u).toArray)
  |_=>ra) (ae.below bR.drew) (⟨fun _=>HS.o.below bR.drew,nofun⟩) ⟨?_,?_,?_,?_,?_,?_,?_,?_,?_,?_,?_,trivial⟩ ?_
 any_goals (first|refine zp fun L a w1 hh=>?_|fail)
 have h2:=hh.p 2 w.heap.size 0;have ⟨c0,i0⟩:=(HB.o.off sJ.o hh.rel).ci 0 rfl;rotate_left;have h38:=rq (hh.d 0 38);rotate_left;have TD:=rq (hh.d 1 39);have i0:=((au.off wQ.o wK.o hh.rel).blk).inside;rotate_left;have VU:=rq (hh.d 2 40);have ⟨c0,i0⟩:=((au.off wQ.o wK.o hh.rel).blk).ci 5 rfl;rotate_left;have h3:=hh.p 3 ((w.heap.size+1)) 0;have i0:=(HO.o.off uQ.o hh.rel).inside;rotate_left;have h42:=rq (hh.d 4 42);have ⟨c0,i0⟩:=(HO.o.off uQ.o hh.rel).ci 1 rfl;rotate_left
 ·have h9:=hh.p 9 k9 0;have hB:=Hd (HK.o.off Zo.o hh.rel);have hJ:=Hd hh.st;exact aK 77 _ rfl k9 0 (by simpa[go_sem]using h9) _ hB.o (N.cs A c) rfl _ underlying77 rfl ag ⟨_,rfl,ae.refl _ _,rfl,hJ.o⟩
 have h6:=hh.p 6 g6 0;have i0:=(HP.o.off IC.o hh.rel).inside;rotate_left
 ·have h45:=rq (hh.d 7 45);have hB:=Hd (HP.o.off IC.o hh.rel);have hJ:=Hd hh.st;exact aK 67 _ rfl g6 20 (by simpa[go_sem]using h45) _ hB.o (u.cs) rfl _ underlying67 rfl ag ⟨_,rfl,ae.refl _ _,rfl,hJ.o⟩
 ·have QJ:=rq (hh.d 6 44);have h46:=rq (hh.d 8 46);have hJ:=Hd hh.st;exact wp_build _ _ rfl (by simp[go_sem,QJ,h46]) (kV N A c u w1) ⟨_,rfl,ae.refl _ _,rfl,hJ.o⟩
 ·have VT:=rq (hh.d 3 41);have h43:=rq (hh.d 5 43);have h47:=rq (hh.d 9 47);obtain⟨w9,hrun,hs9,lu⟩:=(hh.st.no hh.un).store HN.o HI.o HH.o (show wH Z.3 (af b m s x.t) w1 (.agg (dZ N A c u).toArray) N u from⟨_,_,rfl,EX.o.turn hh.rel⟩);have Pn:=Hd hs9;have Pm:=Hd lu;clear hh hs9 lu;go_simp;exact⟨Pm.o,⟨undef,trivial⟩,nofun,fun _=>Pn.o⟩
 any_goals (have hJ:=hh.j;clear hh;go_simp;exact⟨_,rfl,ae.refl _ _,rfl,hJ.o⟩)
 intro L BZ val hL hJ hR hv;have mg:=Hd hR;have IM:=Hd (hJ.yes (hL 10 (by decide)));clear hv hL hJ hR;simp only[regs.aG,List.map_cons,List.map_nil];simp only[Act.put,List.setIfInBounds_toArray,List.set_cons_zero,List.set_cons_succ]
 skip
 have HS5:Hid (ak BZ g b m s Z R.1):=by
  show ak _ _ _ _ _ _ _;have:=IM.o;rw[←HNU.o.2,jy]at this;rw[HE2.o];exact this
 clear IM;go_wp2_with (fail);go_ret2;rw[HE2.o]at HS5 ⊢;have ht:ae (af b m s x.t) (af b m s x.t) w BZ:=(ae.below (FW4.o _ sF.o)).trans mg.o;refine⟨_,s,rfl,HS5.o,ht,fun _=>⟨fun k=>(k=g6∨k=w.heap.size∨k=w.heap.size+1)∨∃a,A=some a∧n.lk.l≠[]∧k=a.block,_,_,rfl,xx,?_,?_⟩⟩
 ·rintro k ((rfl|rfl|rfl)|⟨a,ea,hne,rfl⟩)
  ·exact⟨Nat.lt_of_lt_of_le HP.o.inside mg.o.size,fun e=>e.elim IC.o HEP.o⟩
  ·exact⟨Nat.lt_of_lt_of_le HB.o.inside mg.o.size,fun e=>e.elim sJ.o HEB.o⟩
  ·exact⟨Nat.lt_of_lt_of_le HO.o.inside mg.o.size,fun e=>e.elim uQ.o HEO.o⟩
  ·exact⟨Nat.lt_of_lt_of_le (Row.lt wL.o.1 ea hne) mg.o.size,fun e=>e.elim (wL.o.2 a ea hne) (wL.o.3 a ea hne)⟩
 ·intro W s1 E hK hs1;have hblk:∀{k:Nat} {cs:List Value},az w7 k cs->¬af b m s x.t k->W.heap[k]?=BZ.heap[k]?->az W k cs:=fun h1 h2 h3=>h1.stays (h3.trans (mg.o.far _ h1.inside h2).2)
  have hnd:dD E (af b m s1 x.t) W n A:=⟨Row.stays wL.o.1 fun a ea hne=>((hK _ (.inr ⟨a,ea,hne,rfl⟩)).1).trans (mg.o.far _ (Row.lt wL.o.1 ea hne) (wL.o.2 a ea hne)).2,fun a ea hne=>(hK _ (.inr ⟨a,ea,hne,rfl⟩)).2.1,fun a ea hne=>(hK _ (.inr ⟨a,ea,hne,rfl⟩)).2.2⟩
  refine(FX hs1 HN.o (hblk HP.o IC.o (hK _ (.inl (.inl rfl))).1) (hblk HB.o sJ.o (hK _ (.inl (.inr (.inl rfl)))).1) (hblk HO.o uQ.o (hK _ (.inl (.inr (.inr rfl)))).1) (hK _ (.inl (.inl rfl))).2.1 (hK _ (.inl (.inr (.inl rfl)))).2.1 (hK _ (.inl (.inr (.inr rfl)))).2.1 hnd HI.o HH.o).mono ?_;rintro e W' ⟨he,h5,h6⟩;refine⟨he,s1,?_,h6⟩;have e1:(⟨x.t,upd (upd x.nd o.i N) o.i n,upd x.ws o.i u⟩:aJ)=x:=by rw[LM,←HNU.o.1,←HNU.o.2,jy,jy]
  rw[e1]at h5;exact h5
end
end
end Go.Proofs.YthmegninhpihkaaGreat
