import Derived.Test.YthoildbfghfhpaaGreatZScK
set_option maxHeartbeats 16000000
set_option maxRecDepth 100000
open Go.Proofs.Tryz
namespace Go.Proofs.YthoildbfghfhpaaGreat
section
open Go.RowKit pxm imm trm Go.Maps
abbrev tScene:TypeId:=107
abbrev tPlaced:TypeId:=121
abbrev tPlaces:TypeId:=105
theorem und_places:prog.underlying tPlaces=some (.map 3 tPlaced):=underlying105
def plzs:List Value:=plcs ⟨⟨0,0,0,0,0,0⟩,0,false,false,⟨0,0,0,0⟩,⟨0,0,0,0,0,0,[]⟩⟩ none 0 ⟨0,0,0,0,0,0⟩
theorem zero_placed (w:World):(zeroValue tPlaced).run prog w=.ok (.agg plzs.toArray) w:=by kernel_rfl
structure PSc where
 t:T
 nd:Int->Nd
 ws:Int->Mp
def upd {α:Type} (f:Int->α) (i:Int) (y:α):Int->α:=fun j=>if j=i then y else f j
theorem upd_same {α:Type} (f:Int->α) (i:Int) (y:α):upd f i y i=y:=if_pos rfl
theorem upd_ne {α:Type} (f:Int->α) {i j:Int} (h:j≠i) (y:α):upd f i y j=f j:=if_neg h
def SFoot (b m:Nat) (s:Sh) (t:T):Bset:=fun k=>k=m∨FootT b s t k
def Sor (b m:Nat) (s:Sh) (t:T) (E:Bset):Bset:=fun k=>SFoot b m s t k∨E k
structure ZR where
 b:Int
 c:Int
structure ZZ where
 a:Int
 r:ZR
 E:Bset
structure NdOff (E S:Bset) (w:World) (n:Nd) (A:Option Addr):Prop where
 row:Row eW w A n.lk.l
 off:∀ a,A=some a->n.lk.l≠[]->¬ S a.block
 e:∀ a,A=some a->n.lk.l≠[]->¬ E a.block
def PlAt (E S:Bset) (w:World) (v:Value) (n:Nd) (u:Mp):Prop:=∃ A c,v=plv n A c u∧NdOff E S w n A
structure Fit (n:Nd):Prop where
 p:n.lk.p<4294967296
 l:∀ z∈n.lk.l,z<4294967296
 len:n.lk.l.length<=300
theorem Row.stays {w w':World} {A:Option Addr} {l:List Nat} (h:Row eW w A l) (hb:∀ a,A=some a->l≠[]->w'.heap[a.block]?=w.heap[a.block]?):Row eW w' A l:=fun hn=>by
 obtain ⟨b,off,e,hc⟩:=h hn;have hne:l≠[]:=fun e=>by rw [e] at hn;exact absurd hn (by simp)
 refine ⟨b,off,e,fun j hj=>?_⟩;have h1:=hb _ e hne;have h2:=hc j hj;rw [← h2];unfold World.cell?;simp only at h1 ⊢;rw [h1]
theorem Row.lt {w:World} {A:Option Addr} {l:List Nat} (h:Row eW w A l) {a:Addr} (e:A=some a) (hne:l≠[]):a.block<w.heap.size:=by
 have hn:0<l.length:=List.length_pos_iff.2 hne;obtain ⟨b,off,e2,hc⟩:=h hn;rw [e] at e2;obtain rfl:=Option.some.inj e2;exact World.block_lt_of_cell? w ⟨b,_,none⟩ (hc 0 hn)
section
variable {E S S':Bset} {w w':World} {n:Nd} {A:Option Addr} {v:Value} {u:Mp}
theorem NdOff.turn (h:NdOff E S w n A) (ht:TurnP S S' w w'):NdOff E S' w' n A:=
 ⟨Row.stays h.1 fun a e hne=>(ht.far _ (Row.lt h.1 e hne) (h.2 a e hne)).2,fun a e hne=>(ht.far _ (Row.lt h.1 e hne) (h.2 a e hne)).1,h.3⟩
theorem PlAt.turn (h:PlAt E S w v n u) (ht:TurnP S S' w w'):PlAt E S' w' v n u:=by
 obtain ⟨A,c,e,h⟩:=h;exact ⟨A,c,e,h.turn ht⟩
end
structure SceneAt (w:World) (g b m:Nat) (s:Sh) (Z:ZZ) (x:PSc):Prop where
 blk:BlkT w g [.iface 102 (.pointer (some ⟨b,0,none⟩)),.pointer (some ⟨b,0,none⟩),.int .i64 Z.1,.int .i64 Z.2.1,.int .i64 Z.2.2,.map (some m)] tScene
 tree:TreeAt w b s x.t
 map:∃ es,VM w m es∧(∀ i,omap.look es i≠none->has x.t i=true)∧∀ i,has x.t i=true->∃ v,omap.look es i=some v∧PlAt Z.3 (SFoot b m s x.t) w v (x.nd i) (x.ws i)
 gfar:¬ SFoot b m s x.t g
 mfar:¬ FootT b s x.t m
 old:∀ k,Z.3 k->k<w.heap.size∧¬ SFoot b m s x.t k∧k≠g
theorem ids_len (t:T):(ids t).length=t.length:=by simp [ids]
theorem es_le {es:LV} {t:T} (hr:omap.Rises lt es) (h:∀ i,omap.look es i≠none->has t i=true):es.length<=t.length+1:=by
 have hn:(es.map (·.1)).Nodup:=by
  refine List.Pairwise.map _ (fun a b hab=>?_) hr;exact ord.ne hab
 have:=len_of_sub (m:=0::ids t) hn fun x hx=>by
  obtain ⟨p,hp,rfl⟩:=List.mem_map.1 hx;have h1:=h p.1 (by rw [omap.Rises.look_of_mem ord hr hp];simp);rcases has_iff.1 h1 with e | e
  ·exact List.mem_cons.2 (.inl e)
  ·exact List.mem_cons_of_mem _ e
 rw [List.length_map,List.length_cons,ids_len] at this;exact this
section
variable {w w':World} {g b m:Nat} {s:Sh} {Z:ZZ} {x:PSc}
theorem SceneAt.inside (h:SceneAt w g b m s Z x):∀ k,SFoot b m s x.t k->k<w.heap.size:=by
 rintro k (rfl | hk)
 ·obtain ⟨es,hm,_⟩:=h.map;exact hm.inside
 ·exact h.tree.raw.inside k hk
theorem SceneAt.top (h:SceneAt w g b m s Z x):(w.cell? ⟨g,0,none⟩=some (.iface 102 (.pointer (some ⟨b,0,none⟩)))∧w.cell? ⟨g,1,none⟩=some (.pointer (some ⟨b,0,none⟩))∧w.cell? ⟨g,2,none⟩=some (.int .i64 Z.1)∧w.cell? ⟨g,3,none⟩=some (.int .i64 Z.2.1)∧w.cell? ⟨g,4,none⟩=some (.int .i64 Z.2.2)∧w.cell? ⟨g,5,none⟩=some (.map (some m)))∧g<w.heap.size:=
 have h1:=h.blk.blk
 ⟨⟨h1.cell 0,h1.cell 1,h1.cell 2,h1.cell 3,h1.cell 4,h1.cell 5⟩,h1.inside⟩
theorem SceneAt.stays (h:SceneAt w g b m s Z x) (ht:TurnP (SFoot b m s x.t) (SFoot b m s x.t) w w') (hn:∀ k,SFoot b m s x.t k->w'.heap[k]?=w.heap[k]?):SceneAt w' g b m s Z x:=by
 obtain ⟨es,hm,h1,h2⟩:=h.map;refine ⟨h.blk.stays (ht.far g h.blk.inside h.gfar).2,h.tree.stays fun k hk=>hn k (.inr hk),⟨es,hm.stays (hn m (.inl rfl)),h1,fun i hi=>?_⟩,h.gfar,h.mfar,fun k hk=>⟨Nat.lt_of_lt_of_le (h.old k hk).1 ht.size,(h.old k hk).2⟩⟩;obtain ⟨v,e,hv⟩:=h2 i hi;exact ⟨v,e,hv.turn ht⟩
theorem SceneAt.below (h:SceneAt w g b m s Z x) (hb:Below w.heap.size w w'):SceneAt w' g b m s Z x:=h.stays (TurnP.below hb) fun k hk=>hb.block k (h.inside k hk)
theorem SceneAt.look (h:SceneAt w g b m s Z x) {i:Int} (hi:I64 i) (hh:has x.t i=true):∃ A c,(Instr.lookup tPlaces (.map (some m)) (.int .i64 i) false).run prog w=.ok (plv (x.nd i) A c (x.ws i)) w ∧
  (Instr.lookup tPlaces (.map (some m)) (.int .i64 i) true).run prog w=.ok (.tuple #[plv (x.nd i) A c (x.ws i),.bool true]) w∧NdOff Z.3 (SFoot b m s x.t) w (x.nd i) A:=by
 obtain ⟨es,hm,-,h2⟩:=h.map;obtain ⟨v,e,A,c,rfl,hv⟩:=h2 i hh;have h3:=hm.lookup und_places (zero_placed w) hi;have h4:=hm.look_ok und_places (zero_placed w) hi;rw [e] at h3 h4;exact ⟨A,c,h3,h4,hv⟩
theorem SceneAt.look_none (h:SceneAt w g b m s Z x) {i:Int} (hi:I64 i) (hh:¬ has x.t i=true):(Instr.lookup tPlaces (.map (some m)) (.int .i64 i) false).run prog w=.ok (.agg plzs.toArray) w ∧
  (Instr.lookup tPlaces (.map (some m)) (.int .i64 i) true).run prog w=.ok (.tuple #[.agg plzs.toArray,.bool false]) w:=by
 obtain ⟨es,hm,h1,-⟩:=h.map
 have e:omap.look es i=none:=by
  cases e:omap.look es i with
  | none=>rfl
  | some v=>exact absurd (h1 i (by rw [e];simp)) hh
 have h3:=hm.lookup und_places (zero_placed w) hi;have h4:=hm.look_ok und_places (zero_placed w) hi;rw [e] at h3 h4;exact ⟨h3,h4⟩
theorem TurnP.refl_grown {S:Bset} {w w':World} {m:Nat} (hg:w.grownBy w' (some m)) (hm:S m):TurnP S S w w':=TurnP.grown hg fun k e=>by
 obtain rfl:=Option.some.inj e;exact hm
theorem SceneAt.store (h:SceneAt w g b m s Z x) (hn:x.t.length<=100000) {i:Int} (hi:I64 i) (hh:has x.t i=true) {v:Value} {n:Nd} {u:Mp} (hv:PlAt Z.3 (SFoot b m s x.t) w v n u) :
  ∃ w',(Instr.mapUpdate tPlaces (.map (some m)) (.int .i64 i) v).run prog w=.ok () w'∧SceneAt w' g b m s Z ⟨x.t,upd x.nd i n,upd x.ws i u⟩∧TurnP (SFoot b m s x.t) (SFoot b m s x.t) w w':=by
 obtain ⟨es,hm,h1,h2⟩:=h.map;have hle:=es_le hm.rises h1;obtain ⟨w',hrun,hm',hg⟩:=hm.store und_places hi v (by have:=vput_len i v es;omega);have ht:TurnP (SFoot b m s x.t) (SFoot b m s x.t) w w':=TurnP.refl_grown hg (.inl rfl);refine ⟨w',hrun,⟨h.blk.stays (ht.far g h.blk.inside h.gfar).2,h.tree.stays fun k hk=>hg.block k (h.tree.raw.inside k hk) fun e=>?_,⟨_,hm',fun j hj=>?_,fun j hj=>?_⟩,h.gfar,h.mfar,fun k hk=>⟨Nat.lt_of_lt_of_le (h.old k hk).1 ht.size,(h.old k hk).2⟩⟩,ht⟩
 ·exact h.mfar (Option.some.inj e ▸ hk)
 ·rw [omap.look_put] at hj;by_cases e:j=i
  ·rw [e];exact hh
  ·rw [if_neg e] at hj;exact h1 j hj
 ·rw [omap.look_put];by_cases e:j=i
  ·subst e;rw [if_pos rfl];exact ⟨v,rfl,by simp only [upd_same];exact hv.turn ht⟩
  ·rw [if_neg e];obtain ⟨v',e',hv'⟩:=h2 j hj;exact ⟨v',e',by simp only [upd_ne _ e];exact hv'.turn ht⟩
structure PSc.like (x y:PSc):Prop where
 ok:Ok y.t
 kids:∀ q,trm.kids x.t q=trm.kids y.t q
 nd:∀ i,has x.t i=true->y.nd i=x.nd i
 ws:∀ i,has x.t i=true->y.ws i=x.ws i
theorem TreeAt.alike {w:World} {b:Nat} {s:Sh} {t u:T} (h:TreeAt w b s u) (ok:Ok t) (al:∀ q,kids u q=kids t q):TreeAt w b s t:=by
 have h1:hasP u=hasP t:=funext fun i=>by show (has u i=true)=(has t i=true);rw [alike_has al]
 have h3:kids u=kids t:=funext al;have h2:upT u=upT t:=funext fun i=>by unfold upT;rw [alike_par h.ok ok al]
 have hr:Raw w b s (hasP u) (upT u) (kids u):=h.raw;rw [h1,h2,h3] at hr;exact ⟨hr,ok⟩
theorem SFoot.alike {b m:Nat} {s:Sh} {t u:T} (al:∀ q,kids u q=kids t q):SFoot b m s u=SFoot b m s t:=by
 have h1:hasP u=hasP t:=funext fun i=>by show (has u i=true)=(has t i=true);rw [alike_has al]
 unfold SFoot FootT;rw [h1]
theorem SceneAt.like (h:SceneAt w g b m s Z x) {y:PSc} (l:x.like y):SceneAt w g b m s Z y:=by
 obtain ⟨es,hm,h1,h2⟩:=h.map;have e:=SFoot.alike (b:=b) (m:=m) (s:=s) l.kids;refine ⟨h.blk,h.tree.alike l.ok l.kids,⟨es,hm,fun i hi=>?_,fun i hi=>?_⟩,by rw [← e];exact h.gfar,fun hk=>h.mfar ?_,fun k hk=>⟨(h.old k hk).1,by rw [← e];exact (h.old k hk).2.1,(h.old k hk).2.2⟩⟩
 ·rw [← alike_has l.kids];exact h1 i hi
 ·rw [← alike_has l.kids] at hi;rw [← e,l.nd i hi,l.ws i hi];exact h2 i hi
 ·have h1:hasP x.t=hasP y.t:=funext fun i=>by show (has x.t i=true)=(has y.t i=true);rw [alike_has l.kids]
  unfold FootT at hk ⊢;rw [h1];exact hk
end
def UndoV (g b m:Nat) (Z:ZZ) (v:Value) (w:World) (S:Bset) (x' x:PSc):Prop:=
 ∃ (K:Bset) (f:Nat) (cs:Array Value),v=.func (.func f) #[] cs∧Enters prog f∧(∀ k,K k->k<w.heap.size∧¬ S k) ∧
  ∀ (W:World) (s1:Sh) (E:Bset),(∀ k,K k->W.heap[k]?=w.heap[k]?∧¬ SFoot b m s1 x'.t k∧¬ E k)->SceneAt W g b m s1 ⟨Z.1,Z.2,E⟩ x' ->
   Calls prog f cs W fun e W'=>(∃ r,e=.returned r)∧∃ s2,SceneAt W' g b m s2 ⟨Z.1,Z.2,E⟩ x∧TurnP (SFoot b m s1 x'.t) (SFoot b m s2 x.t) W W'
theorem UndoV.turn {g b m:Nat} {Z:ZZ} {v:Value} {w w':World} {S S':Bset} {x' x:PSc} (h:UndoV g b m Z v w S x' x) (ht:TurnP S S' w w'):UndoV g b m Z v w' S' x' x:=by
 obtain ⟨K,f,cs,e,he,hk,hc⟩:=h;refine ⟨K,f,cs,e,he,fun k hK=>⟨Nat.lt_of_lt_of_le (hk k hK).1 ht.size,(ht.far k (hk k hK).1 (hk k hK).2).1⟩,fun W s1 E hW hs=>hc W s1 E (fun k hK=>⟨(hW k hK).1.trans (ht.far k (hk k hK).1 (hk k hK).2).2,(hW k hK).2⟩) hs⟩
def OpQ (g b m:Nat) (Z:ZZ) (s:Sh) (x:PSc) (r:PSc×Int) (w:World) (e:Ending) (w':World):Prop:=
 ∃ fv s',e=.returned (.tuple #[fv,.int .i64 r.2])∧SceneAt w' g b m s' Z r.1∧TurnP (SFoot b m s x.t) (SFoot b m s' r.1.t) w w'∧(r.2=0->UndoV g b m Z fv w' (Sor b m s' r.1.t Z.3) r.1 x)
theorem pick_row {w:World} {o:Op9} {Ao An:Option Addr} {n:Nd} (h1:Row eW w Ao o.lk.l) (h2:Row eW w An n.lk.l):Row eW w (pick7 o Ao An) (setN n o).lk.l:=by
 unfold pick7 setN;by_cases h7:o.k=7
 ·rw [if_pos h7,if_neg (by omega),if_neg (by omega),if_neg (by omega),if_pos h7];exact h1
 ·rw [if_neg h7,if_neg h7];by_cases h4:o.k=4
  ·rw [if_pos h4];exact h2
  rw [if_neg h4];by_cases h5:o.k=5
  ·rw [if_pos h5];exact h2
  rw [if_neg h5];by_cases h6:o.k=6
  ·rw [if_pos h6];exact h2
  rw [if_neg h6];by_cases h8:o.k=8
  ·rw [if_pos h8];exact h2
  rw [if_neg h8];exact h2
theorem pick_fit {o:Op9} {n:Nd} (h1:Fit { n with lk:=o.lk }) (h2:Fit n):Fit (setN n o):=by
 unfold setN;by_cases h4:o.k=4
 ·rw [if_pos h4];exact ⟨h2.p,h2.l,h2.len⟩
 rw [if_neg h4];by_cases h5:o.k=5
 ·rw [if_pos h5];exact ⟨h2.p,h2.l,h2.len⟩
 rw [if_neg h5];by_cases h6:o.k=6
 ·rw [if_pos h6];exact ⟨h2.p,h2.l,h2.len⟩
 rw [if_neg h6];by_cases h7:o.k=7
 ·rw [if_pos h7];exact h1
 rw [if_neg h7];by_cases h8:o.k=8
 ·rw [if_pos h8];exact ⟨h2.p,h2.l,h2.len⟩
 rw [if_neg h8];exact h2
end
section
open Go.RowKit pxm imm trm Go.Maps
theorem build_placed (n:Nd) (A:Option Addr) (c:Nat) (u:Mp) (w:World):(Instr.build tPlaced #[(0,.agg (n.cs A c).toArray),(1,.agg u.cs.toArray)]).run prog w=.ok (.agg (plcs n A c u).toArray) w:=by kernel_rfl
theorem field_node (n:Nd) (A:Option Addr) (c:Nat) (u:Mp) (w:World):(Instr.field tPlaced (.agg (plcs n A c u).toArray) 0).run prog w=.ok (.agg (n.cs A c).toArray) w:=by kernel_rfl
theorem wp_build {P:Program} {op:Oper} {a:Act} {w:World} {K:Act->World->Prop} {Q:Exit->Act->World->Prop} (t:TypeId) (parts:Array (Nat×Operand)) (ho:op.op=.build t parts) {vals:Array (Nat×Value)} (hv:(parts.map fun q=>(q.1,a.eval q.2))=vals) {v:Value} (hrun:(Instr.build t vals).run P w=.ok v w)
  (h:K (a.put op.dst v) w):op.wp P a w K Q:=by
 subst hv;unfold Oper.wp execOp;simp only [ho,Sem.run_bind,Result.andThen_ok,hrun];exact h
theorem plain_nd (w:World):Calls prog 35 #[] w fun e w'=>e=.returned (.agg (Nd.plain.cs none 0).toArray)∧Below w.heap.size w w':=plain_any w
theorem check_nd (n:Nd) (A:Option Addr) (c:Nat) (hf:Fit n) (w:World) (hr:Row eW w A n.lk.l):Calls prog 156 #[.agg (n.cs A c).toArray] w fun e w'=>e=.returned (.int .i64 n.chk)∧Below w.heap.size w w':=
 ndcheck_any n.m n.op n.hi n.cl n.r n.lk.k n.lk.W n.lk.H n.lk.p n.lk.iw n.lk.ih A n.lk.l c hf.p hf.l (by have:=hf.len;unfold maxLen;omega) w hr
def CopyN (n:Nd) (E S:Bset) (w:World) (e:Ending) (w':World):Prop:=∃ A c,e=.returned (.agg (n.cs A c).toArray)∧NdOff E S w' n A∧Below w.heap.size w w'∧∀ a,A=some a->n.lk.l≠[]->w.heap.size<=a.block∧∀ j,w'.frozen? ⟨a.block,j,none⟩=false
theorem copy_nd (n:Nd) (A:Option Addr) (c:Nat) (hf:n.lk.l.length<=20000000) (w:World) (hr:Row eW w A n.lk.l) (E S:Bset) (hE:∀ k,E k->k<w.heap.size) (hS:∀ k,S k->k<w.heap.size):Calls prog 72 #[.agg (n.cs A c).toArray] w (CopyN n E S w):=by
 refine (ndcopy_any n.m n.op n.hi n.cl n.r n.lk.k n.lk.W n.lk.H n.lk.p n.lk.iw n.lk.ih A n.lk.l c w hr hf).mono ?_;rintro e w' ⟨A9,c9,rfl,hp,hb⟩
 have hq:∀ a,A9=some a->n.lk.l≠[]->w.heap.size<=a.block∧∀ j,w'.frozen? ⟨a.block,j,none⟩=false:=fun a e hne=>by
  obtain ⟨b,off,e2,hc⟩:=hp.1 (List.length_pos_iff.2 hne);have h1:=hp.2.1 b off e2;rw [e2] at e;obtain rfl:=Option.some.inj e;exact h1
 exact ⟨A9,c9,rfl,⟨hp.1,fun a e hne hs=>by have:=hq a e hne;have:=hS _ hs;omega,fun a e hne hs=>by have:=hq a e hne;have:=hE _ hs;omega⟩,hb,hq⟩
structure ScJ (g b m:Nat) (s:Sh) (Z:ZZ) (x x':PSc) (d:Bool) (w:World):Prop where
 no:d=false->SceneAt w g b m s Z x
 yes:d=true->SceneAt w g b m s Z x'
theorem ScJ.below {g b m:Nat} {s:Sh} {Z:ZZ} {x x':PSc} {d:Bool} {w w':World} (h:ScJ g b m s Z x x' d w) (hb:Below w.heap.size w w'):ScJ g b m s Z x x' d w':=
 ⟨fun e=>(h.no e).below hb,fun e=>(h.yes e).below hb⟩
theorem BlkT.off {S S':Bset} {w w':World} {k:Nat} {cs:List Value} {T:TypeId} (h:BlkT w k cs T) (hn:¬ S k) (ht:TurnP S S' w w'):BlkT w' k cs T:=h.stays (ht.far k h.inside hn).2
theorem Blk.off {S S':Bset} {w w':World} {k:Nat} {cs:List Value} (h:Blk w k cs) (hn:¬ S k) (ht:TurnP S S' w w'):Blk w' k cs:=h.stays (ht.far k h.inside hn).2
section
variable {w:World} {g b m:Nat} {s:Sh} {Z:ZZ} {x:PSc}
theorem set_back (h:SceneAt w g b m s Z x) (hn:x.t.length<=100000) {kw kb ko:Nat} {n:Nd} {A:Option Addr} {c:Nat} {u:Mp} {o:Op9} {Ao:Option Addr} {co:Nat} (hw:Blk w kw (plcs n A c u)) (hb:Blk w kb [.pointer (some ⟨g,0,none⟩)]) (ho:Blk w ko (o.cs Ao co))
  (h1:¬ SFoot b m s x.t kw) (h2:¬ SFoot b m s x.t kb) (h3:¬ SFoot b m s x.t ko) (hp:NdOff Z.3 (SFoot b m s x.t) w n A) (hi:I64 o.i) (hh:has x.t o.i=true) :
  Calls prog 157 #[.pointer (some ⟨kw,0,none⟩),.pointer (some ⟨kb,0,none⟩),.pointer (some ⟨ko,0,none⟩)] w fun e w'=>(∃ r,e=.returned r)∧SceneAt w' g b m s Z ⟨x.t,upd x.nd o.i n,upd x.ws o.i u⟩∧TurnP (SFoot b m s x.t) (SFoot b m s x.t) w w':=by
 have HS:=Hd h;have HN:=Hd hn;have HB:=Hd hb;have HO:=Hd ho;have HW:=Hd hw;have HNB:=Hd h2;have HNO:=Hd h3;have HNW:=Hd h1;have HGT:=Hd h.blk;have HNG:=Hd h.gfar;have HI:=Hd hi;have HH:=Hd hh
 have HP:Hid (PlAt Z.3 (SFoot b m s x.t) w (.agg (plcs n A c u).toArray) n u):=⟨A,c,rfl,hp⟩
 clear h hn hw hb ho h1 h2 h3 hp hi hh;go_enter func157,ntmps157
 go_upto_region 0 with (fail)
 refine wR (TurnP (SFoot b m s x.t) (SFoot b m s x.t)) (fun L wx=>ScJ g b m s Z x ⟨x.t,upd x.nd o.i n,upd x.ws o.i u⟩ (L 7) wx) [3,4,5,6,7,8,9] (fun _=>TurnP.refl _ _) (fun _ _ _ h k=>h.trans k) (fun i=>match i with
  |0|1=>rp g 0
  |2=>rp g 5
  |3=>rV (.map (some m))
  |4=>rp ko 1
  |5=>rV (.int .i64 o.i)
  |6=>rV (.agg (plcs n A c u).toArray)
  | _=>ra) (TurnP.below bR.drew) (⟨fun _=>HS.o.below bR.drew,nofun⟩) ⟨?_,?_,?_,?_,?_,?_,?_,?_,trivial⟩ ?_
 any_goals (first|refine zp fun L a w1 hh=>?_|fail)
 have h1:=hh.p 1 kb 0;have ⟨c0,i0⟩:=(HB.o.off HNB.o hh.rel).ci 0 rfl;rotate_left;have h3:=rq (hh.d 0 3);rotate_left;have h4:=rq (hh.d 1 4);have i0:=((BlkT.off HGT.o HNG.o hh.rel).blk).inside;rotate_left;have h5:=rq (hh.d 2 5);have ⟨c0,i0⟩:=((BlkT.off HGT.o HNG.o hh.rel).blk).ci 5 rfl;rotate_left;have h2:=hh.p 2 ko 0;have i0:=(HO.o.off HNO.o hh.rel).inside;rotate_left;have h7:=rq (hh.d 4 7);have ⟨c0,i0⟩:=(HO.o.off HNO.o hh.rel).ci 1 rfl;rotate_left
 ·have h0:=hh.p 0 kw 0;have hB:=Hd (HW.o.off HNW.o hh.rel);have hJ:=Hd hh.st;exact wp_take 121 _ rfl kw 0 (by simpa [go_sem] using h0) _ hB.o (plcs n A c u) rfl _ underlying121 rfl (by kernel_rfl) ⟨_,rfl,TurnP.refl _ _,rfl,hJ.o⟩
 ·have h6:=rq (hh.d 3 6);have h8:=rq (hh.d 5 8);have h9:=rq (hh.d 6 9);obtain ⟨w9,hrun,hs9,ht9⟩:=(hh.st.no hh.un).store HN.o HI.o HH.o (HP.o.turn hh.rel);have hS9:=Hd hs9;have hT9:=Hd ht9;clear hh hs9 ht9;go_simp;exact ⟨hT9.o,⟨undef,trivial⟩,nofun,fun _=>hS9.o⟩
 any_goals (have hJ:=hh.j;clear hh;go_simp;exact ⟨_,rfl,TurnP.refl _ _,rfl,hJ.o⟩)
 intro L w4 val hL hJ hR hv;have HR4:=Hd hR;have HJ4:=Hd (hJ.yes (hL 7 (by decide)));clear hv hL hJ hR;simp only [regs.putAll,List.map_cons,List.map_nil];simp only [Act.put,List.setIfInBounds_toArray,List.set_cons_zero,List.set_cons_succ]
 skip
 go_wp2_with (fail)
 go_end0
 exact ⟨⟨_,rfl⟩,HJ4.o,HR4.o⟩
def setS (x:PSc) (o:Op9):PSc×Int:=
 if has x.t o.i=false then (x,30) else if (setN Nd.plain o).chk≠0 then (x,(setN Nd.plain o).chk) else (⟨x.t,upd x.nd o.i (setN (x.nd o.i) o),x.ws⟩,0)
theorem upd_self {α:Type} (f:Int->α) (i:Int):upd f i (f i)=f:=by
 funext j
 unfold upd;by_cases e:j=i
 ·rw [if_pos e,e]
 ·rw [if_neg e]
theorem upd_upd {α:Type} (f:Int->α) (i:Int) (y z:α):upd (upd f i y) i z=upd f i z:=by
 funext j
 unfold upd;by_cases e:j=i
 ·rw [if_pos e,if_pos e]
 ·rw [if_neg e,if_neg e,if_neg e]
theorem SceneAt.look_b (h:SceneAt w g b m s Z x) {i:Int} (hi:I64 i) (hh:has x.t i=true):∃ A c,∀ W,Below w.heap.size w W->(Instr.lookup tPlaces (.map (some m)) (.int .i64 i) false).run prog W=.ok (.agg (plcs (x.nd i) A c (x.ws i)).toArray) W ∧
  (Instr.lookup tPlaces (.map (some m)) (.int .i64 i) true).run prog W=.ok (.tuple #[.agg (plcs (x.nd i) A c (x.ws i)).toArray,.bool true]) W∧NdOff Z.3 (SFoot b m s x.t) W (x.nd i) A:=by
 obtain ⟨es,hm,-,h2⟩:=h.map;obtain ⟨v,e,A,c,rfl,hv⟩:=h2 i hh;refine ⟨A,c,fun W hb=>?_⟩;have h3:=(hm.below hb).lookup und_places (zero_placed W) hi;have h4:=(hm.below hb).look_ok und_places (zero_placed W) hi;rw [e] at h3 h4;exact ⟨h3,h4,hv.turn (TurnP.below hb)⟩
theorem on_ag (o:Op9) (Ao:Option Addr) (co:Nat) (n:Nd) (An:Option Addr) (cn:Nat) (w:World) :
  Calls prog 155 #[.agg (o.cs Ao co).toArray,.agg (n.cs An cn).toArray] w fun e w'=>e=.returned (.agg ((setN n o).cs (pick7 o Ao An) (pick7 o co cn)).toArray)∧Below w.heap.size w w':=on_any o Ao co n An cn w
theorem setN_lk {n:Nd} {o:Op9} (h:o.k≠7):(setN n o).lk=n.lk:=by
 unfold setN;by_cases h4:o.k=4
 ·rw [if_pos h4]
 rw [if_neg h4];by_cases h5:o.k=5
 ·rw [if_pos h5]
 rw [if_neg h5];by_cases h6:o.k=6
 ·rw [if_pos h6]
 rw [if_neg h6,if_neg h];by_cases h8:o.k=8
 ·rw [if_pos h8]
 rw [if_neg h8]
theorem NdOff.lk {E S:Bset} {w:World} {n n':Nd} {A:Option Addr} (h:NdOff E S w n A) (e:n'.lk=n.lk):NdOff E S w n' A:=
 ⟨by rw [e];exact h.1,by rw [e];exact h.2,by rw [e];exact h.3⟩
theorem enters_set1:Enters prog 157:=enters_of func157 (by kernel_rfl) rfl
theorem fit_plain:Fit Nd.plain:=⟨by decide,(by intro z hz;cases hz),by decide⟩
theorem row_none {w:World} {n:Nd} (h:n.lk.l=[]) (A:Option Addr):Row eW w A n.lk.l:=by
 rw [h];intro hn;exact absurd hn (by simp)
theorem set_any (h:SceneAt w g b m s Z x) (hn:x.t.length<=100000) (o:Op9) (Ao:Option Addr) (co:Nat) (hr:Row eW w Ao o.lk.l) (hfo:Fit { Nd.plain with lk:=o.lk }) (hfx:∀ i,has x.t i=true->Fit (x.nd i)) (hi:I64 o.i) :
  Calls prog 135 #[.pointer (some ⟨g,0,none⟩),o.v Ao co] w (OpQ g b m Z s x (setS x o) w):=by
 unfold Op9.v;have HB0:Hid (Below w.heap.size w ((w.alloc (.cells #[.pointer (some ⟨g,0,none⟩)] 25)).alloc (.cells (o.cs Ao co).toArray 99))):=(bR.alloc nR _).alloc (by simp) _;have HKB0:Hid (Blk ((w.alloc (.cells #[.pointer (some ⟨g,0,none⟩)] 25)).alloc (.cells (o.cs Ao co).toArray 99)) w.heap.size [.pointer (some ⟨g,0,none⟩)]):=(blk_new w [.pointer (some ⟨g,0,none⟩)] _).alloc _;have HKO0:Hid (Blk ((w.alloc (.cells #[.pointer (some ⟨g,0,none⟩)] 25)).alloc (.cells (o.cs Ao co).toArray 99)) (w.heap.size+1) (o.cs Ao co)):=blk_at (w.alloc _) _ (by simp) (o.cs Ao co) _
 have HS0:Hid (SceneAt ((w.alloc (.cells #[.pointer (some ⟨g,0,none⟩)] 25)).alloc (.cells (o.cs Ao co).toArray 99)) g b m s Z x):=h.below HB0.o;have HSI:Hid (∀ k,SFoot b m s x.t k->k<w.heap.size):=h.inside;have HOE:Hid (∀ k,Z.3 k->k<w.heap.size):=fun k hk=>(h.old k hk).1;have HR0:Hid (Row eW ((w.alloc (.cells #[.pointer (some ⟨g,0,none⟩)] 25)).alloc (.cells (o.cs Ao co).toArray 99)) Ao o.lk.l):=Row.below hr HB0.o;have HSZ:Hid (((w.alloc (.cells #[.pointer (some ⟨g,0,none⟩)] 25)).alloc (.cells (o.cs Ao co).toArray 99)).heap.size=w.heap.size+2):=by show _=_;simp
 have HN:=Hd hn;have HFO:=Hd hfo;have HFX:=Hd hfx;have HI:=Hd hi
 obtain ⟨R,hR⟩:∃ R,setS x o=R:=⟨_,rfl⟩
 have HR:=Hd hR;rw [hR];clear hR h hn hr hfo hfx hi;go_enter func135,ntmps135
 go_upto_region 1 with (fail)
 generalize ((w.alloc (.cells #[.pointer (some ⟨g,0,none⟩)] 25)).alloc (.cells (o.cs Ao co).toArray 99))=wz at *;have FS:Hid (∀ W,Below wz.heap.size wz W->SceneAt W g b m s Z x):=fun W hb=>HS0.o.below hb;have FB:Hid (∀ W,Below wz.heap.size wz W->Blk W w.heap.size [.pointer (some ⟨g,0,none⟩)]):=fun W hb=>HKB0.o.below' hb;have FO:Hid (∀ W,Below wz.heap.size wz W->Blk W (w.heap.size+1) (o.cs Ao co)):=fun W hb=>HKO0.o.below' hb;by_cases hh:¬ has x.t o.i=true
 ·have HH:=Hd hh;have HE:Hid (R=(x,30)):=by show _=_;rw [← HR.o];unfold setS;rw [if_pos (by simpa using hh)]
  clear hh
  refine wRv (Below wz.heap.size) (fun L V wx=>JN wz.heap.size [] (Vi) (plzs) (L 10) (L 11) (V 6) wx) [11,12,13,14,15,16,17,10,18,19,6,7] (fun _=>bR) (fun _ _ _ h k=>h.trans k) (fun i=>match i with
   |0|1=>rp g 0
   |2=>rp g 5
   |3=>rV (.map (some m))
   |4=>rp (w.heap.size+1) 1
   |5=>rV (.int .i64 o.i)
   |6|7=>rV (.tuple #[.agg (plzs).toArray,.bool false])
   |8=>rV (.agg (plzs).toArray)
   |9|12=>rV (.bool false)
   | _=>ra) (bR.drew) (JN.start (old:=[]) trivial) ⟨?_,?_,?_,?_,?_,?_,?_,?_,?_,?_,?_,?_,?_,trivial⟩ ?_
  any_goals (first|refine zpv fun L a w1 hh=>?_|fail)
  have h2:=hh.p 2 w.heap.size 0;have ⟨c0,i0⟩:=(FB.o _ hh.rel).ci 0 rfl;rotate_left;have h11:=rq (hh.d 0 11);rotate_left;have h12:=rq (hh.d 1 12);have i0:=((FS.o _ hh.rel).blk.blk).inside;rotate_left;have h13:=rq (hh.d 2 13);have ⟨c0,i0⟩:=((FS.o _ hh.rel).blk.blk).ci 5 rfl;rotate_left;have h3:=hh.p 3 ((w.heap.size+1)) 0;have i0:=(FO.o _ hh.rel).inside;rotate_left;have h15:=rq (hh.d 4 15);have ⟨c0,i0⟩:=(FO.o _ hh.rel).ci 1 rfl;rotate_left;have h14:=rq (hh.d 3 14);have h16:=rq (hh.d 5 16);have hlk:=((FS.o _ hh.rel).look_none HI.o HH.o).2;rotate_left;have h17:=rq (hh.d 6 17)
  rotate_left;have h10:=rq (hh.d 7 10);rotate_left;have h10:=rq (hh.d 7 10);rotate_left
  ·have hJ:=Hd hh.st;have hsz:=Hd hh.size;have hun:=Hd hh.un;clear hh;go_simp;exact ⟨_,rfl,bR.alloc hJ.o.1.2.1 _,trivial,JN.new hJ.o hun.o (regv.sl_same (by rw [hsz.o];simp))⟩
  ·have h18:=rq (hh.d 8 18);have hup:=hh.up 10 (by kernel_rfl);obtain ⟨g9,h9,hg9,hB9⟩:=hh.st.2.1 hup;have h6:a.tmps[6]?.getD undef=.pointer (some ⟨g9,0,none⟩):=rq (h9);rw [hh.un] at hB9;have hJ:=Hd hh.st;have hun:=Hd hh.un;refine wp_stow 121 _ _ rfl g9 0 (by simpa [go_sem] using h6) (plzs) (by simpa [go_sem] using h18) _ hB9 (nE rfl) (by kernel_rfl) (by rfl) ?_;intro w9 hW9 hC9;have hP:=hJ.o.stow hup hun.o h9 hW9 hC9 rfl;exact ⟨undef,rfl,hP.2,trivial,hP.1⟩
  have h19:=rq (hh.d 9 19);rotate_left
  any_goals (have hJ:=hh.j;clear hh;go_simp;exact ⟨_,rfl,bR,rfl,JN.slots hJ.o sn⟩)
  intro L w4 val hL hJ hR hv;have h7:val 7=.bool false:=hv 12 7 (by kernel_rfl);have HR4:=Hd hR;obtain ⟨g6,e6,hg6,hB6⟩:=hJ.2.1 (hL 10 (by decide));clear hv hL hJ hR;simp only [regs.putAll,List.map_cons,List.map_nil,h7];simp only [Act.put,List.setIfInBounds_toArray,List.set_cons_zero,List.set_cons_succ];clear h7;generalize val 11=v11,val 12=v12,val 13=v13,val 14=v14,val 15=v15,val 16=v16,val 17=v17,val 10=v10,val 18=v18,val 19=v19 at *;go_wp2_with (fail);go_ret2;rw [HE.o];exact ⟨_,s,rfl,FS.o _ HR4.o,TurnP.below (HB0.o.trans (HR4.o.mono HB0.o.size)),fun e=>nomatch e⟩
 have hh2:has x.t o.i=true:=by simpa using hh
 have HH:=Hd hh2;have HE1:Hid (R=if (setN Nd.plain o).chk≠0 then (x,(setN Nd.plain o).chk) else (⟨x.t,upd x.nd o.i (setN (x.nd o.i) o),x.ws⟩,0)):=by show _=_;rw [← HR.o];unfold setS;rw [if_neg (by rw [hh2];simp)]
 have HFN:=Hd (HFX.o _ hh2);obtain ⟨A,c,hlk⟩:=HS0.o.look_b HI.o hh2;have FL:=Hd hlk;clear hh hh2 hlk HFX HR
 obtain ⟨n,hn⟩:∃ n,x.nd o.i=n:=⟨_,rfl⟩
 obtain ⟨u,hu⟩:∃ u,x.ws o.i=u:=⟨_,rfl⟩
 have HNU:=Hd (And.intro hn hu);rw [hn] at HFN HE1;rw [hn,hu] at FL;clear hn hu
 refine wRv (Below wz.heap.size) (fun L V wx=>JN wz.heap.size [] (Vi) (plcs n A c u) (L 10) (L 11) (V 6) wx) [11,12,13,14,15,16,17,10,18,19,6,7] (fun _=>bR) (fun _ _ _ h k=>h.trans k) (fun i=>match i with
  |0|1=>rp g 0
  |2=>rp g 5
  |3=>rV (.map (some m))
  |4=>rp (w.heap.size+1) 1
  |5=>rV (.int .i64 o.i)
  |6|7=>rV (.tuple #[.agg (plcs n A c u).toArray,.bool true])
  |8=>rV (.agg (plcs n A c u).toArray)
  |9|12=>rT
  | _=>ra) (bR.drew) (JN.start (old:=[]) trivial) ⟨?_,?_,?_,?_,?_,?_,?_,?_,?_,?_,?_,?_,?_,trivial⟩ ?_
 any_goals (first|refine zpv fun L a w1 hh=>?_|fail)
 have h2:=hh.p 2 w.heap.size 0;have ⟨c0,i0⟩:=(FB.o _ hh.rel).ci 0 rfl;rotate_left;have h11:=rq (hh.d 0 11);rotate_left;have h12:=rq (hh.d 1 12);have i0:=((FS.o _ hh.rel).blk.blk).inside;rotate_left;have h13:=rq (hh.d 2 13);have ⟨c0,i0⟩:=((FS.o _ hh.rel).blk.blk).ci 5 rfl;rotate_left;have h3:=hh.p 3 ((w.heap.size+1)) 0;have i0:=(FO.o _ hh.rel).inside;rotate_left;have h15:=rq (hh.d 4 15);have ⟨c0,i0⟩:=(FO.o _ hh.rel).ci 1 rfl;rotate_left;have h14:=rq (hh.d 3 14);have h16:=rq (hh.d 5 16);have hlk:=(FL.o _ hh.rel).2.1;rotate_left;have h17:=rq (hh.d 6 17);rotate_left
 have h10:=rq (hh.d 7 10);rotate_left;have h10:=rq (hh.d 7 10);rotate_left
 ·have hJ:=Hd hh.st;have hsz:=Hd hh.size;have hun:=Hd hh.un;clear hh;go_simp;exact ⟨_,rfl,bR.alloc hJ.o.1.2.1 _,trivial,JN.new hJ.o hun.o (regv.sl_same (by rw [hsz.o];simp))⟩
 ·have h18:=rq (hh.d 8 18);have hup:=hh.up 10 (by kernel_rfl);obtain ⟨g9,h9,hg9,hB9⟩:=hh.st.2.1 hup;have h6:a.tmps[6]?.getD undef=.pointer (some ⟨g9,0,none⟩):=rq (h9);rw [hh.un] at hB9;have hJ:=Hd hh.st;have hun:=Hd hh.un;refine wp_stow 121 _ _ rfl g9 0 (by simpa [go_sem] using h6) (plcs n A c u) (by simpa [go_sem] using h18) _ hB9 (nE rfl) (by kernel_rfl) (by rfl) ?_;intro w9 hW9 hC9;have hP:=hJ.o.stow hup hun.o h9 hW9 hC9 rfl;exact ⟨undef,rfl,hP.2,trivial,hP.1⟩
 have h19:=rq (hh.d 9 19);rotate_left
 any_goals (have hJ:=hh.j;clear hh;go_simp;exact ⟨_,rfl,bR,rfl,JN.slots hJ.o sn⟩)
 intro L w4 val hL hJ hR hv;have h7:val 7=.bool true:=hv 12 7 (by kernel_rfl);have HR4:=Hd hR;obtain ⟨g6,e6,hg6,hB6⟩:=hJ.2.1 (hL 10 (by decide));have HB6:=Hd (And.intro hg6 (show Blk w4 g6 (plcs n A c u) by rw [hL 11 (by decide)] at hB6;exact hB6));clear hv hL hJ hR hg6 hB6;simp only [regs.putAll,List.map_cons,List.map_nil,h7];simp only [Act.put,List.setIfInBounds_toArray,List.set_cons_zero,List.set_cons_succ];clear h7
 skip
 rw [e6];clear e6;have FS4:Hid (∀ W,regs.bl w4 W->SceneAt W g b m s Z x):=fun W hb=>FS.o W (HR4.o.trans (Below.mono hb HR4.o.size));have FB4:Hid (∀ W,regs.bl w4 W->Blk W w.heap.size [.pointer (some ⟨g,0,none⟩)]):=fun W hb=>FB.o W (HR4.o.trans (Below.mono hb HR4.o.size));have FO4:Hid (∀ W,regs.bl w4 W->Blk W (w.heap.size+1) (o.cs Ao co)):=fun W hb=>FO.o W (HR4.o.trans (Below.mono hb HR4.o.size));have FP4:Hid (∀ W,regs.bl w4 W->Blk W g6 (plcs n A c u)):=fun W hb=>HB6.o.2.below' hb
 have FN4:Hid (∀ W,regs.bl w4 W->NdOff Z.3 (SFoot b m s x.t) W n A):=fun W hb=>(FL.o W (HR4.o.trans (Below.mono hb HR4.o.size))).2.2;have FW4:Hid (∀ W,regs.bl w4 W->Below w.heap.size w W):=fun W hb=>HB0.o.trans ((HR4.o.trans (Below.mono hb HR4.o.size)).mono HB0.o.size);have FR4:Hid (∀ W,regs.bl w4 W->Row eW W Ao o.lk.l):=fun W hb=>Row.below HR0.o (HR4.o.trans (Below.mono hb HR4.o.size));have HG6:Hid (wz.heap.size<=g6):=HB6.o.1
 obtain ⟨e0,he0⟩:∃ e0,(setN Nd.plain o).chk=e0:=⟨_,rfl⟩
 have HCK:Hid (∀ W,regs.bl w4 W->Calls prog 156 #[.agg ((setN Nd.plain o).cs (pick7 o Ao none) (pick7 o co 0)).toArray] W fun e w'=>e=.returned (.int .i64 e0)∧Below W.heap.size W w'):=fun W hb=>by
  have:=check_nd (setN Nd.plain o) (pick7 o Ao none) (pick7 o co 0) (pick_fit HFO.o fit_plain) W (pick_row (FR4.o W hb) (row_none rfl none));rw [he0] at this;exact this
 rw [he0] at HE1;clear he0 HS0 FS FB FO FL HR0 HKB0 HKO0;go_wp2_with (fail)
 refine wRn [22,23,24,25,8] (fun i=>match i with
  |0=>rV (.agg (o.cs Ao co).toArray)
  |1=>rV (.agg (Nd.plain.cs none 0).toArray)
  |2=>rV (.agg ((setN Nd.plain o).cs (pick7 o Ao none) (pick7 o co 0)).toArray)
  |3|4=>rV (.int .i64 e0)
  | _=>ra) ⟨?_,?_,?_,?_,?_,trivial⟩ ?_
 any_goals (first|refine zp fun L a w1 hh=>?_|fail)
 ·have h3:=hh.p 3 ((w.heap.size+1)) 0;have hB:=Hd (FO4.o _ hh.rel);have hJ:=Hd hh.st;exact wp_take 99 _ rfl (w.heap.size+1) 0 (by simpa [go_sem] using h3) _ hB.o (o.cs Ao co) rfl _ underlying99 rfl (by kernel_rfl) ⟨_,rfl,rB,rfl,hJ.o⟩
 ·have hC:=Hd (plain_nd w1);have hJ:=hh.j;clear hh;go_simp;refine hC.o.mono ?_;rintro e w9 ⟨rfl,hb9⟩;exact ⟨_,rfl,hb9,rfl,hJ.o⟩
 ·have h22:=rq (hh.d 0 22);have h23:=rq (hh.d 1 23);have hC:=Hd (on_ag o Ao co Nd.plain none 0 w1);have hJ:=hh.j;clear hh;go_simp;refine hC.o.mono ?_;rintro e w9 ⟨rfl,hb9⟩;exact ⟨_,rfl,hb9,rfl,hJ.o⟩
 ·have h24:=rq (hh.d 2 24);have hC:=Hd (HCK.o _ hh.rel);have hJ:=hh.j;clear hh;go_simp;refine hC.o.mono ?_;rintro e w9 ⟨rfl,hb9⟩;exact ⟨_,rfl,hb9,rfl,hJ.o⟩
 ·have h25:=rq (hh.d 3 25);clear hh;go_simp;exact ⟨_,rfl,rB,rfl,trivial⟩
 intro L w5 val hL hJ hR hv;have h8:val 8=.int .i64 e0:=hv 4 8 (by kernel_rfl);have HR5:=Hd hR;clear hv hL hJ hR HCK;simp only [regs.putAll,List.map_cons,List.map_nil,h8];simp only [Act.put,List.setIfInBounds_toArray,List.set_cons_zero,List.set_cons_succ];clear h8
 skip
 by_cases h0:¬ e0=0
 ·have t5:(e0==0)=false:=by simpa using h0
  have HE2:Hid (R=(x,e0)):=by show _=_;rw [HE1.o,if_pos h0]
  have HNZ:=Hd h0;clear h0 HE1;go_wp2_with (fail);go_ret2;rw [HE2.o];exact ⟨_,s,rfl,FS4.o _ HR5.o,TurnP.below (FW4.o _ HR5.o),fun e=>absurd e HNZ.o⟩
 obtain rfl:e0=0:=by simpa using h0
 have HE2:Hid (R=(⟨x.t,upd x.nd o.i (setN n o),x.ws⟩,0)):=by show _=_;rw [HE1.o,if_neg (by simp)]
 clear h0 HE1
 obtain ⟨N,hN⟩:∃ N,setN n o=N:=⟨_,rfl⟩
 have HNN:=Hd hN;rw [hN] at HE2;have HFITN:Hid (Fit N):=by rw [← hN];exact pick_fit ⟨HFO.o.p,HFO.o.l,HFO.o.len⟩ HFN.o
 have HON:=Hd (fun W=>on_ag o Ao co n A c W);rw [hN] at HON;clear hN;have HO5:=Hd (FO4.o _ HR5.o);have HP5:=Hd (FP4.o _ HR5.o);go_wp2_with (first | (with_reducible refine gL ?_;first | (refine wt 99 0 rfl rfl rfl HO5.o (o.cs Ao co) rfl underlying99 rfl ?_) | (refine wt 93 0 rfl rfl rfl HP5.o (n.cs A c) rfl underlying93 rfl ?_)));refine (HON.o _).mono ?_;rintro e w6 ⟨rfl,hb6⟩;have HB56:Hid (regs.bl w4 w6):=Below.trans HR5.o (hb6.mono HR5.o.size);have HZ6:Hid (Blk (w6.alloc (.cells Va.toArray 93)) w6.heap.size Va):=blk_new w6 Va _
 have HB67:Hid (Below w6.heap.size w6 (w6.alloc (.cells Va.toArray 93))):=bR.alloc nR _;clear hb6 HO5 HP5
 go_upto_region 8 with (first | (with_reducible refine gS ?_;first | (refine wpl_stow 93 _ _ rfl rfl rfl _ 0 rfl (N.cs (pick7 o Ao A) (pick7 o co c)) rfl (Va) HZ6.o (N.cs (pick7 o Ao A) (pick7 o co c)) rfl (nE rfl) (by kernel_rfl) (Nd.one _ _ _) ?_;intro w7 HW7 HK7)))
 have HB7:Hid (Below w6.heap.size w6 w7):=HW7.o.below HB67.o nR;have HB47:Hid (regs.bl w4 w7):=Below.trans HB56.o (HB7.o.mono HB56.o.size)
 obtain ⟨k9,hk9⟩:∃ k9,w6.heap.size=k9:=⟨_,rfl⟩
 have HK9:Hid (w6.heap.size=k9):=hk9;rw [hk9] at HK7 HW7 ⊢;have HS9:Hid (∀ k,SFoot b m s x.t k->k<k9):=fun k hk=>by rw [← HK9.o];exact (FS4.o _ HB56.o).inside k hk
 have HX9:Hid (g6<k9∧w.heap.size+1<k9):=by
  have h1:=(FP4.o _ HB56.o).inside;have h2:=(FO4.o _ HB56.o).inside;rw [HK9.o] at h1 h2;exact ⟨h1,h2⟩
 clear hk9 HZ6 HB67 HB7 HW7 HON;have c0:=(FO4.o _ HB47.o).c 0 rfl;have i0:w.heap.size+1<w7.heap.size:=(FO4.o _ HB47.o).inside;by_cases h7:o.k=7
 ·have t7:(o.k==7)=true:=by simpa using h7
  have HCP:=Hd (copy_nd N (pick7 o Ao A) (pick7 o co c) (by have:=HFITN.o.len;omega) w7 (by rw [← HNN.o];exact pick_row (FR4.o _ HB47.o) (FN4.o _ HB47.o).1) Z.3 (SFoot b m s x.t) (fun k hk=>((FS4.o _ HB47.o).old k hk).1) (fun k hk=>(FS4.o _ HB47.o).inside k hk));unfold CopyN at HCP;clear h7;go_wp2_with (first | (with_reducible refine gL ?_;first | (refine wt 93 0 rfl rfl rfl HK7.o (N.cs (pick7 o Ao A) (pick7 o co c)) rfl underlying93 rfl ?_)));refine HCP.o.mono ?_;rintro e w8 ⟨A9,c9,rfl,hnd8,hb8,hge8⟩;have HK8:=Hd (HK7.o.below' hb8)
  have HB48:Hid (regs.bl w4 w8):=Below.trans HB47.o (hb8.mono HB47.o.size);have HN8:=Hd hnd8;have HG8:Hid (∀ a,A9=some a->N.lk.l≠[]->a.block≠k9):=fun a ea hne e=>by have:=hge8 a ea hne;have:=HK7.o.inside;omega
  have hsz:w4.heap.size<=k9:=by rw [← HK9.o];exact HB56.o.size
  have HSZ4:=Hd hsz;clear hb8 hnd8 hge8 HCP hsz
  go_upto_region 10 with (first | (with_reducible refine gS ?_;first | (refine wpl_stow 93 _ _ rfl rfl rfl _ 0 rfl (N.cs A9 c9) rfl (N.cs (pick7 o Ao A) (pick7 o co c)) HK8.o (N.cs A9 c9) rfl (nE rfl) (by kernel_rfl) (Nd.one _ _ _) ?_;intro w9 HW9 HK)))
  have HB49:Hid (regs.bl w4 w9):=HW9.o.below HB48.o HSZ4.o
  have HND:Hid (NdOff Z.3 (SFoot b m s x.t) w9 N A9):=⟨Row.stays HN8.o.1 fun a ea hne=>HW9.o.far (HG8.o a ea hne),HN8.o.2,HN8.o.3⟩
  have HS:=Hd (FS4.o _ HB49.o);have HB:=Hd (FB4.o _ HB49.o);have HO:=Hd (FO4.o _ HB49.o);have HP:=Hd (FP4.o _ HB49.o);have HNB:Hid (¬ SFoot b m s x.t w.heap.size):=fun e=>by have:=HSI.o _ e;omega
  have HNO:Hid (¬ SFoot b m s x.t (w.heap.size+1)):=fun e=>by have:=HSI.o _ e;omega
  have HNK:Hid (¬ SFoot b m s x.t k9):=fun e=>by have:=HS9.o _ e;omega
  have HNP:Hid (¬ SFoot b m s x.t g6):=fun e=>by have:=HSI.o _ e;have:=HG6.o;have:=HSZ.o;omega
  have HEB:Hid (¬ Z.3 w.heap.size):=fun e=>by have:=HOE.o _ e;omega
  have HEO:Hid (¬ Z.3 (w.heap.size+1)):=fun e=>by have:=HOE.o _ e;omega
  have HEP:Hid (¬ Z.3 g6):=fun e=>by have:=HOE.o _ e;have:=HG6.o;have:=HSZ.o;omega
  have HGT:=Hd HS.o.blk;have HNG:=Hd HS.o.gfar;have HND0:=Hd (FN4.o _ HB49.o)
  refine wR (TurnP (SFoot b m s x.t) (SFoot b m s x.t)) (fun L wx=>ScJ g b m s Z x ⟨x.t,upd x.nd o.i N,upd x.ws o.i u⟩ (L 10) wx) [38,39,40,41,42,43,44,45,46,47] (fun _=>TurnP.refl _ _) (fun _ _ _ h k=>h.trans k) (fun i=>match i with
   |0|1=>rp g 0
   |2=>rp g 5
   |3=>rV (.map (some m))
   |4=>rp (w.heap.size+1) 1
   |5=>rV (.int .i64 o.i)
   |6=>rV (.agg (N.cs A9 c9).toArray)
   |7=>rp g6 20
   |8=>rV (.agg (u.cs).toArray)
   |9=>rV (.agg (plcs N A9 c9 u).toArray)
   | _=>ra) (TurnP.below bR.drew) (⟨fun _=>HS.o.below bR.drew,nofun⟩) ⟨?_,?_,?_,?_,?_,?_,?_,?_,?_,?_,?_,trivial⟩ ?_
  any_goals (first|refine zp fun L a w1 hh=>?_|fail)
  have h2:=hh.p 2 w.heap.size 0;have ⟨c0,i0⟩:=(HB.o.off HNB.o hh.rel).ci 0 rfl;rotate_left;have h38:=rq (hh.d 0 38);rotate_left;have h39:=rq (hh.d 1 39);have i0:=((BlkT.off HGT.o HNG.o hh.rel).blk).inside;rotate_left;have h40:=rq (hh.d 2 40);have ⟨c0,i0⟩:=((BlkT.off HGT.o HNG.o hh.rel).blk).ci 5 rfl;rotate_left;have h3:=hh.p 3 ((w.heap.size+1)) 0;have i0:=(HO.o.off HNO.o hh.rel).inside;rotate_left;have h42:=rq (hh.d 4 42);have ⟨c0,i0⟩:=(HO.o.off HNO.o hh.rel).ci 1 rfl;rotate_left
  ·have h9:=hh.p 9 k9 0;have hB:=Hd (HK.o.off HNK.o hh.rel);have hJ:=Hd hh.st;exact wp_take 93 _ rfl k9 0 (by simpa [go_sem] using h9) _ hB.o (N.cs A9 c9) rfl _ underlying93 rfl (by kernel_rfl) ⟨_,rfl,TurnP.refl _ _,rfl,hJ.o⟩
  have h6:=hh.p 6 g6 0;have i0:=(HP.o.off HNP.o hh.rel).inside;rotate_left
  ·have h45:=rq (hh.d 7 45);have hB:=Hd (HP.o.off HNP.o hh.rel);have hJ:=Hd hh.st;exact wp_take 65 _ rfl g6 20 (by simpa [go_sem] using h45) _ hB.o (u.cs) rfl _ underlying65 rfl (by kernel_rfl) ⟨_,rfl,TurnP.refl _ _,rfl,hJ.o⟩
  ·have h44:=rq (hh.d 6 44);have h46:=rq (hh.d 8 46);have hJ:=Hd hh.st;exact wp_build _ _ rfl (by simp [go_sem,h44,h46]) (build_placed N A9 c9 u w1) ⟨_,rfl,TurnP.refl _ _,rfl,hJ.o⟩
  ·have h41:=rq (hh.d 3 41);have h43:=rq (hh.d 5 43);have h47:=rq (hh.d 9 47);obtain ⟨w9,hrun,hs9,ht9⟩:=(hh.st.no hh.un).store HN.o HI.o HH.o (show PlAt Z.3 (SFoot b m s x.t) w1 (.agg (plcs N A9 c9 u).toArray) N u from ⟨_,_,rfl,HND.o.turn hh.rel⟩);have hS9:=Hd hs9;have hT9:=Hd ht9;clear hh hs9 ht9;go_simp;exact ⟨hT9.o,⟨undef,trivial⟩,nofun,fun _=>hS9.o⟩
  any_goals (have hJ:=hh.j;clear hh;go_simp;exact ⟨_,rfl,TurnP.refl _ _,rfl,hJ.o⟩)
  intro L w11 val hL hJ hR hv;have HR11:=Hd hR;have HJ11:=Hd (hJ.yes (hL 10 (by decide)));clear hv hL hJ hR;simp only [regs.putAll,List.map_cons,List.map_nil];simp only [Act.put,List.setIfInBounds_toArray,List.set_cons_zero,List.set_cons_succ];generalize val 38=v38,val 39=v39,val 40=v40,val 41=v41,val 42=v42,val 43=v43,val 44=v44,val 45=v45,val 46=v46,val 47=v47 at *
  have HS5:Hid (SceneAt w11 g b m s Z R.1):=by
   show SceneAt _ _ _ _ _ _ _;have:=HJ11.o;rw [← HNU.o.2,upd_self] at this;rw [HE2.o];exact this
  clear HJ11;go_wp2_with (fail);go_ret2;rw [HE2.o] at HS5 ⊢;have ht:TurnP (SFoot b m s x.t) (SFoot b m s x.t) w w11:=(TurnP.below (FW4.o _ HB49.o)).trans HR11.o;refine ⟨_,s,rfl,HS5.o,ht,fun _=>⟨fun k=>(k=g6∨k=w.heap.size∨k=w.heap.size+1)∨∃ a,A=some a∧n.lk.l≠[]∧k=a.block,_,_,rfl,enters_set1,?_,?_⟩⟩
  ·rintro k ((rfl | rfl | rfl) | ⟨a,ea,hne,rfl⟩)
   ·exact ⟨Nat.lt_of_lt_of_le HP.o.inside HR11.o.size,fun e=>e.elim HNP.o HEP.o⟩
   ·exact ⟨Nat.lt_of_lt_of_le HB.o.inside HR11.o.size,fun e=>e.elim HNB.o HEB.o⟩
   ·exact ⟨Nat.lt_of_lt_of_le HO.o.inside HR11.o.size,fun e=>e.elim HNO.o HEO.o⟩
   ·exact ⟨Nat.lt_of_lt_of_le (Row.lt HND0.o.1 ea hne) HR11.o.size,fun e=>e.elim (HND0.o.2 a ea hne) (HND0.o.3 a ea hne)⟩
  ·intro W s1 E hK hs1;have hblk:∀ {k:Nat} {cs:List Value},Blk w9 k cs->¬ SFoot b m s x.t k->W.heap[k]?=w11.heap[k]?->Blk W k cs:=fun h1 h2 h3=>h1.stays (h3.trans (HR11.o.far _ h1.inside h2).2)
   have hnd:NdOff E (SFoot b m s1 x.t) W n A:=⟨Row.stays HND0.o.1 fun a ea hne=>((hK _ (.inr ⟨a,ea,hne,rfl⟩)).1).trans (HR11.o.far _ (Row.lt HND0.o.1 ea hne) (HND0.o.2 a ea hne)).2,fun a ea hne=>(hK _ (.inr ⟨a,ea,hne,rfl⟩)).2.1,fun a ea hne=>(hK _ (.inr ⟨a,ea,hne,rfl⟩)).2.2⟩
   refine (set_back hs1 HN.o (hblk HP.o HNP.o (hK _ (.inl (.inl rfl))).1) (hblk HB.o HNB.o (hK _ (.inl (.inr (.inl rfl)))).1) (hblk HO.o HNO.o (hK _ (.inl (.inr (.inr rfl)))).1) (hK _ (.inl (.inl rfl))).2.1 (hK _ (.inl (.inr (.inl rfl)))).2.1 (hK _ (.inl (.inr (.inr rfl)))).2.1 hnd HI.o HH.o).mono ?_;rintro e W' ⟨he,h5,h6⟩;refine ⟨he,s1,?_,h6⟩;have e1:(⟨x.t,upd (upd x.nd o.i N) o.i n,upd x.ws o.i u⟩:PSc)=x:=by rw [upd_upd,← HNU.o.1,← HNU.o.2,upd_self,upd_self]
   rw [e1] at h5;exact h5
 have t7:(o.k==7)=false:=by simpa using h7
 have HND:Hid (NdOff Z.3 (SFoot b m s x.t) w7 N A):=(FN4.o _ HB47.o).lk (by rw [← HNN.o];exact setN_lk h7)
 have HK:Hid (Blk w7 k9 (N.cs A c)):=by
  have:=HK7.o;rw [show pick7 o Ao A=A from if_neg h7,show pick7 o co c=c from if_neg h7] at this;exact this
 clear h7 HK7;have HS:=Hd (FS4.o _ HB47.o);have HB:=Hd (FB4.o _ HB47.o);have HO:=Hd (FO4.o _ HB47.o);have HP:=Hd (FP4.o _ HB47.o);have HNB:Hid (¬ SFoot b m s x.t w.heap.size):=fun e=>by have:=HSI.o _ e;omega
 have HNO:Hid (¬ SFoot b m s x.t (w.heap.size+1)):=fun e=>by have:=HSI.o _ e;omega
 have HNK:Hid (¬ SFoot b m s x.t k9):=fun e=>by have:=HS9.o _ e;omega
 have HNP:Hid (¬ SFoot b m s x.t g6):=fun e=>by have:=HSI.o _ e;have:=HG6.o;have:=HSZ.o;omega
 have HEB:Hid (¬ Z.3 w.heap.size):=fun e=>by have:=HOE.o _ e;omega
 have HEO:Hid (¬ Z.3 (w.heap.size+1)):=fun e=>by have:=HOE.o _ e;omega
 have HEP:Hid (¬ Z.3 g6):=fun e=>by have:=HOE.o _ e;have:=HG6.o;have:=HSZ.o;omega
 have HGT:=Hd HS.o.blk;have HNG:=Hd HS.o.gfar;have HND0:=Hd (FN4.o _ HB47.o)
 go_upto_region 10 with (fail)
 refine wR (TurnP (SFoot b m s x.t) (SFoot b m s x.t)) (fun L wx=>ScJ g b m s Z x ⟨x.t,upd x.nd o.i N,upd x.ws o.i u⟩ (L 10) wx) [38,39,40,41,42,43,44,45,46,47] (fun _=>TurnP.refl _ _) (fun _ _ _ h k=>h.trans k) (fun i=>match i with
  |0|1=>rp g 0
  |2=>rp g 5
  |3=>rV (.map (some m))
  |4=>rp (w.heap.size+1) 1
  |5=>rV (.int .i64 o.i)
  |6=>rV (.agg (N.cs A c).toArray)
  |7=>rp g6 20
  |8=>rV (.agg (u.cs).toArray)
  |9=>rV (.agg (plcs N A c u).toArray)
  | _=>ra) (TurnP.below bR.drew) (⟨fun _=>HS.o.below bR.drew,nofun⟩) ⟨?_,?_,?_,?_,?_,?_,?_,?_,?_,?_,?_,trivial⟩ ?_
 any_goals (first|refine zp fun L a w1 hh=>?_|fail)
 have h2:=hh.p 2 w.heap.size 0;have ⟨c0,i0⟩:=(HB.o.off HNB.o hh.rel).ci 0 rfl;rotate_left;have h38:=rq (hh.d 0 38);rotate_left;have h39:=rq (hh.d 1 39);have i0:=((BlkT.off HGT.o HNG.o hh.rel).blk).inside;rotate_left;have h40:=rq (hh.d 2 40);have ⟨c0,i0⟩:=((BlkT.off HGT.o HNG.o hh.rel).blk).ci 5 rfl;rotate_left;have h3:=hh.p 3 ((w.heap.size+1)) 0;have i0:=(HO.o.off HNO.o hh.rel).inside;rotate_left;have h42:=rq (hh.d 4 42);have ⟨c0,i0⟩:=(HO.o.off HNO.o hh.rel).ci 1 rfl;rotate_left
 ·have h9:=hh.p 9 k9 0;have hB:=Hd (HK.o.off HNK.o hh.rel);have hJ:=Hd hh.st;exact wp_take 93 _ rfl k9 0 (by simpa [go_sem] using h9) _ hB.o (N.cs A c) rfl _ underlying93 rfl (by kernel_rfl) ⟨_,rfl,TurnP.refl _ _,rfl,hJ.o⟩
 have h6:=hh.p 6 g6 0;have i0:=(HP.o.off HNP.o hh.rel).inside;rotate_left
 ·have h45:=rq (hh.d 7 45);have hB:=Hd (HP.o.off HNP.o hh.rel);have hJ:=Hd hh.st;exact wp_take 65 _ rfl g6 20 (by simpa [go_sem] using h45) _ hB.o (u.cs) rfl _ underlying65 rfl (by kernel_rfl) ⟨_,rfl,TurnP.refl _ _,rfl,hJ.o⟩
 ·have h44:=rq (hh.d 6 44);have h46:=rq (hh.d 8 46);have hJ:=Hd hh.st;exact wp_build _ _ rfl (by simp [go_sem,h44,h46]) (build_placed N A c u w1) ⟨_,rfl,TurnP.refl _ _,rfl,hJ.o⟩
 ·have h41:=rq (hh.d 3 41);have h43:=rq (hh.d 5 43);have h47:=rq (hh.d 9 47);obtain ⟨w9,hrun,hs9,ht9⟩:=(hh.st.no hh.un).store HN.o HI.o HH.o (show PlAt Z.3 (SFoot b m s x.t) w1 (.agg (plcs N A c u).toArray) N u from ⟨_,_,rfl,HND.o.turn hh.rel⟩);have hS9:=Hd hs9;have hT9:=Hd ht9;clear hh hs9 ht9;go_simp;exact ⟨hT9.o,⟨undef,trivial⟩,nofun,fun _=>hS9.o⟩
 any_goals (have hJ:=hh.j;clear hh;go_simp;exact ⟨_,rfl,TurnP.refl _ _,rfl,hJ.o⟩)
 intro L w11 val hL hJ hR hv;have HR11:=Hd hR;have HJ11:=Hd (hJ.yes (hL 10 (by decide)));clear hv hL hJ hR;simp only [regs.putAll,List.map_cons,List.map_nil];simp only [Act.put,List.setIfInBounds_toArray,List.set_cons_zero,List.set_cons_succ]
 skip
 have HS5:Hid (SceneAt w11 g b m s Z R.1):=by
  show SceneAt _ _ _ _ _ _ _;have:=HJ11.o;rw [← HNU.o.2,upd_self] at this;rw [HE2.o];exact this
 clear HJ11;go_wp2_with (fail);go_ret2;rw [HE2.o] at HS5 ⊢;have ht:TurnP (SFoot b m s x.t) (SFoot b m s x.t) w w11:=(TurnP.below (FW4.o _ HB47.o)).trans HR11.o;refine ⟨_,s,rfl,HS5.o,ht,fun _=>⟨fun k=>(k=g6∨k=w.heap.size∨k=w.heap.size+1)∨∃ a,A=some a∧n.lk.l≠[]∧k=a.block,_,_,rfl,enters_set1,?_,?_⟩⟩
 ·rintro k ((rfl | rfl | rfl) | ⟨a,ea,hne,rfl⟩)
  ·exact ⟨Nat.lt_of_lt_of_le HP.o.inside HR11.o.size,fun e=>e.elim HNP.o HEP.o⟩
  ·exact ⟨Nat.lt_of_lt_of_le HB.o.inside HR11.o.size,fun e=>e.elim HNB.o HEB.o⟩
  ·exact ⟨Nat.lt_of_lt_of_le HO.o.inside HR11.o.size,fun e=>e.elim HNO.o HEO.o⟩
  ·exact ⟨Nat.lt_of_lt_of_le (Row.lt HND0.o.1 ea hne) HR11.o.size,fun e=>e.elim (HND0.o.2 a ea hne) (HND0.o.3 a ea hne)⟩
 ·intro W s1 E hK hs1;have hblk:∀ {k:Nat} {cs:List Value},Blk w7 k cs->¬ SFoot b m s x.t k->W.heap[k]?=w11.heap[k]?->Blk W k cs:=fun h1 h2 h3=>h1.stays (h3.trans (HR11.o.far _ h1.inside h2).2)
  have hnd:NdOff E (SFoot b m s1 x.t) W n A:=⟨Row.stays HND0.o.1 fun a ea hne=>((hK _ (.inr ⟨a,ea,hne,rfl⟩)).1).trans (HR11.o.far _ (Row.lt HND0.o.1 ea hne) (HND0.o.2 a ea hne)).2,fun a ea hne=>(hK _ (.inr ⟨a,ea,hne,rfl⟩)).2.1,fun a ea hne=>(hK _ (.inr ⟨a,ea,hne,rfl⟩)).2.2⟩
  refine (set_back hs1 HN.o (hblk HP.o HNP.o (hK _ (.inl (.inl rfl))).1) (hblk HB.o HNB.o (hK _ (.inl (.inr (.inl rfl)))).1) (hblk HO.o HNO.o (hK _ (.inl (.inr (.inr rfl)))).1) (hK _ (.inl (.inl rfl))).2.1 (hK _ (.inl (.inr (.inl rfl)))).2.1 (hK _ (.inl (.inr (.inr rfl)))).2.1 hnd HI.o HH.o).mono ?_;rintro e W' ⟨he,h5,h6⟩;refine ⟨he,s1,?_,h6⟩;have e1:(⟨x.t,upd (upd x.nd o.i N) o.i n,upd x.ws o.i u⟩:PSc)=x:=by rw [upd_upd,← HNU.o.1,← HNU.o.2,upd_self,upd_self]
  rw [e1] at h5;exact h5
end
end
end Go.Proofs.YthoildbfghfhpaaGreat
