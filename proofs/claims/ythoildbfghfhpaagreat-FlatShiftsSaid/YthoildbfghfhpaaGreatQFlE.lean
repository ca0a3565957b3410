import Derived.Test.YthoildbfghfhpaaGreatQFlD
set_option maxHeartbeats 16000000
set_option maxRecDepth 100000
namespace Go.Proofs.YthoildbfghfhpaaGreat
open Go.RowKit pxm imm trm Go.Maps itr
theorem fback_ok {m:Mp} (h:m.right=true) (h0:m.back.2=0):m.back.1.right=true:=by
 unfold Mp.back at h0 ⊢;rw [if_neg (by rw [h];decide)] at h0 ⊢;by_cases hd:m.det=0
 ·rw [if_pos hd] at h0;cases h0
 ·rw [if_neg hd] at h0 ⊢;by_cases h4:allR m.bk.l4=true
  ·rw [if_pos h4];unfold Mp.right allR Mp.l at h ⊢;unfold allR Mp.l4 at h4;simp only [List.all_cons,List.all_nil,Bool.and_true,Bool.and_eq_true] at h h4 ⊢;exact ⟨h4.1,h4.2.1,h4.2.2.1,h4.2.2.2,h.2.2.2.2.1,h.2.2.2.2.2⟩
  ·rw [if_neg h4] at h0;cases h0
def upOf (x:PSc) (i:Int):Option Dn:=if i=0 then some Dn.top else downOf x (par x.t i)
theorem downOf_up {x:PSc} (ok:Ok x.t) {i:Int} (hi:i=0∨i∈ids x.t):downOf x i=Dn.step (x.nd i) (x.ws i) (upOf x i):=by
 unfold upOf;rcases hi with rfl | hi
 ·rw [if_pos rfl,downOf_0]
 ·rw [if_neg (ok.ne0 hi),downOf_step ok hi]
theorem step_some {n:Nd} {w:Mp} {d:Option Dn} {q:Dn} (h:Dn.step n w d=some q):∃ d0,d=some d0∧d0.ok n w=true∧q=d0.to n w:=by
 cases d with
 | none=>cases h
 | some d=>
  simp only [Dn.step,Option.bind_some] at h;split at h
  ·injection h with h
   exact ⟨d,rfl,by assumption,h.symm⟩
  ·cases h
theorem Dn.ok_back {d:Dn} {n:Nd} {w:Mp} (h:d.ok n w=true):w.back.2=0:=by
 unfold Dn.ok at h;simp only [Bool.and_eq_true,decide_eq_true_eq] at h;exact h.2.1
structure DnOk (d:Dn) (n:Nat):Prop where
 b:d.b.right=true
 c:∀ c∈d.c,c.b.right=true
 len:d.c.length<=n
 o:d.o<256
theorem step_ok {n:Nd} {w:Mp} {d:Option Dn} {q:Dn} {k:Nat} (h:Dn.step n w d=some q) (hn:n.chk=0) (hw:w.right=true) (hd:∀ d0,d=some d0->(∀ c∈d0.c,c.b.right=true)∧d0.c.length<=k∧d0.o<256):DnOk q (k+1):=by
 obtain ⟨d0,hd0,hok,rfl⟩:=step_some h;obtain ⟨h1,h2,h3⟩:=hd d0 hd0;have hb:=fback_ok hw (Dn.ok_back hok);refine ⟨hb,fun c hc=>?_,?_,by_lt h3 (op_lt hn).1⟩
 ·unfold Dn.to at hc;simp only at hc;split at hc
  ·rcases List.mem_cons.1 hc with e | e
   ·rw [e];exact hb
   ·exact h1 c e
  ·exact h1 c hc
 ·unfold Dn.to;simp only;split
  ·rw [List.length_cons];omega
  ·omega
theorem down_ok {x:PSc} (hg:Good x) (ok:Ok x.t) (hw:∀ i,has x.t i=true->(x.ws i).right=true):∀ {i:Int},i=0∨i∈ids x.t->∀ q,downOf x i=some q->DnOk q (depth x.t i+1):=by
 intro i hi;refine ok.climb (P:=fun i=>∀ q,downOf x i=some q->DnOk q (depth x.t i+1)) (fun q h=>?_) (fun i hi ih q h=>?_) hi
 ·rw [downOf_0] at h;have h1:=step_ok (k:=0) h (hg 0) (hw 0 (has_iff.2 (.inl rfl))) (fun d0 e=>by injection e with e;rw [← e];exact ⟨(fun _ hc=>nomatch hc),nR,by decide⟩);exact ⟨h1.b,h1.c,by have:=h1.len;omega,h1.o⟩
 ·rw [downOf_step ok hi] at h;rw [depth_step ok hi]
  exact step_ok h (hg i) (hw i (has_iff.2 (.inr hi))) fun d0 e=>⟨(ih d0 e).c,(ih d0 e).len,(ih d0 e).o⟩
theorem item_ok {x:PSc} (hg:Good x) (hf:∀ i,Fit (x.nd i)) (ok:Ok x.t) (hw:∀ i,has x.t i=true->(x.ws i).right=true) (hn:x.t.length<=900) {i:Int} (hi:i=0∨i∈ids x.t) {q:It} (h:itemOf x i=some q):q.Ok:=by
 unfold itemOf at h;cases hd:downOf x i with
 | none=>rw [hd] at h;cases h
 | some d=>
  rw [hd,Option.bind_some] at h;split at h
  ·cases h
  ·injection h with h
   subst h;have h1:=down_ok hg ok hw hi d hd;have h2:=depth_le ok hi;exact ⟨h1.b,fun c hc=>h1.c c (List.mem_reverse.1 hc),by rw [List.length_reverse];have:=h1.len;omega,h1.o,(ndC_zero (hg i)).2.2.1,(hf i).len,(hf i).p,(hf i).l⟩
abbrev tItem:TypeId:=76
abbrev tItems:TypeId:=59
abbrev tDown:TypeId:=144
abbrev tDowns:TypeId:=145
theorem und_downs:Tryz.prog.underlying tDowns=some (.map 3 tDown):=Tryz.underlying145
theorem zero_down (w:World):(zeroValue tDown).run Tryz.prog w=.ok (.agg (dnC ⟨Mp.o,0,[]⟩ none).toArray) w:=by kernel_rfl
theorem info_item:(Tryz.prog.info? tItem).map (fun i=>(i.zero,i.size,i.bytes))=some (some (.agg #[.int .i64 0,.int .i64 0,.int .i64 0,.int .i64 0,.int .i64 0,.int .i64 0,.int .i64 0,.int .i64 0,.int .i64 0,.int .i64 0,.int .i64 0,.int .i64 0,.int .i64 0,.slice none 0 0,.int .i64 0,.int .i64 0,.int .i64 0,.int .i64 0,.int .u32 0,.int .i64 0,.int .i64 0,.slice none 0 0]),22,208):=by kernel_rfl
theorem ItR.plain (q:ItR):∀ u∈q.cs,u.oneCell'=true:=fun u hu=>List.all_eq_true.1 q.one u hu
theorem SRow.stay2 {α:Type} {k:Nat} {enc:α->List Value} {w w':World} {A:Option Addr} {l:List α} (h:SRow k enc w A l) (hb:∀ a,A=some a->l≠[]->w'.heap[a.block]?=w.heap[a.block]?):SRow k enc w' A l:=fun hn=>by
 obtain ⟨b,o,e,hc⟩:=h hn;have hne:l≠[]:=fun e=>by rw [e] at hn;exact absurd hn (by simp)
 refine ⟨b,o,e,fun j hj i u hu=>?_⟩;rw [← hc j hj i u hu];unfold World.cell?;rw [hb _ e hne]
theorem SRow.cells2 {α:Type} {k:Nat} {enc:α->List Value} {w w':World} {A:Option Addr} {l:List α} (h:SRow k enc w A l) (hk:∀ a v,w.cell? a=some v->w'.cell? a=some v):SRow k enc w' A l:=fun hn=>by
 obtain ⟨b,o,e,hc⟩:=h hn;exact ⟨b,o,e,fun j hj i u hu=>hk _ _ (hc j hj i u hu)⟩
theorem Row.cells2 {w w':World} {A:Option Addr} {l:List Nat} (h:Row eW w A l) (hk:∀ a v,w.cell? a=some v->w'.cell? a=some v):Row eW w' A l:=fun hn=>by
 obtain ⟨b,o,e,hc⟩:=h hn;exact ⟨b,o,e,fun j hj=>hk _ _ (hc j hj)⟩
structure ItFar (base:Nat) (v:Value) (q:ItR):Prop where
 c:∀ a,q.Ac=some a->q.it.c≠[]->base<=a.block∧v.ownBlock≠some a.block
 p:∀ a,q.A=some a->q.it.lk.l≠[]->base<=a.block∧v.ownBlock≠some a.block
structure Its (w:World) (base:Nat) (v:Value) (l:List ItR):Prop where
 own:SOwn tItem 22 ItR.cs w base v l
 at_:∀ q∈l,ItAt w q∧ItFar base v q
theorem cl_first (c:Cl):∃ v r,c.cs=v::r:=⟨_,_,rfl⟩
theorem ItAt.stays {w w':World} {q:ItR} (h:ItAt w q) (h1:∀ a,q.Ac=some a->q.it.c≠[]->w'.heap[a.block]?=w.heap[a.block]?) (h2:∀ a,q.A=some a->q.it.lk.l≠[]->w'.heap[a.block]?=w.heap[a.block]?):ItAt w' q:=⟨h.clips.stay2 h1,Row.stays h.px h2⟩
theorem Its.stays {w w':World} {base:Nat} {v:Value} {l:List ItR} (h:Its w base v l) (hb:∀ k,base<=k->k<w.heap.size->w'.heap[k]?=w.heap[k]?):Its w' base v l:=
 ⟨SOwn.stays h.own fun g hg=>hb g (h.own.block hg).1 (h.own.block hg).2,fun q hq=>⟨(h.at_ q hq).1.stays (fun a ea hne=>hb _ ((h.at_ q hq).2.c a ea hne).1 (SRow.blt (h.at_ q hq).1.clips cl_first ea hne)) (fun a ea hne=>hb _ ((h.at_ q hq).2.p a ea hne).1 (Row.lt (h.at_ q hq).1.px ea hne)),(h.at_ q hq).2⟩⟩
theorem Its.below {w w':World} {base:Nat} {v:Value} {l:List ItR} (h:Its w base v l) (hb:Below w.heap.size w w'):Its w' base v l:=h.stays fun k _ hk=>hb.block k hk
theorem Its.bk {w w':World} {base B:Nat} {v:Value} {l:List ItR} (h:Its w base v l) (hb:Bk B w w'):Its w' base v l:=
 ⟨SOwn.bk h.own hb,fun q hq=>⟨⟨(h.at_ q hq).1.clips.cells2 fun _ _=>cell_bk hb,Row.cells2 (h.at_ q hq).1.px fun _ _=>cell_bk hb⟩,(h.at_ q hq).2⟩⟩
theorem Its.nil (w:World) (base:Nat):Its w base (.slice none 0 0) []:=⟨SOwn.nil _ _,fun _ hq=>nomatch hq⟩
theorem Its.app {w:World} {base:Nat} {v:Value} {l:List ItR} (h:Its w base v l) (q:ItR) {g c:Nat} (hx:SRow 22 ItR.cs w (some ⟨g,0,none⟩) [q]) (hq:ItAt w q) (hf:ItFar base v q) (hn:l.length<=2000) (hbase:base<=w.heap.size) :
  ∃ v' w',(Builtin.append_ #[tItems,tItems] tItems #[v,.slice (some ⟨g,0,none⟩) 1 c]).run Tryz.prog w=.ok v' w'∧Its w' base v' (l++[q])∧w.grownBy w' v.ownBlock∧(v'.ownBlock=v.ownBlock∨v'.ownBlock=some w.heap.size):=by
 obtain ⟨v',w',h1,h2,h3,h4⟩:=SOwn.app (P:=Tryz.prog) (xs:=[q]) (c:=c) (g:=g) (o:=0) Tryz.underlying59 info_item rfl (by decide) (by decide) ItR.cs_len ItR.plain h.own (fun _=>hx) (by simp;omega) hbase
 have keep:∀ p:ItR,ItAt w p->ItFar base v p->ItAt w' p∧ItFar base v' p:=fun p hp hpf=>by
  have hne:∀ k,k<w.heap.size->v.ownBlock≠some k->v'.ownBlock≠some k:=fun k hk hn e=>by
   rcases h4 with e4 | e4
   ·exact hn (e4 ▸ e)
   ·rw [e4] at e;have:=Option.some.inj e;omega
  refine ⟨hp.stays (fun a ea hne=>h3.block _ (SRow.blt hp.clips cl_first ea hne) (Ne.symm (hpf.c a ea hne).2)) fun a ea hne=>h3.block _ (Row.lt hp.px ea hne) (Ne.symm (hpf.p a ea hne).2),⟨fun a ea he=>⟨(hpf.c a ea he).1,hne _ (SRow.blt hp.clips cl_first ea he) (hpf.c a ea he).2⟩,fun a ea he=>⟨(hpf.p a ea he).1,hne _ (Row.lt hp.px ea he) (hpf.p a ea he).2⟩⟩⟩
 refine ⟨v',w',h1,⟨h2,fun p hp=>?_⟩,h3,h4⟩;rcases List.mem_append.1 hp with hp | hp
 ·exact keep p (h.at_ p hp).1 (h.at_ p hp).2
 ·rw [List.mem_singleton.1 hp];exact keep q hq hf
structure Shown (x:PSc) (w:World) (es:LV) (l:List Int):Prop where
 top:omap.look es (-1)=some (.agg (dnC Dn.top none).toArray)
 yes:∀ i∈l,∀ d,downOf x i=some d->∃ p,omap.look es i=some (.agg (dnC d p).toArray)∧ClR w p d.c
 no:∀ i∈l,downOf x i=none->omap.look es i=none
 out:∀ i,i∉l->i≠-1->omap.look es i=none
 few:es.length<=l.length+1
theorem Shown.keep {x:PSc} {w w':World} {es:LV} {l:List Int} (h:Shown x w es l) (hb:∀ (k:Nat) (cu:Array Value) (fr:Nat×Nat),w.heap[k]?=some (Obj.cells cu tClips fr)->w'.heap[k]?=w.heap[k]?):Shown x w' es l:=
 ⟨h.top,fun i hi d hd=>by
  obtain ⟨p,h1,h2⟩:=h.yes i hi d hd
  exact ⟨p,h1,h2.keep hb⟩,h.no,h.out,h.few⟩
theorem Shown.bk {x:PSc} {w w':World} {es:LV} {l:List Int} {B:Nat} (h:Shown x w es l) (hb:Bk B w w'):Shown x w' es l:=h.keep fun _ _ _ hk=>(hb.keep hk rfl).trans hk.symm
theorem not_id0 {t:T} (ok:Ok t):(0:Int)∉ids t:=fun h=>ok.ne0 h rfl
theorem Shown.look {x:PSc} {w:World} {es:LV} {k:Nat} (ok:Ok x.t) (hk:k<(trm.walk x.t 0).length) (h:Shown x w es ((trm.walk x.t 0).take k)) :
  ∃ d p okb,(omap.look es (par x.t (trm.walk x.t 0)[k])).getD (.agg (dnC ⟨Mp.o,0,[]⟩ none).toArray)=.agg (dnC d p).toArray∧(omap.look es (par x.t (trm.walk x.t 0)[k])).isSome=okb∧(okb=true->upOf x (trm.walk x.t 0)[k]=some d∧ClR w p d.c)∧(okb=false->upOf x (trm.walk x.t 0)[k]=none):=by
 have hw:=walk_par ok hk;generalize (trm.walk x.t 0)[k]=i at *;by_cases h0:i=0
 ·subst h0;rw [par_none (not_id0 ok),h.top];exact ⟨Dn.top,none,true,rfl,rfl,fun _=>⟨if_pos rfl,rfl⟩,fun e=>nomatch e⟩
 ·have hp:=hw.resolve_left h0;have e:upOf x i=downOf x (par x.t i):=if_neg h0;rw [e];cases hd:downOf x (par x.t i) with
  | none=>
   rw [h.no _ hp hd];exact ⟨_,none,false,rfl,rfl,nofun,fun _=>rfl⟩
  | some d=>
   obtain ⟨p,h1,h2⟩:=h.yes _ hp d hd;rw [h1];exact ⟨d,p,true,rfl,rfl,fun _=>⟨rfl,h2⟩,fun e=>nomatch e⟩
theorem Shown.skip {x:PSc} {w:World} {es:LV} {l:List Int} {i:Int} (h:Shown x w es l) (hi:i∉l) (h1:i≠-1) (hd:downOf x i=none):Shown x w es (l++[i]):=by
 refine ⟨h.top,fun j hj d hd'=>?_,fun j hj hd'=>?_,fun j hj hn=>h.out j (fun e=>hj (List.mem_append_left _ e)) hn,by have:=h.few;simp;omega⟩
 ·rcases List.mem_append.1 hj with hj | hj
  ·exact h.yes j hj d hd'
  ·rw [List.mem_singleton.1 hj,hd] at hd';cases hd'
 ·rcases List.mem_append.1 hj with hj | hj
  ·exact h.no j hj hd'
  ·rw [List.mem_singleton.1 hj];exact h.out i hi h1
theorem Shown.put {x:PSc} {w:World} {es:LV} {l:List Int} {i:Int} (h:Shown x w es l) (hi:i∉l) (h1:i≠-1) {d:Dn} {p:Option Nat} (hd:downOf x i=some d) (hp:ClR w p d.c):Shown x w (omap.put lt i (.agg (dnC d p).toArray) es) (l++[i]):=by
 refine ⟨by rw [omap.look_put,if_neg (Ne.symm h1)];exact h.top,fun j hj d' hd'=>?_,fun j hj hd'=>?_,fun j hj hn=>?_,?_⟩
 ·rw [omap.look_put];rcases List.mem_append.1 hj with hj | hj
  ·rw [if_neg (fun e=>hi (by rw [← e];exact hj))];exact h.yes j hj d' hd'
  ·rw [if_pos (List.mem_singleton.1 hj)];rw [List.mem_singleton.1 hj,hd] at hd'
   injection hd' with hd'
   exact ⟨p,by rw [hd'],by rw [← hd'];exact hp⟩
 ·rw [omap.look_put];rcases List.mem_append.1 hj with hj | hj
  ·rw [if_neg (fun e=>hi (by rw [← e];exact hj))];exact h.no j hj hd'
  ·rw [List.mem_singleton.1 hj,hd] at hd';cases hd'
 ·rw [omap.look_put,if_neg (fun e=>hj (by rw [e];simp))];exact h.out j (fun e=>hj (List.mem_append_left _ e)) hn
 ·have h2:=h.few;have h3:=vput_len i (.agg (dnC d p).toArray) es;simp;omega
theorem walk_new {t:T} (ok:Ok t) {k:Nat} (hk:k<(trm.walk t 0).length):(trm.walk t 0)[k]∉(trm.walk t 0).take k∧(trm.walk t 0)[k]≠-1∧(trm.walk t 0).take (k+1)=(trm.walk t 0).take k++[(trm.walk t 0)[k]]:=by
 have h1:=List.take_succ_eq_append_getElem hk;refine ⟨fun h=>?_,fun e=>?_,h1⟩
 ·have hn:((trm.walk t 0).take (k+1)).Nodup:=(List.take_sublist _ _).nodup (walk_nodup ok 0);rw [h1] at hn;exact (List.nodup_append.1 hn).2.2 _ h _ List.mem_cons_self rfl
 ·have h2:=(walk_all ok).1 (List.getElem_mem hk);rw [e] at h2;rcases has_iff.1 h2 with h3 | h3
  ·exact absurd h3 (by decide)
  ·obtain ⟨p,hp⟩:=mem_ids.1 h3;have:=(ok.rng _ hp).1;simp at this
theorem wpl_take_in {P:Program} {ln:Nat} {ops:Array Oper} {rest:List Oper} {o:Oper} {a:Act} {Q:Exit->Act->World->Prop} {w:World} (ty:TypeId) (x:Operand) (ho:o.op=.load ty x) (hgd:Region.wanted o (yielded ops a.tmps)=true) (g f:Nat) (hx:a.eval x=.pointer (some ⟨g,f,none⟩)) (cs:List Value) (hB:Blk w g cs) (ls:List Value) (hls:(cs.drop f).take ls.length=ls)
  (d:TypeDesc) (hu:P.underlying ty=some d) (hd:d.isRow=true) (hi:(P.info? ty).map (·.size)=some ls.length) (h:wpListIn (Fence.wide.inRound ln) 0 P ops Q rest (a.put o.dst (.agg ls.toArray)) w):wpListIn (Fence.wide.inRound ln) 0 P ops Q (o::rest) a w:=by
 unfold wpListIn;rw [if_pos hgd];exact oper_in (fun c e=>by rw [ho] at e;cases e) (wp_take ty x ho g f hx cs hB ls hls d hu hd hi h)
theorem wpl_stow_in {P:Program} {ln:Nat} {ops:Array Oper} {rest:List Oper} {o:Oper} {a:Act} {Q:Exit->Act->World->Prop} {w:World} (ty:TypeId) (x y:Operand) (ho:o.op=.store ty x y) (hgd:Region.wanted o (yielded ops a.tmps)=true) (hd:o.dst=none) (g f:Nat) (hx:a.eval x=.pointer (some ⟨g,f,none⟩)) (ls:List Value) (hy:a.eval y=.agg ls.toArray)
  (cs:List Value) (hB:Blk w g cs) (cs':List Value) (hc:cs.take f++ls++cs.drop (f+ls.length)=cs') (hl:f+ls.length<=cs.length) (hi:(P.info? ty).map (·.size)=some ls.length) (h1:ls.all (·.oneCell')=true)
  (h:∀ w',Hid (Wrote g w w')->Hid (Blk w' g cs')->wpListIn (Fence.wide.inRound ln) 0 P ops Q rest a w'):wpListIn (Fence.wide.inRound ln) 0 P ops Q (o::rest) a w:=by
 unfold wpListIn;rw [if_pos hgd];refine oper_in (fun c e=>by rw [ho] at e;cases e) (wp_stow ty x y ho g f hx ls hy cs hB hl hi h1 fun w' hW hB'=>?_);have e:a.put o.dst undef=a:=by rw [hd];rfl
 show wpListIn _ 0 P ops Q rest (a.put o.dst undef) w';rw [e];exact h w' hW (by rw [← hc];exact hB')
end Go.Proofs.YthoildbfghfhpaaGreat
