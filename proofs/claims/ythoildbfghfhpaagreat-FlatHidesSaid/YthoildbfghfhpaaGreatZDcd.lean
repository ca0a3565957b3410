import Derived.Test.YthoildbfghfhpaaGreatZSdg
set_option maxHeartbeats 16000000
set_option maxRecDepth 100000
open Go.Proofs.Tryz
namespace Go.Proofs.YthoildbfghfhpaaGreat
section
open Go.RowKit pxm imm trm Go.Maps
def vstep (m:Mp) (r:Mp×Bool):Mp×Bool:=if r.2=true then (if m.thenB r.1=true then m.then1 r.1 else Mp.o,m.thenB r.1) else r
def worldV (t:T) (nd:Int->Nd) (i:Int):Mp×Bool:=(line t i).foldr (fun j r=>vstep (nd j).m r) ((nd 0).m,true)
theorem worldV_0 (t:T) (nd:Int->Nd):worldV t nd 0=((nd 0).m,true):=by unfold worldV;rw [line_0];rfl
theorem worldV_step {t:T} (ok:Ok t) (nd:Int->Nd) {i:Int} (hi:i∈ids t):worldV t nd i=vstep (nd i).m (worldV t nd (par t i)):=by
 unfold worldV;rw [line_step ok hi];rfl
theorem thens_1 {m n:Mp} (h1:m.right=true) (h2:n.right=true):m.thens [n]=if m.thenB n=true then (m.then1 n,0) else (Mp.o,35):=by
 unfold Mp.thens;rw [if_pos ⟨h1,by simp [h2]⟩];unfold Mp.run;by_cases hb:m.thenB n=true
 ·rw [if_pos hb,if_pos hb];unfold Mp.run;rfl
 ·rw [if_neg hb,if_neg hb];rfl
theorem worldV_of {t:T} {nd:Int->Nd} (ok:Ok t) (h:∀ i,(nd i).m.right=true) {i:Int} (hi:i=0∨i∈ids t):worldOf t nd i=if (worldV t nd i).2=true then some (worldV t nd i).1 else none:=by
 refine ok.climb (P:=fun i=>worldOf t nd i=if (worldV t nd i).2=true then some (worldV t nd i).1 else none) ?_ (fun i hi ih=>?_) hi
 ·rw [worldOf_0,worldV_0];rfl
 ·rw [worldOf_step ok nd hi,worldV_step ok nd hi,ih];have hr:=world_right ok h (ok.par_ok hi);rw [ih] at hr;generalize worldV t nd (par t i)=r at *;obtain ⟨q,b⟩:=r;unfold vstep wstep;cases b with
  | false=>rfl
  | true=>
   simp only [if_true] at hr ⊢;rw [Option.bind_some,thens_1 (h i) (hr q rfl)];by_cases hb:(nd i).m.thenB q=true
   ·rw [if_pos hb,if_pos hb,if_pos rfl,if_pos hb]
   ·rw [if_neg hb,if_neg hb];exact if_neg (by decide)
theorem worldV_none {t:T} {nd:Int->Nd} (ok:Ok t) (h:∀ i,(nd i).m.right=true) {i:Int} (hi:i=0∨i∈ids t):worldOf t nd i=none↔(worldV t nd i).2=false:=by
 rw [worldV_of ok h hi];cases (worldV t nd i).2<;>simp
theorem setSt_good {x:PSc} (h:∀ i,has x.t i=true->worldOf x.t x.nd i≠none):(setSt x).2=0:=by
 unfold setSt;rw [if_pos h]
theorem allS_take {M:Int} {x:PSc} {l:List Op9} {k:Nat} (hk:k<l.length) (h:(allS M x (l.take k)).2.2=0) :
  (doS M (allS M x (l.take k)).1 l[k]).2=0->(allS M x (l.take (k+1))).1=(doS M (allS M x (l.take k)).1 l[k]).1∧(allS M x (l.take (k+1))).2.2=0:=by
 intro hz;rw [List.take_succ_eq_append_getElem hk,allS_append,if_neg (by rw [h];decide)]
 have e:allS M (allS M x (l.take k)).1 [l[k]]=((doS M (allS M x (l.take k)).1 l[k]).1,1,0):=by
  rw [allS_cons,if_neg (by rw [hz];decide)];rfl
 rw [e];exact ⟨rfl,rfl⟩
theorem applyS_bad {M:Int} {x:PSc} {l:List Op9} {k:Nat} (hl:l.length<=1024) (hk:k<l.length) (h:(allS M x (l.take k)).2.2=0) (hz:(doS M (allS M x (l.take k)).1 l[k]).2≠0) :
  applyS M setSt x l=(x,((k:Nat):Int),(doS M (allS M x (l.take k)).1 l[k]).2):=by
 have e:allS M x l=((allS M x (l.take k)).1,k,(doS M (allS M x (l.take k)).1 l[k]).2):=by
  have h1:l=l.take k++l[k]::l.drop (k+1):=by rw [← List.drop_eq_getElem_cons hk,List.take_append_drop]
  have h2:allS M x (l.take k++l[k]::l.drop (k+1))=((allS M x (l.take k)).1,k,(doS M (allS M x (l.take k)).1 l[k]).2):=by
   rw [allS_append,if_neg (by rw [h];decide),allS_cons,if_pos hz,allS_full _ _ h,List.length_take];simp only [Nat.add_zero];rw [Nat.min_eq_left (Nat.le_of_lt hk)]
  rw [← h2,← h1]
 unfold applyS;rw [if_neg (by omega),e,if_pos hz]
theorem applyS_over {M:Int} {x:PSc} {l:List Op9} (hl:1024<l.length):applyS M setSt x l=(x,0,12):=by
 unfold applyS;rw [if_pos hl]
theorem applyS_world {M:Int} {x:PSc} {l:List Op9} (hl:l.length<=1024) (h:(allS M x l).2.2=0) {i:Int} (hi:has (allS M x l).1.t i=true) (hw:worldOf (allS M x l).1.t (allS M x l).1.nd i=none) :
  applyS M setSt x l=(x,((l.length:Nat):Int),35):=by
 unfold applyS;rw [if_neg (by omega),if_neg (by rw [h];decide),setSt_bad hi hw,if_pos (show (35:Int)≠0 by decide),allS_full _ _ h]
theorem applyS_good {M:Int} {x:PSc} {l:List Op9} (hl:l.length<=1024) (h:(allS M x l).2.2=0) (hw:∀ i,has (allS M x l).1.t i=true->worldOf (allS M x l).1.t (allS M x l).1.nd i≠none) :
  applyS M setSt x l=((setSt (allS M x l).1).1,((l.length:Nat):Int),0):=by
 unfold applyS;rw [if_neg (by omega),if_neg (by rw [h];decide),setSt_good hw,if_neg (by simp),allS_full _ _ h]
theorem room_take {M:Int} {x:PSc} {l:List Op9} (ok:Ok x.t) (h:Room M x l.length) (k:Nat):(allS M x (l.take k)).1.t.length<=900:=by
 refine room_len ok ?_;have hk:(l.take k).length<=l.length:=by rw [List.length_take];omega
 obtain ⟨h1,h2⟩:=h;exact ⟨by omega,h2.imp (fun e=>by omega) id⟩
theorem DMap.alike {w:World} {m:Nat} {H H':Int->Bool} {nd nd':Int->Nd} (h:DMap w m H nd) (hH:∀ i,H' i=H i) (hn:∀ i,H i=true->nd' i=nd i):DMap w m H' nd':=by
 obtain ⟨es,h1,h2,h3⟩:=h.ex
 exact ⟨es,h1,fun i hi=>(hH i).trans (h2 i hi),fun i hi=>by
  rw [hH i] at hi;rw [hn i hi]
  exact h3 i hi⟩
theorem VM.no_cell {w:World} {m:Nat} {es:LV} (h:VM w m es) (j:Nat):w.cell? ⟨m,j,none⟩=none:=by
 obtain ⟨es',clock,h1,_⟩:=h.own;unfold World.cell?;rw [h1]
theorem DPl.grown {w w':World} {m:Nat} {es:LV} {v:Value} {n:Nd} (h:DPl w v n) (hm:VM w m es) (hg:w.grownBy w' (some m)):DPl w' v n:=by
 obtain ⟨A,c,e,hr⟩:=h;refine ⟨A,c,e,hr.stays fun a ea hne=>hg.block _ (Row.lt hr.row ea hne) fun e2=>?_⟩;obtain ⟨b,off,e3,hc⟩:=hr.row (List.length_pos_iff.2 hne);rw [ea] at e3;obtain rfl:=Option.some.inj e3;have h1:=hc 0 (List.length_pos_iff.2 hne);obtain rfl:b=m:=by simpa using e2
 rw [hm.no_cell] at h1;cases h1
theorem DMap.store {w:World} {m:Nat} {H:Int->Bool} {nd:Int->Nd} (h:DMap w m H nd) {t:T} (hH:∀ i,H i=has t i) (hn:t.length<=100000) {i:Int} (hi:I64 i) (hh:H i=true) {v:Value} {n:Nd} (hv:DPl w v n) :
  ∃ w',(Instr.mapUpdate tDNs (.map (some m)) (.int .i64 i) v).run prog w=.ok () w'∧DMap w' m H (upd nd i n)∧w.grownBy w' (some m):=by
 obtain ⟨es,h1,h2,h3⟩:=h.ex;have hl:=es_le (t:=t) h1.rises fun j hj=>(hH j).symm.trans (h2 j hj);obtain ⟨w',hrun,hm,hg⟩:=h1.store (t:=tDNs) (E:=54) underlying32 hi v (by have:=vput_len i v es;omega);refine ⟨w',hrun,⟨_,hm,fun j hj=>?_,fun j hj=>?_⟩,hg⟩
 ·rw [omap.look_put] at hj;by_cases e:j=i
  ·rw [e];exact hh
  ·rw [if_neg e] at hj;exact h2 j hj
 ·rw [omap.look_put];by_cases e:j=i
  ·rw [if_pos e,e,upd_same];exact ⟨v,rfl,hv.grown h1 hg⟩
  ·rw [if_neg e,upd_ne _ e];obtain ⟨u,e2,hu⟩:=h3 j hj;exact ⟨u,e2,hu.grown h1 hg⟩
theorem DMap.look {w:World} {m:Nat} {H:Int->Bool} {nd:Int->Nd} (h:DMap w m H nd) {i:Int} (hi:I64 i) (hh:H i=true) :
  ∃ A c,PxR w A (nd i).lk.l∧∀ W,Below w.heap.size w W->(Instr.lookup tDNs (.map (some m)) (.int .i64 i) false).run prog W=.ok (.agg ((nd i).cs A c).toArray) W:=by
 obtain ⟨es,h1,h2,h3⟩:=h.ex;obtain ⟨v,e,A,c,rfl,hr⟩:=h3 i hh;refine ⟨A,c,hr,fun W hb=>?_⟩;rw [(h1.below hb).lookup (t:=tDNs) (E:=54) underlying32 (zero_dn W) hi,e];rfl
theorem field_dn (n:Nd) (A:Option Addr) (c:Nat) (w:World):(Instr.field 54 (.agg (n.cs A c).toArray) 0).run prog w=.ok (.agg n.m.cs.toArray) w:=by kernel_rfl
theorem DocAt.like {w:World} {v:Value} {wi hei M:Int} {x y:PSc} (h:DocAt w v wi hei M x) (h1:y.t=x.t) (h2:y.nd=x.nd):DocAt w v wi hei M y:=by
 obtain ⟨t,nd,ws⟩:=x;obtain ⟨t',nd',ws'⟩:=y;obtain rfl:t'=t:=h1;obtain rfl:nd'=nd:=h2;exact h
theorem blk_ret3 {P:Program} {fn:Func} {p q r:Tmp} {ty:TypeId} {tmps:Array Value} {w:World} {g:Nat} {cs:List Value} {d:TypeDesc} {v u:Value} {Q:Ending->World->Prop} (hfn:fn.results=#[.cell p ty,.tmp q,.tmp r])
  (hp:tmps.getD p undef=.pointer (some ⟨g,0,none⟩)) (hq:tmps.getD q undef=v) (hr:tmps.getD r undef=u) (hB:Blk w g cs) (hu:P.underlying ty=some d) (hd:(match d with | .struct _ | .array _ _=>true | _=>false)=true) (hi:(P.info? ty).map (·.size)=some cs.length)
  (h:Q (.returned (.tuple #[.agg cs.toArray,v,u])) w):bodyPost P fn Q Exit.ret { tmps:=tmps,defers:=[] } w:=by
 obtain ⟨T,hg⟩:=hB;refine bodyPost_ret_by (v:=.tuple #[.agg cs.toArray,v,u]) ?_ rfl h;have hp':tmps[p]?.getD undef=.pointer (some ⟨g,0,none⟩):=by simpa using hp
 have hq':tmps[q]?.getD undef=v:=by simpa using hq
 have hr':tmps[r]?.getD undef=u:=by simpa using hr
 simp [results,hfn,hp',hq',hr',asAddr,run_loadVar_row w g T ty _ _ d hg hu hd (by simpa using hi)]
theorem dworld_0 (wi hei M:Int) (tv:Value) (t:T) (m:Nat) (nd:Int->Nd) (w:World) (ht:DTree w tv t) (hm:DMap w m (has t) nd) :
  Calls prog 49 #[.agg #[.int .i64 wi,.int .i64 hei,.int .i64 M,tv,.map (some m)],.int .i64 0] w fun e w'=>e=.returned (.tuple #[.agg (worldV t nd 0).1.cs.toArray,.bool (worldV t nd 0).2])∧Below w.heap.size w w':=by
 rw [worldV_0];obtain ⟨At,ct,rfl,hr,hy⟩:=ht;obtain ⟨An,cn,hrn,hlk⟩:=hm.look ⟨by decide,by decide⟩ (has_iff.2 (.inl rfl));have HLK:=Hd hlk;have HM0:=Hd hm;have HR:=Hd hr;have HY:=Hd hy;clear hlk hrn hm hr hy;have HB0:Hid (Below w.heap.size w ((w.alloc (.cells (Vb wi hei M At t.length ct m).toArray 34)).alloc (.cells Vd.toArray 47))):=(bR.alloc nR _).alloc (by simp) _
 have HKs:Hid (Blk ((w.alloc (.cells (Vb wi hei M At t.length ct m).toArray 34)).alloc (.cells Vd.toArray 47)) w.heap.size (Vb wi hei M At t.length ct m)):=(blk_new w (Vb wi hei M At t.length ct m) _).alloc _;have HKr:Hid (Blk ((w.alloc (.cells (Vb wi hei M At t.length ct m).toArray 34)).alloc (.cells Vd.toArray 47)) (w.heap.size+1) Vd):=blk_at (w.alloc _) _ (by simp) Vd _;go_enter func49,ntmps49
 go_upto_region 1 with (fail)
 generalize ((w.alloc (.cells (Vb wi hei M At t.length ct m).toArray 34)).alloc (.cells Vd.toArray 47))=w0 at *;have hlk:=HLK.o w0 HB0.o;have hfd:=field_dn (nd 0) An cn w0;have c4:=HKs.o.c 4 rfl;have i0:=HKs.o.inside;have HZ:Hid (Blk (w0.alloc (.cells Vd.toArray 47)) w0.heap.size Vd):=blk_new w0 Vd _;have HBz:Hid (Below w0.heap.size w0 (w0.alloc (.cells Vd.toArray 47))):=bR.alloc nR _
 go_upto_region 2 with (first | (with_reducible refine gS ?_;first | (refine wpl_stow 47 _ _ rfl rfl rfl _ 0 rfl ((nd 0).m.cs) rfl (Vd) HZ.o ((nd 0).m.cs) rfl (nE rfl) (by kernel_rfl) (Mp.one1 _) ?_;intro w1 HW1 HK1)))
 obtain ⟨z,hz⟩:∃ z,w0.heap.size=z:=⟨_,rfl⟩
 have HSZ:Hid (w.heap.size+1<z):=by rw [← hz];exact HKr.o.inside
 rw [hz] at HW1 HK1 HZ HBz ⊢
 have HB1:Hid (Below w.heap.size w w1):=(HW1.o.below (HB0.o.trans (HBz.o.mono (by have:=HSZ.o;omega))) (by have:=HSZ.o;omega))
 have HKr1:=Hd (HW1.o.blk (show w.heap.size+1≠z by have:=HSZ.o;omega) (HKr.o.below' (hz ▸ HBz.o)));have HKs1:=Hd (HW1.o.blk (show w.heap.size≠z by have:=HSZ.o;omega) (HKs.o.below' (hz ▸ HBz.o)));clear hlk hfd c4 i0 HLK HW1 HZ HBz HB0 HKs HKr hz
 go_wp2_with (first | (with_reducible refine gL ?_;first | (refine wt 47 0 rfl rfl rfl HK1.o ((nd 0).m.cs) rfl underlying47 rfl ?_)) | (with_reducible refine gS ?_;first | (refine wpl_stow 47 _ _ rfl rfl rfl _ 0 rfl ((nd 0).m.cs) rfl (Vd) HKr1.o ((nd 0).m.cs) rfl (nE rfl) (by kernel_rfl) (Mp.one1 _) ?_;intro w2 HW2 HK2)));exact blk_ret2 rfl rfl rfl HK2.o underlying47 rfl (by kernel_rfl) ⟨rfl,HW2.o.below HB1.o (by omega)⟩
theorem dworld_1 (wi hei M:Int) (tv:Value) (t:T) (m:Nat) (nd:Int->Nd) (ok:Ok t) (hn:t.length<=1000) (id0:Int) (w:World) (ht:DTree w tv t) (hm:DMap w m (has t) nd) (hi:id0∈ids t)
  (ih:∀ W,DTree W tv t->DMap W m (has t) nd->Calls prog 49 #[.agg #[.int .i64 wi,.int .i64 hei,.int .i64 M,tv,.map (some m)],.int .i64 (par t id0)] W fun e w'=>e=.returned (.tuple #[.agg (worldV t nd (par t id0)).1.cs.toArray,.bool (worldV t nd (par t id0)).2])∧Below W.heap.size W w') :
  Calls prog 49 #[.agg #[.int .i64 wi,.int .i64 hei,.int .i64 M,tv,.map (some m)],.int .i64 id0] w fun e w'=>e=.returned (.tuple #[.agg (worldV t nd id0).1.cs.toArray,.bool (worldV t nd id0).2])∧Below w.heap.size w w':=by
 have h64:I64 id0:=has_64 ok (has_iff.2 (.inr hi));have hne:=ok.ne0 hi;have q:(id0==0)=false:=by simpa using hne
 have hhi:has t id0=true:=has_iff.2 (.inr hi);have HP:=Hd (fun A c W hr=>dpar A t c id0 W hr (by omega));have HIH:=Hd ih;rw [worldV_step ok nd hi];clear ih ok hi hne
 obtain ⟨qv,hqv⟩:∃ qv,worldV t nd (par t id0)=qv:=⟨_,rfl⟩
 rw [hqv] at HIH ⊢;clear hqv
 obtain ⟨R,hR⟩:∃ R,vstep (nd id0).m qv=R:=⟨_,rfl⟩
 have HE:=Hd hR;rw [hR];clear hR;generalize par t id0=pp at *;obtain ⟨At,ct,rfl,hr,hy⟩:=ht;obtain ⟨An,cn,hrn,hlk⟩:=hm.look h64 hhi;have HLK:=Hd hlk;have HM0:=Hd hm;have HR:=Hd hr;have HY:=Hd hy;clear hlk hrn hm hr hy;have HB0:Hid (Below w.heap.size w ((w.alloc (.cells (Vb wi hei M At t.length ct m).toArray 34)).alloc (.cells Vd.toArray 47))):=(bR.alloc nR _).alloc (by simp) _
 have HKs:Hid (Blk ((w.alloc (.cells (Vb wi hei M At t.length ct m).toArray 34)).alloc (.cells Vd.toArray 47)) w.heap.size (Vb wi hei M At t.length ct m)):=(blk_new w (Vb wi hei M At t.length ct m) _).alloc _;have HKr:Hid (Blk ((w.alloc (.cells (Vb wi hei M At t.length ct m).toArray 34)).alloc (.cells Vd.toArray 47)) (w.heap.size+1) Vd):=blk_at (w.alloc _) _ (by simp) Vd _;go_enter func49,ntmps49
 go_upto_region 1 with (fail)
 generalize ((w.alloc (.cells (Vb wi hei M At t.length ct m).toArray 34)).alloc (.cells Vd.toArray 47))=w0 at *;have hlk:=HLK.o w0 HB0.o;have hfd:=field_dn (nd id0) An cn w0;have c4:=HKs.o.c 4 rfl;have i0:=HKs.o.inside;have HZ:Hid (Blk (w0.alloc (.cells Vd.toArray 47)) w0.heap.size Vd):=blk_new w0 Vd _;have HBz:Hid (Below w0.heap.size w0 (w0.alloc (.cells Vd.toArray 47))):=bR.alloc nR _
 go_upto_region 2 with (first | (with_reducible refine gS ?_;first | (refine wpl_stow 47 _ _ rfl rfl rfl _ 0 rfl ((nd id0).m.cs) rfl (Vd) HZ.o ((nd id0).m.cs) rfl (nE rfl) (by kernel_rfl) (Mp.one1 _) ?_;intro w1 HW1 HK1)))
 obtain ⟨z,hz⟩:∃ z,w0.heap.size=z:=⟨_,rfl⟩
 have HSZ:Hid (w.heap.size+1<z):=by rw [← hz];exact HKr.o.inside
 rw [hz] at HW1 HK1 HZ HBz ⊢
 have HB1:Hid (Below w.heap.size w w1):=(HW1.o.below (HB0.o.trans (HBz.o.mono (by have:=HSZ.o;omega))) (by have:=HSZ.o;omega))
 have HKr1:=Hd (HW1.o.blk (show w.heap.size+1≠z by have:=HSZ.o;omega) (HKr.o.below' (hz ▸ HBz.o)));have HKs1:=Hd (HW1.o.blk (show w.heap.size≠z by have:=HSZ.o;omega) (HKs.o.below' (hz ▸ HBz.o)));clear hlk hfd c4 i0 HLK HW1 HZ HBz HB0 HKs HKr hz;clear hhi h64;have FS:Hid (∀ W,Below w1.heap.size w1 W->Blk W w.heap.size (Vb wi hei M At t.length ct m)):=fun W hb=>HKs1.o.below' hb
 have FP:Hid (∀ W,Below w1.heap.size w1 W->Calls prog 16 #[.slice At t.length ct,.int .i64 id0] W fun e w'=>e=.returned (.int .i64 pp)∧Below W.heap.size W w'):=fun W hb=>HP.o At ct W (SRow.below HR.o (HB1.o.trans (hb.mono HB1.o.size)))
 have FW:Hid (∀ W,Below w1.heap.size w1 W->Calls prog 49 #[.agg (Vb wi hei M At t.length ct m).toArray,.int .i64 pp] W fun e w'=>e=.returned (.tuple #[.agg qv.1.cs.toArray,.bool qv.2])∧Below W.heap.size W w'):=fun W hb=>HIH.o W (DTree.below ⟨At,ct,rfl,HR.o,HY.o⟩ (HB1.o.trans (hb.mono HB1.o.size))) (HM0.o.below (HB1.o.trans (hb.mono HB1.o.size)))
 go_upto_region 4 with (fail)
 refine wRv (Below w1.heap.size) (fun L V wx=>JN w1.heap.size [] (Vd) (qv.1.cs) (L 9) (L 10) (V 7) wx) [18,19,20,21,22,23,17,24,25,7,8] (fun _=>bR) (fun _ _ _ h k=>h.trans k) (fun i=>match i with
  |0=>rV (.agg ((Vb wi hei M At t.length ct m)).toArray)
  |1=>rp w.heap.size 3
  |2=>rV (.slice At t.length ct)
  |3=>rV (.int .i64 id0)
  |4=>rV (.int .i64 pp)
  |5|6=>rV (.tuple #[.agg (qv.1.cs).toArray,.bool qv.2])
  |7=>rV (.agg (qv.1.cs).toArray)
  |8|11=>rV (.bool qv.2)
  | _=>ra) (bR.drew) (JN.start (old:=[]) trivial) ⟨?_,?_,?_,?_,?_,?_,?_,?_,?_,?_,?_,?_,trivial⟩ ?_
 any_goals (first|refine zpv fun L a w1 hh=>?_|fail)
 ·have h2:=hh.p 2 w.heap.size 0;have hB:=Hd (FS.o _ hh.rel);have hJ:=Hd hh.st;exact wp_take 34 _ rfl w.heap.size 0 (by simpa [go_sem] using h2) _ hB.o ((Vb wi hei M At t.length ct m)) rfl _ underlying34 rfl (by kernel_rfl) ⟨_,rfl,bR,rfl,JN.slots hJ.o sn⟩
 have h2:=hh.p 2 w.heap.size 0;have i0:=(FS.o _ hh.rel).inside;rotate_left;have h19:=rq (hh.d 1 19);have ⟨c0,i0⟩:=(FS.o _ hh.rel).ci 3 rfl;rotate_left;have h1:=hh.o 1 (v:=.int .i64 id0) rfl;rotate_left
 ·have h20:=rq (hh.d 2 20);have h21:=rq (hh.d 3 21);have hC:=Hd (FP.o _ hh.rel);have hJ:=hh.j;clear hh;go_simp;refine hC.o.mono ?_;rintro e w9 ⟨rfl,hb9⟩;exact ⟨_,rfl,hb9.mono hJ.o.1.2.1,rfl,JN.slots (JN.below hJ.o hb9) sn⟩
 ·have h18:=rq (hh.d 0 18);have h22:=rq (hh.d 4 22);have hC:=Hd (FW.o _ hh.rel);have hJ:=hh.j;clear hh;go_simp;refine hC.o.mono ?_;rintro e w9 ⟨rfl,hb9⟩;exact ⟨_,rfl,hb9.mono hJ.o.1.2.1,rfl,JN.slots (JN.below hJ.o hb9) sn⟩
 have h23:=rq (hh.d 5 23);rotate_left;have h17:=rq (hh.d 6 17);rotate_left;have h17:=rq (hh.d 6 17);rotate_left
 ·have hJ:=Hd hh.st;have hsz:=Hd hh.size;have hun:=Hd hh.un;clear hh;go_simp;exact ⟨_,rfl,bR.alloc hJ.o.1.2.1 _,trivial,JN.new hJ.o hun.o (regv.sl_same (by rw [hsz.o];simp))⟩
 ·have h24:=rq (hh.d 7 24);have hup:=hh.up 9 (by kernel_rfl);obtain ⟨g9,h9,hg9,hB9⟩:=hh.st.2.1 hup;have h7:a.tmps[7]?.getD undef=.pointer (some ⟨g9,0,none⟩):=rq (h9);rw [hh.un] at hB9;have hJ:=Hd hh.st;have hun:=Hd hh.un;refine wp_stow 47 _ _ rfl g9 0 (by simpa [go_sem] using h7) (qv.1.cs) (by simpa [go_sem] using h24) _ hB9 (nE rfl) (by kernel_rfl) (by rfl) ?_;intro w9 hW9 hC9;have hP:=hJ.o.stow hup hun.o h9 hW9 hC9 rfl;exact ⟨undef,rfl,hP.2,trivial,hP.1⟩
 have h25:=rq (hh.d 8 25);rotate_left
 any_goals (have hJ:=hh.j;clear hh;go_simp;exact ⟨_,rfl,bR,rfl,JN.slots hJ.o sn⟩)
 intro L w4 val hL hJ hR hv;have h8:val 8=.bool qv.2:=hv 11 8 (by kernel_rfl);have HR4:=Hd hR;obtain ⟨g7,e7,hg7,hB7⟩:=hJ.2.1 (hL 9 (by decide));have HB6:=Hd (And.intro hg7 (show Blk w4 g7 qv.1.cs by rw [hL 10 (by decide)] at hB7;exact hB7));clear hv hL hJ hR hg7 hB7;simp only [regs.putAll,List.map_cons,List.map_nil,h8];simp only [Act.put,List.setIfInBounds_toArray,List.set_cons_zero,List.set_cons_succ];clear h8
 skip
 rw [e7];clear e7;have FK4:=Hd (HB1.o.trans (HR4.o.mono HB1.o.size));have HKr4:=Hd (HKr1.o.below' HR4.o);have HK4:=Hd (HK1.o.below' HR4.o);have HG7:Hid (w.heap.size+1≠g7):=by have h1:=HB6.o.1;have h2:=HKr1.o.inside;show _≠_;omega
 obtain ⟨qm,qb⟩:=qv;cases qb with
 | false=>
  have HE2:Hid (R=(qm,false)):=by show _=_;rw [← HE.o];rfl
  go_wp2_with (first | (with_reducible refine gL ?_;first | (refine wpl_take 47 _ rfl rfl _ 0 rfl (qm.cs) HB6.o.2 (qm.cs) rfl _ underlying47 rfl (by kernel_rfl) ?_)) | (with_reducible refine gS ?_;first | (refine wpl_stow 47 _ _ rfl rfl rfl _ 0 rfl (qm.cs) rfl (Vd) HKr4.o (qm.cs) rfl (nE rfl) (by kernel_rfl) (Mp.one1 _) ?_;intro w5 HW5 HK5)));rw [HE2.o];exact blk_ret2 rfl rfl rfl HK5.o underlying47 rfl (by kernel_rfl) ⟨rfl,HW5.o.below FK4.o (by omega)⟩
 | true=>
  have HE2:Hid (R=(if (nd id0).m.thenB qm=true then (nd id0).m.then1 qm else Mp.o,(nd id0).m.thenB qm)):=by show _=_;rw [← HE.o];rfl
  obtain ⟨rm,hrm⟩:∃ rm,(if (nd id0).m.thenB qm=true then (nd id0).m.then1 qm else Mp.o)=rm:=⟨_,rfl⟩
  have HT:=Hd (mp_dthen (nd id0).m qm w4);rw [hrm] at HE2 HT;clear hrm;go_wp2_with (first | (with_reducible refine gL ?_;first | (refine wt 47 0 rfl rfl rfl HK4.o ((nd id0).m.cs) rfl underlying47 rfl ?_) | (refine wpl_take 47 _ rfl rfl _ 0 rfl (qm.cs) HB6.o.2 (qm.cs) rfl _ underlying47 rfl (by kernel_rfl) ?_)));refine HT.o.mono ?_;rintro e w5 ⟨rfl,hb5⟩;have FK5:Hid (Below w.heap.size w w5):=FK4.o.trans (hb5.mono FK4.o.size);have HKr5:=Hd (HKr4.o.below' hb5);clear hb5;unfold Mp.v
  go_wp2_with (first | (with_reducible refine gS ?_;first | (refine wpl_stow 47 _ _ rfl rfl rfl _ 0 rfl (rm.cs) rfl (Vd) HKr5.o (rm.cs) rfl (nE rfl) (by kernel_rfl) (Mp.one1 _) ?_;intro w6 HW6 HK6)));rw [HE2.o];exact blk_ret2 rfl rfl rfl HK6.o underlying47 rfl (by kernel_rfl) ⟨rfl,HW6.o.below FK5.o (by omega)⟩
theorem dworld_any (wi hei M:Int) (tv:Value) (t:T) (m:Nat) (nd:Int->Nd) (ok:Ok t) (hn:t.length<=1000) (k:Nat):∀ (i:Int) (w:World),DTree w tv t->DMap w m (has t) nd->has t i=true->depth t i<=k ->
  Calls prog 49 #[.agg #[.int .i64 wi,.int .i64 hei,.int .i64 M,tv,.map (some m)],.int .i64 i] w fun e w'=>e=.returned (.tuple #[.agg (worldV t nd i).1.cs.toArray,.bool (worldV t nd i).2])∧Below w.heap.size w w':=by
 induction k with
 | zero=>
  intro i w ht hm hh hd
  have h0:i=0:=by
   rcases has_iff.1 hh with e | e
   ·exact e
   ·rw [depth_step ok e] at hd;omega
  subst h0;exact dworld_0 wi hei M tv t m nd w ht hm
 | succ k ih=>
  intro i w ht hm hh hd;by_cases h0:i=0
  ·subst h0;exact dworld_0 wi hei M tv t m nd w ht hm
  have hi:=(has_iff.1 hh).resolve_left h0;rw [depth_step ok hi] at hd;exact dworld_1 wi hei M tv t m nd ok hn i w ht hm hi (fun W ht hm=>ih (par t i) W ht hm (has_iff.2 (ok.par_ok hi)) (by omega))
end
end Go.Proofs.YthoildbfghfhpaaGreat
