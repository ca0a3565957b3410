import Derived.Test.YthpifjcddgmjnaaGreatVSdg
import Derived.Deep.Grids
import Derived.Deep.DeepCutAuto
import Derived.Deep.CutBlock
set_option maxHeartbeats 16000000
set_option maxRecDepth 100000
namespace Go.Proofs.YthpifjcddgmjnaaGreat
open Go.RowKit pxm imm trm Go.Maps
/-! ### Worlds -/
def vstep (m:Mp) (r:Mp×Bool):Mp×Bool:=if r.2=true then (if m.thenB r.1=true then m.then1 r.1 else Mp.o,m.thenB r.1) else r
def worldV (t:T) (nd:Int→Nd) (i:Int):Mp×Bool:=(line t i).foldr (fun j r=>vstep (nd j).m r) ((nd 0).m,true)
theorem worldV_0 (t:T) (nd:Int→Nd):worldV t nd 0=((nd 0).m,true):=by unfold worldV; rw [line_0]; rfl
theorem worldV_step {t:T} (ok:Ok t) (nd:Int→Nd) {i:Int} (hi:i∈ids t):worldV t nd i=vstep (nd i).m (worldV t nd (par t i)):=by
 unfold worldV
 rw [line_step ok hi]
 rfl
theorem thens_1 {m n:Mp} (h1:m.right=true) (h2:n.right=true):m.thens [n]=if m.thenB n=true then (m.then1 n,0) else (Mp.o,35):=by
 unfold Mp.thens
 rw [if_pos ⟨h1,by simp [h2]⟩]
 unfold Mp.run
 by_cases hb:m.thenB n=true
 ·rw [if_pos hb,if_pos hb]; unfold Mp.run; rfl
 ·rw [if_neg hb,if_neg hb]; rfl
theorem worldV_of {t:T} {nd:Int→Nd} (ok:Ok t) (h:∀ i,(nd i).m.right=true) {i:Int} (hi:i=0∨i∈ids t):worldOf t nd i=if (worldV t nd i).2=true then some (worldV t nd i).1 else none:=by
 refine ok.climb (P:=fun i=>worldOf t nd i=if (worldV t nd i).2=true then some (worldV t nd i).1 else none) ?_ (fun i hi ih=>?_) hi
 ·rw [worldOf_0,worldV_0]; rfl
 ·rw [worldOf_step ok nd hi,worldV_step ok nd hi,ih]
  have hr:=world_right ok h (ok.par_ok hi)
  rw [ih] at hr
  generalize worldV t nd (par t i)=r at *
  obtain ⟨q,b⟩:=r
  unfold vstep wstep
  cases b with
  | false=>rfl
  | true=>
   simp only [if_true] at hr ⊢
   rw [Option.bind_some,thens_1 (h i) (hr q rfl)]
   by_cases hb:(nd i).m.thenB q=true
   ·rw [if_pos hb,if_pos hb,if_pos rfl,if_pos hb]
   ·rw [if_neg hb,if_neg hb]; exact if_neg (by decide)
/-! ### Ops up to one -/
/-! ### The document's map of nodes -/
theorem DMap.alike {w:World} {m:Nat} {H H':Int→Bool} {nd nd':Int→Nd} (h:DMap w m H nd) (hH:∀ i,H' i=H i) (hn:∀ i,H i=true→nd' i=nd i):DMap w m H' nd':=by
 obtain ⟨es,h1,h2,h3⟩:=h.ex
 exact ⟨es,h1,fun i hi=>(hH i).trans (h2 i hi),fun i hi=>by
  rw [hH i] at hi
  rw [hn i hi]
  exact h3 i hi⟩
theorem VM.no_cell {w:World} {m:Nat} {es:LV} (h:VM w m es) (j:Nat):w.cell? ⟨m,j,none⟩=none:=by
 obtain ⟨es',clock,h1,_⟩:=h.own
 unfold World.cell?
 rw [h1]
theorem DPl.grown {w w':World} {m:Nat} {es:LV} {v:Value} {n:Nd} (h:DPl w v n) (hm:VM w m es) (hg:w.grownBy w' (some m)):DPl w' v n:=by
 obtain ⟨A,c,e,hr⟩:=h
 refine ⟨A,c,e,hr.stays fun a ea hne=>hg.block _ (Row.lt hr.row ea hne) fun e2=>?_⟩
 obtain ⟨b,off,e3,hc⟩:=hr.row (List.length_pos_iff.2 hne)
 rw [ea] at e3
 obtain rfl:=Option.some.inj e3
 have h1:=hc 0 (List.length_pos_iff.2 hne)
 obtain rfl:b=m:=by simpa using e2
 rw [hm.no_cell] at h1
 cases h1
theorem DMap.store {w:World} {m:Nat} {H:Int→Bool} {nd:Int→Nd} (h:DMap w m H nd) {t:T} (hH:∀ i,H i=has t i) (hn:t.length≤100000) {i:Int} (hi:I64 i) (hh:H i=true) {v:Value} {n:Nd} (hv:DPl w v n) :
  ∃ w',(Instr.mapUpdate tDNs (.map (some m)) (.int .i64 i) v).run Tryz.prog w=.ok () w'∧DMap w' m H (upd nd i n)∧w.grownBy w' (some m):=by
 obtain ⟨es,h1,h2,h3⟩:=h.ex
 have hl:=es_le (t:=t) h1.rises fun j hj=>(hH j).symm.trans (h2 j hj)
 obtain ⟨w',hrun,hm,hg⟩:=h1.store (t:=tDNs) (E:=57) Tryz.underlying32 hi v (by have:=vput_len i v es; omega)
 refine ⟨w',hrun,⟨_,hm,fun j hj=>?_,fun j hj=>?_⟩,hg⟩
 ·rw [omap.look_put] at hj
  by_cases e:j=i
  ·rw [e]; exact hh
  ·rw [if_neg e] at hj; exact h2 j hj
 ·rw [omap.look_put]
  by_cases e:j=i
  ·rw [if_pos e,e,upd_same]; exact ⟨v,rfl,hv.grown h1 hg⟩
  ·rw [if_neg e,upd_ne _ e]
   obtain ⟨u,e2,hu⟩:=h3 j hj
   exact ⟨u,e2,hu.grown h1 hg⟩
theorem DMap.look {w:World} {m:Nat} {H:Int→Bool} {nd:Int→Nd} (h:DMap w m H nd) {i:Int} (hi:I64 i) (hh:H i=true) :
  ∃ A c,PxR w A (nd i).lk.l∧∀ W,Below w.heap.size w W→(Instr.lookup tDNs (.map (some m)) (.int .i64 i) false).run Tryz.prog W=.ok (.agg ((nd i).cs A c).toArray) W:=by
 obtain ⟨es,h1,h2,h3⟩:=h.ex
 obtain ⟨v,e,A,c,rfl,hr⟩:=h3 i hh
 refine ⟨A,c,hr,fun W hb=>?_⟩
 rw [(h1.below hb).lookup (t:=tDNs) (E:=57) Tryz.underlying32 (zero_dn W) hi,e]
 rfl
theorem field_dn (n:Nd) (A:Option Addr) (c:Nat) (w:World):(Instr.field 57 (.agg (n.cs A c).toArray) 0).run Tryz.prog w=.ok (.agg n.m.cs.toArray) w:=by kernel_rfl
theorem DocAt.like {w:World} {v:Value} {wi hei M:Int} {x y:PSc} (h:DocAt w v wi hei M x) (h1:y.t=x.t) (h2:y.nd=x.nd):DocAt w v wi hei M y:=by
 obtain ⟨t,nd,ws⟩:=x
 obtain ⟨t',nd',ws'⟩:=y
 obtain rfl:t'=t:=h1
 obtain rfl:nd'=nd:=h2
 exact h
/-! ### World -/
theorem dworld_0 (wi hei M:Int) (tv:Value) (t:T) (m:Nat) (nd:Int→Nd) (w:World) (ht:DTree w tv t) (hm:DMap w m (has t) nd) :
  Calls Tryz.prog 63 #[.agg #[.int .i64 wi,.int .i64 hei,.int .i64 M,tv,.map (some m)],.int .i64 0] w fun e w'=>e=.returned (.tuple #[.agg (worldV t nd 0).1.cs.toArray,.bool (worldV t nd 0).2])∧Below w.heap.size w w':=by
 rw [worldV_0]
 obtain ⟨At,ct,rfl,hr,hy⟩:=ht
 obtain ⟨An,cn,hrn,hlk⟩:=hm.look ⟨by decide,by decide⟩ (has_iff.2 (.inl rfl))
 have HLK:=Hd hlk
 have HM0:=Hd hm
 have HR:=Hd hr
 have HY:=Hd hy
 clear hlk hrn hm hr hy
 have HB0:Hid (Below w.heap.size w ((w.alloc (.cells #[.int .i64 wi,.int .i64 hei,.int .i64 M,.slice At t.length ct,.map (some m)] 34)).alloc (.cells #[.int .i64 0,.int .i64 0,.int .i64 0,.int .i64 0,.int .i64 0,.int .i64 0] 50))):=((Below.refl _ _).alloc (Nat.le_refl _) _).alloc (by simp) _
 have HKs:Hid (Blk ((w.alloc (.cells #[.int .i64 wi,.int .i64 hei,.int .i64 M,.slice At t.length ct,.map (some m)] 34)).alloc (.cells #[.int .i64 0,.int .i64 0,.int .i64 0,.int .i64 0,.int .i64 0,.int .i64 0] 50)) w.heap.size [.int .i64 wi,.int .i64 hei,.int .i64 M,.slice At t.length ct,.map (some m)]):=(blk_new w [.int .i64 wi,.int .i64 hei,.int .i64 M,.slice At t.length ct,.map (some m)] _).alloc _
 have HKr:Hid (Blk ((w.alloc (.cells #[.int .i64 wi,.int .i64 hei,.int .i64 M,.slice At t.length ct,.map (some m)] 34)).alloc (.cells #[.int .i64 0,.int .i64 0,.int .i64 0,.int .i64 0,.int .i64 0,.int .i64 0] 50)) (w.heap.size + 1) [.int .i64 0,.int .i64 0,.int .i64 0,.int .i64 0,.int .i64 0,.int .i64 0]):=blk_at (w.alloc _) _ (by simp) [.int .i64 0,.int .i64 0,.int .i64 0,.int .i64 0,.int .i64 0,.int .i64 0] _
 go_enter Tryz.func63,Tryz.ntmps63
 go_upto_region 1 with (fail)
 generalize ((w.alloc (.cells #[.int .i64 wi,.int .i64 hei,.int .i64 M,.slice At t.length ct,.map (some m)] 34)).alloc (.cells #[.int .i64 0,.int .i64 0,.int .i64 0,.int .i64 0,.int .i64 0,.int .i64 0] 50))=w0 at *
 have hlk:=HLK.out w0 HB0.out
 have hfd:=field_dn (nd 0) An cn w0
 have c4:w0.cell? ⟨w.heap.size,4,none⟩=some (.map (some m)):=HKs.out.cell 4
 have i0:=HKs.out.inside
 have HZ:Hid (Blk (w0.alloc (.cells #[.int .i64 0,.int .i64 0,.int .i64 0,.int .i64 0,.int .i64 0,.int .i64 0] 50)) w0.heap.size [.int .i64 0,.int .i64 0,.int .i64 0,.int .i64 0,.int .i64 0,.int .i64 0]):=blk_new w0 [.int .i64 0,.int .i64 0,.int .i64 0,.int .i64 0,.int .i64 0,.int .i64 0] _
 have HBz:Hid (Below w0.heap.size w0 (w0.alloc (.cells #[.int .i64 0,.int .i64 0,.int .i64 0,.int .i64 0,.int .i64 0,.int .i64 0] 50))):=(Below.refl _ _).alloc (Nat.le_refl _) _
 go_upto_region 2 with (first | (with_reducible show wpList _ _ _ (Oper.mk _ (Op.store _ _ _) _ _ _ _ :: _) _ _; first | (refine wpl_stow 50 _ _ rfl rfl rfl _ 0 rfl ((nd 0).m.cs) rfl ([.int .i64 0,.int .i64 0,.int .i64 0,.int .i64 0,.int .i64 0,.int .i64 0]) HZ.out ((nd 0).m.cs) rfl (Nat.le_of_ble_eq_true rfl) (by kernel_rfl) (Mp.one1 _) ?_; intro w1 HW1 HK1)))
 obtain ⟨z,hz⟩:∃ z,w0.heap.size=z:=⟨_,rfl⟩
 have HSZ:Hid (w.heap.size + 1 < z):=by rw [← hz]; exact HKr.out.inside
 rw [hz] at HW1 HK1 HZ HBz ⊢
 have HB1:Hid (Below w.heap.size w w1):=(HW1.out.below (HB0.out.trans (HBz.out.mono (by have:=HSZ.out; omega))) (by have:=HSZ.out; omega))
 have HKr1:=Hd (HW1.out.blk (show w.heap.size + 1≠z by have:=HSZ.out; omega) (HKr.out.below' (hz ▸ HBz.out)))
 have HKs1:=Hd (HW1.out.blk (show w.heap.size≠z by have:=HSZ.out; omega) (HKs.out.below' (hz ▸ HBz.out)))
 clear hlk hfd c4 i0 HLK HW1 HZ HBz HB0 HKs HKr hz
 go_wp2_with (first | (with_reducible show wpList _ _ _ (Oper.mk _ (Op.load _ _) _ _ _ _ :: _) _ _; first | (refine wpl_take 50 _ rfl rfl _ 0 rfl ((nd 0).m.cs) HK1.out ((nd 0).m.cs) rfl _ Tryz.underlying50 rfl (by kernel_rfl) ?_)) | (with_reducible show wpList _ _ _ (Oper.mk _ (Op.store _ _ _) _ _ _ _ :: _) _ _; first | (refine wpl_stow 50 _ _ rfl rfl rfl _ 0 rfl ((nd 0).m.cs) rfl ([.int .i64 0,.int .i64 0,.int .i64 0,.int .i64 0,.int .i64 0,.int .i64 0]) HKr1.out ((nd 0).m.cs) rfl (Nat.le_of_ble_eq_true rfl) (by kernel_rfl) (Mp.one1 _) ?_; intro w2 HW2 HK2)))
 exact blk_ret2 rfl rfl rfl HK2.out Tryz.underlying50 rfl (by kernel_rfl) ⟨rfl,HW2.out.below HB1.out (by omega)⟩
theorem dworld_1 (wi hei M:Int) (tv:Value) (t:T) (m:Nat) (nd:Int→Nd) (ok:Ok t) (hn:t.length≤1000) (id0:Int) (w:World) (ht:DTree w tv t) (hm:DMap w m (has t) nd) (hi:id0∈ids t)
  (ih:∀ W,DTree W tv t→DMap W m (has t) nd→Calls Tryz.prog 63 #[.agg #[.int .i64 wi,.int .i64 hei,.int .i64 M,tv,.map (some m)],.int .i64 (par t id0)] W fun e w'=>e=.returned (.tuple #[.agg (worldV t nd (par t id0)).1.cs.toArray,.bool (worldV t nd (par t id0)).2])∧Below W.heap.size W w') :
  Calls Tryz.prog 63 #[.agg #[.int .i64 wi,.int .i64 hei,.int .i64 M,tv,.map (some m)],.int .i64 id0] w fun e w'=>e=.returned (.tuple #[.agg (worldV t nd id0).1.cs.toArray,.bool (worldV t nd id0).2])∧Below w.heap.size w w':=by
 have h64:I64 id0:=has_64 ok (has_iff.2 (.inr hi))
 have hne:=ok.ne0 hi
 have q:(id0 == 0)=false:=by simpa using hne
 have hhi:has t id0=true:=has_iff.2 (.inr hi)
 have HP:=Hd (fun A c W hr=>dpar A t c id0 W hr (by omega))
 have HIH:=Hd ih
 rw [worldV_step ok nd hi]
 clear ih ok hi hne
 obtain ⟨qv,hqv⟩:∃ qv,worldV t nd (par t id0)=qv:=⟨_,rfl⟩
 rw [hqv] at HIH ⊢
 clear hqv
 obtain ⟨R,hR⟩:∃ R,vstep (nd id0).m qv=R:=⟨_,rfl⟩
 have HE:=Hd hR
 rw [hR]
 clear hR
 generalize par t id0=pp at *
 obtain ⟨At,ct,rfl,hr,hy⟩:=ht
 obtain ⟨An,cn,hrn,hlk⟩:=hm.look h64 hhi
 have HLK:=Hd hlk
 have HM0:=Hd hm
 have HR:=Hd hr
 have HY:=Hd hy
 clear hlk hrn hm hr hy
 have HB0:Hid (Below w.heap.size w ((w.alloc (.cells #[.int .i64 wi,.int .i64 hei,.int .i64 M,.slice At t.length ct,.map (some m)] 34)).alloc (.cells #[.int .i64 0,.int .i64 0,.int .i64 0,.int .i64 0,.int .i64 0,.int .i64 0] 50))):=((Below.refl _ _).alloc (Nat.le_refl _) _).alloc (by simp) _
 have HKs:Hid (Blk ((w.alloc (.cells #[.int .i64 wi,.int .i64 hei,.int .i64 M,.slice At t.length ct,.map (some m)] 34)).alloc (.cells #[.int .i64 0,.int .i64 0,.int .i64 0,.int .i64 0,.int .i64 0,.int .i64 0] 50)) w.heap.size [.int .i64 wi,.int .i64 hei,.int .i64 M,.slice At t.length ct,.map (some m)]):=(blk_new w [.int .i64 wi,.int .i64 hei,.int .i64 M,.slice At t.length ct,.map (some m)] _).alloc _
 have HKr:Hid (Blk ((w.alloc (.cells #[.int .i64 wi,.int .i64 hei,.int .i64 M,.slice At t.length ct,.map (some m)] 34)).alloc (.cells #[.int .i64 0,.int .i64 0,.int .i64 0,.int .i64 0,.int .i64 0,.int .i64 0] 50)) (w.heap.size + 1) [.int .i64 0,.int .i64 0,.int .i64 0,.int .i64 0,.int .i64 0,.int .i64 0]):=blk_at (w.alloc _) _ (by simp) [.int .i64 0,.int .i64 0,.int .i64 0,.int .i64 0,.int .i64 0,.int .i64 0] _
 go_enter Tryz.func63,Tryz.ntmps63
 go_upto_region 1 with (fail)
 generalize ((w.alloc (.cells #[.int .i64 wi,.int .i64 hei,.int .i64 M,.slice At t.length ct,.map (some m)] 34)).alloc (.cells #[.int .i64 0,.int .i64 0,.int .i64 0,.int .i64 0,.int .i64 0,.int .i64 0] 50))=w0 at *
 have hlk:=HLK.out w0 HB0.out
 have hfd:=field_dn (nd id0) An cn w0
 have c4:w0.cell? ⟨w.heap.size,4,none⟩=some (.map (some m)):=HKs.out.cell 4
 have i0:=HKs.out.inside
 have HZ:Hid (Blk (w0.alloc (.cells #[.int .i64 0,.int .i64 0,.int .i64 0,.int .i64 0,.int .i64 0,.int .i64 0] 50)) w0.heap.size [.int .i64 0,.int .i64 0,.int .i64 0,.int .i64 0,.int .i64 0,.int .i64 0]):=blk_new w0 [.int .i64 0,.int .i64 0,.int .i64 0,.int .i64 0,.int .i64 0,.int .i64 0] _
 have HBz:Hid (Below w0.heap.size w0 (w0.alloc (.cells #[.int .i64 0,.int .i64 0,.int .i64 0,.int .i64 0,.int .i64 0,.int .i64 0] 50))):=(Below.refl _ _).alloc (Nat.le_refl _) _
 go_upto_region 2 with (first | (with_reducible show wpList _ _ _ (Oper.mk _ (Op.store _ _ _) _ _ _ _ :: _) _ _; first | (refine wpl_stow 50 _ _ rfl rfl rfl _ 0 rfl ((nd id0).m.cs) rfl ([.int .i64 0,.int .i64 0,.int .i64 0,.int .i64 0,.int .i64 0,.int .i64 0]) HZ.out ((nd id0).m.cs) rfl (Nat.le_of_ble_eq_true rfl) (by kernel_rfl) (Mp.one1 _) ?_; intro w1 HW1 HK1)))
 obtain ⟨z,hz⟩:∃ z,w0.heap.size=z:=⟨_,rfl⟩
 have HSZ:Hid (w.heap.size + 1 < z):=by rw [← hz]; exact HKr.out.inside
 rw [hz] at HW1 HK1 HZ HBz ⊢
 have HB1:Hid (Below w.heap.size w w1):=(HW1.out.below (HB0.out.trans (HBz.out.mono (by have:=HSZ.out; omega))) (by have:=HSZ.out; omega))
 have HKr1:=Hd (HW1.out.blk (show w.heap.size + 1≠z by have:=HSZ.out; omega) (HKr.out.below' (hz ▸ HBz.out)))
 have HKs1:=Hd (HW1.out.blk (show w.heap.size≠z by have:=HSZ.out; omega) (HKs.out.below' (hz ▸ HBz.out)))
 clear hlk hfd c4 i0 HLK HW1 HZ HBz HB0 HKs HKr hz
 clear hhi h64
 have FS:Hid (∀ W,Below w1.heap.size w1 W→Blk W w.heap.size [.int .i64 wi,.int .i64 hei,.int .i64 M,.slice At t.length ct,.map (some m)]):=fun W hb=>HKs1.out.below' hb
 have FP:Hid (∀ W,Below w1.heap.size w1 W→Calls Tryz.prog 23 #[.slice At t.length ct,.int .i64 id0] W fun e w'=>e=.returned (.int .i64 pp)∧Below W.heap.size W w'):=fun W hb=>HP.out At ct W (SRow.below HR.out (HB1.out.trans (hb.mono HB1.out.size)))
 have FW:Hid (∀ W,Below w1.heap.size w1 W→Calls Tryz.prog 63 #[.agg #[.int .i64 wi,.int .i64 hei,.int .i64 M,.slice At t.length ct,.map (some m)],.int .i64 pp] W fun e w'=>e=.returned (.tuple #[.agg qv.1.cs.toArray,.bool qv.2])∧Below W.heap.size W w'):=fun W hb=>HIH.out W (DTree.below ⟨At,ct,rfl,HR.out,HY.out⟩ (HB1.out.trans (hb.mono HB1.out.size))) (HM0.out.below (HB1.out.trans (hb.mono HB1.out.size)))
 go_upto_region 4 with (fail)
 refine regv.wp_region_put (Below w1.heap.size) (fun L V wx=>JN w1.heap.size [] ([.int .i64 0,.int .i64 0,.int .i64 0,.int .i64 0,.int .i64 0,.int .i64 0]) (qv.1.cs) (L 9) (L 10) (V 7) wx) [18,19,20,21,22,23,17,24,25,7,8] (by kernel_rfl) (by kernel_rfl) (fun _=>Below.refl _ _) (fun _ _ _ h k=>h.trans k) (fun i=>(match i with
  | 0=>regs.Say.val _ (.agg ([.int .i64 wi,.int .i64 hei,.int .i64 M,.slice At t.length ct,.map (some m)]).toArray)
  | 1=>regs.Say.val _ (.pointer (some ⟨w.heap.size,3,none⟩))
  | 2=>regs.Say.val _ (.slice At t.length ct)
  | 3=>regs.Say.val _ (.int .i64 id0)
  | 4=>regs.Say.val _ (.int .i64 pp)
  | 5=>regs.Say.val _ (.tuple #[.agg (qv.1.cs).toArray,.bool qv.2])
  | 6=>regs.Say.val _ (.tuple #[.agg (qv.1.cs).toArray,.bool qv.2])
  | 7=>regs.Say.val _ (.agg (qv.1.cs).toArray)
  | 8=>regs.Say.val _ (.bool qv.2)
  | 9=>regs.Say.any _
  | 10=>regs.Say.any _
  | 11=>regs.Say.val _ (.bool qv.2)
  | _=>regs.Say.any _:regs.Say (Below w1.heap.size)).p) (fun _=>regs.Say.mono _) (by kernel_rfl) ((Below.refl _ _).drew) (JN.start (old:=[]) trivial) ⟨?_,?_,?_,?_,?_,?_,?_,?_,?_,?_,?_,?_,trivial⟩ ?_
 ·refine regv.StepOK.plain rfl fun L a w1 hh=>?_
  have h2:a.tmps[2]?.getD undef=.pointer (some ⟨w.heap.size,0,none⟩):=rq (hh.old 2 rfl)
  have hB:=Hd (FS.out _ hh.rel)
  have hJ:=Hd hh.st
  exact wp_take 34 _ rfl w.heap.size 0 (by simpa [go_sem] using h2) _ hB.out ([.int .i64 wi,.int .i64 hei,.int .i64 M,.slice At t.length ct,.map (some m)]) rfl _ Tryz.underlying34 rfl (by kernel_rfl) ⟨_,rfl,Below.refl _ _,rfl,JN.slots hJ.out (regv.sl_ne (by decide))⟩
 ·refine regv.StepOK.plain rfl fun L a w1 hh=>?_
  have h2:a.tmps[2]?.getD undef=.pointer (some ⟨w.heap.size,0,none⟩):=rq (hh.old 2 rfl)
  have i0:=(FS.out _ hh.rel).inside
  have hJ:=Hd hh.st; clear hh; go_simp; exact ⟨_,rfl,Below.refl _ _,rfl,JN.slots hJ.out (regv.sl_ne (by decide))⟩
 ·refine regv.StepOK.plain rfl fun L a w1 hh=>?_
  have h19:=rq (hh.dep 1 19 (by kernel_rfl) (by kernel_rfl))
  have hB:=Hd (FS.out _ hh.rel)
  have c0:w1.cell? ⟨w.heap.size,3,none⟩=some (.slice At t.length ct):=hB.out.cell 3
  have i0:=hB.out.inside
  have hJ:=Hd hh.st; clear hh; go_simp; exact ⟨_,rfl,Below.refl _ _,rfl,JN.slots hJ.out (regv.sl_ne (by decide))⟩
 ·refine regv.StepOK.plain rfl fun L a w1 hh=>?_
  have h1:a.tmps[1]?.getD undef=.int .i64 id0:=rq (hh.old 1 rfl)
  have hJ:=Hd hh.st; clear hh; go_simp; exact ⟨_,rfl,Below.refl _ _,rfl,JN.slots hJ.out (regv.sl_ne (by decide))⟩
 ·refine regv.StepOK.plain rfl fun L a w1 hh=>?_
  have h20:=rq (hh.dep 2 20 (by kernel_rfl) (by kernel_rfl))
  have h21:=rq (hh.dep 3 21 (by kernel_rfl) (by kernel_rfl))
  have hC:=Hd (FP.out _ hh.rel)
  have hJ:=Hd hh.st; clear hh; go_simp; refine hC.out.mono ?_
  rintro e w9 ⟨rfl,hb9⟩
  exact ⟨_,rfl,hb9.mono hJ.out.1.2.1,rfl,JN.slots (JN.below hJ.out hb9) (regv.sl_ne (by decide))⟩
 ·refine regv.StepOK.plain rfl fun L a w1 hh=>?_
  have h18:=rq (hh.dep 0 18 (by kernel_rfl) (by kernel_rfl))
  have h22:=rq (hh.dep 4 22 (by kernel_rfl) (by kernel_rfl))
  have hC:=Hd (FW.out _ hh.rel)
  have hJ:=Hd hh.st; clear hh; go_simp; refine hC.out.mono ?_
  rintro e w9 ⟨rfl,hb9⟩
  exact ⟨_,rfl,hb9.mono hJ.out.1.2.1,rfl,JN.slots (JN.below hJ.out hb9) (regv.sl_ne (by decide))⟩
 ·refine regv.StepOK.plain rfl fun L a w1 hh=>?_
  have h23:=rq (hh.dep 5 23 (by kernel_rfl) (by kernel_rfl))
  have hJ:=Hd hh.st; clear hh; go_simp; exact ⟨_,rfl,Below.refl _ _,rfl,JN.slots hJ.out (regv.sl_ne (by decide))⟩
 ·refine regv.StepOK.plain rfl fun L a w1 hh=>?_
  have h17:=rq (hh.dep 6 17 (by kernel_rfl) (by kernel_rfl))
  have hJ:=Hd hh.st; clear hh; go_simp; exact ⟨_,rfl,Below.refl _ _,rfl,JN.slots hJ.out (regv.sl_ne (by decide))⟩
 ·refine regv.StepOK.plain rfl fun L a w1 hh=>?_
  have h17:=rq (hh.dep 6 17 (by kernel_rfl) (by kernel_rfl))
  have hJ:=Hd hh.st; clear hh; go_simp; exact ⟨_,rfl,Below.refl _ _,rfl,JN.slots hJ.out (regv.sl_ne (by decide))⟩
 ·refine regv.StepOK.plain rfl fun L a w1 hh=>?_
  have hJ:=Hd hh.st
  have hsz:=Hd hh.size
  have hun:=Hd hh.un
  clear hh
  go_simp
  exact ⟨_,rfl,(Below.refl _ _).alloc hJ.out.1.2.1 _,trivial,JN.new hJ.out hun.out (regv.sl_same (by rw [hsz.out]; simp))⟩
 ·refine regv.StepOK.plain rfl fun L a w1 hh=>?_
  have h24:=rq (hh.dep 7 24 (by kernel_rfl) (by kernel_rfl))
  have hup:=hh.up 9 (by kernel_rfl)
  obtain ⟨g9,h9,hg9,hB9⟩:=hh.st.2.1 hup
  have h7:a.tmps[7]?.getD undef=.pointer (some ⟨g9,0,none⟩):=rq (h9)
  rw [hh.un] at hB9
  have hJ:=Hd hh.st
  have hun:=Hd hh.un
  refine wp_stow 50 _ _ rfl g9 0 (by simpa [go_sem] using h7) (qv.1.cs) (by simpa [go_sem] using h24) _ hB9 (Nat.le_of_ble_eq_true rfl) (by kernel_rfl) (by rfl) ?_
  intro w9 hW9 hC9
  have hP:=hJ.out.stow hup hun.out h9 hW9 hC9 rfl
  exact ⟨undef,rfl,hP.2,trivial,hP.1⟩
 ·refine regv.StepOK.plain rfl fun L a w1 hh=>?_
  have h25:=rq (hh.dep 8 25 (by kernel_rfl) (by kernel_rfl))
  have hJ:=Hd hh.st; clear hh; go_simp; exact ⟨_,rfl,Below.refl _ _,rfl,JN.slots hJ.out (regv.sl_ne (by decide))⟩
 intro L w4 val hL hJ hR hv
 have h8:val 8=.bool qv.2:=hv 11 8 (by kernel_rfl)
 have HR4:=Hd hR
 obtain ⟨g7,e7,hg7,hB7⟩:=hJ.2.1 (hL 9 (by decide))
 have HB6:=Hd (And.intro hg7 (show Blk w4 g7 qv.1.cs by rw [hL 10 (by decide)] at hB7; exact hB7))
 clear hv hL hJ hR hg7 hB7
 simp only [regs.putAll,List.map_cons,List.map_nil,h8]
 simp only [Act.put,List.setIfInBounds_toArray,List.set_cons_zero,List.set_cons_succ]
 clear h8
 generalize val 18=v18,val 19=v19,val 20=v20,val 21=v21,val 22=v22,val 23=v23,val 17=v17,val 24=v24,val 25=v25 at *
 rw [e7]
 clear e7
 have FK4:Hid (Below w.heap.size w w4):=HB1.out.trans (HR4.out.mono HB1.out.size)
 have HKr4:=Hd (HKr1.out.below' HR4.out)
 have HK4:=Hd (HK1.out.below' HR4.out)
 have HG7:Hid (w.heap.size + 1≠g7):=by have h1:=HB6.out.1; have h2:=HKr1.out.inside; show _≠_; omega
 obtain ⟨qm,qb⟩:=qv
 cases qb with
 | false=>
  have HE2:Hid (R=(qm,false)):=by show _=_; rw [← HE.out]; rfl
  go_wp2_with (first | (with_reducible show wpList _ _ _ (Oper.mk _ (Op.load _ _) _ _ _ _ :: _) _ _; first | (refine wpl_take 50 _ rfl rfl _ 0 rfl (qm.cs) HB6.out.2 (qm.cs) rfl _ Tryz.underlying50 rfl (by kernel_rfl) ?_)) | (with_reducible show wpList _ _ _ (Oper.mk _ (Op.store _ _ _) _ _ _ _ :: _) _ _; first | (refine wpl_stow 50 _ _ rfl rfl rfl _ 0 rfl (qm.cs) rfl ([.int .i64 0,.int .i64 0,.int .i64 0,.int .i64 0,.int .i64 0,.int .i64 0]) HKr4.out (qm.cs) rfl (Nat.le_of_ble_eq_true rfl) (by kernel_rfl) (Mp.one1 _) ?_; intro w5 HW5 HK5)))
  rw [HE2.out]
  exact blk_ret2 rfl rfl rfl HK5.out Tryz.underlying50 rfl (by kernel_rfl) ⟨rfl,HW5.out.below FK4.out (by omega)⟩
 | true=>
  have HE2:Hid (R=(if (nd id0).m.thenB qm=true then (nd id0).m.then1 qm else Mp.o,(nd id0).m.thenB qm)):=by show _=_; rw [← HE.out]; rfl
  obtain ⟨rm,hrm⟩:∃ rm,(if (nd id0).m.thenB qm=true then (nd id0).m.then1 qm else Mp.o)=rm:=⟨_,rfl⟩
  have HT:=Hd (mp_dthen (nd id0).m qm w4)
  rw [hrm] at HE2 HT
  clear hrm
  go_wp2_with (first | (with_reducible show wpList _ _ _ (Oper.mk _ (Op.load _ _) _ _ _ _ :: _) _ _; first | (refine wpl_take 50 _ rfl rfl _ 0 rfl ((nd id0).m.cs) HK4.out ((nd id0).m.cs) rfl _ Tryz.underlying50 rfl (by kernel_rfl) ?_) | (refine wpl_take 50 _ rfl rfl _ 0 rfl (qm.cs) HB6.out.2 (qm.cs) rfl _ Tryz.underlying50 rfl (by kernel_rfl) ?_)))
  refine HT.out.mono ?_
  rintro e w5 ⟨rfl,hb5⟩
  have FK5:Hid (Below w.heap.size w w5):=FK4.out.trans (hb5.mono FK4.out.size)
  have HKr5:=Hd (HKr4.out.below' hb5)
  clear hb5
  unfold Mp.v
  go_wp2_with (first | (with_reducible show wpList _ _ _ (Oper.mk _ (Op.store _ _ _) _ _ _ _ :: _) _ _; first | (refine wpl_stow 50 _ _ rfl rfl rfl _ 0 rfl (rm.cs) rfl ([.int .i64 0,.int .i64 0,.int .i64 0,.int .i64 0,.int .i64 0,.int .i64 0]) HKr5.out (rm.cs) rfl (Nat.le_of_ble_eq_true rfl) (by kernel_rfl) (Mp.one1 _) ?_; intro w6 HW6 HK6)))
  rw [HE2.out]
  exact blk_ret2 rfl rfl rfl HK6.out Tryz.underlying50 rfl (by kernel_rfl) ⟨rfl,HW6.out.below FK5.out (by omega)⟩
theorem dworld_any (wi hei M:Int) (tv:Value) (t:T) (m:Nat) (nd:Int→Nd) (ok:Ok t) (hn:t.length≤1000) (k:Nat):∀ (i:Int) (w:World),DTree w tv t→DMap w m (has t) nd→has t i=true→depth t i≤k →
  Calls Tryz.prog 63 #[.agg #[.int .i64 wi,.int .i64 hei,.int .i64 M,tv,.map (some m)],.int .i64 i] w fun e w'=>e=.returned (.tuple #[.agg (worldV t nd i).1.cs.toArray,.bool (worldV t nd i).2])∧Below w.heap.size w w':=by
 induction k with
 | zero=>
  intro i w ht hm hh hd
  have h0:i=0:=by
   rcases has_iff.1 hh with e | e
   ·exact e
   ·rw [depth_step ok e] at hd; omega
  subst h0
  exact dworld_0 wi hei M tv t m nd w ht hm
 | succ k ih=>
  intro i w ht hm hh hd
  by_cases h0:i=0
  ·subst h0
   exact dworld_0 wi hei M tv t m nd w ht hm
  have hi:=(has_iff.1 hh).resolve_left h0
  rw [depth_step ok hi] at hd
  exact dworld_1 wi hei M tv t m nd ok hn i w ht hm hi (fun W ht hm=>ih (par t i) W ht hm (has_iff.2 (ok.par_ok hi)) (by omega))
end Go.Proofs.YthpifjcddgmjnaaGreat
namespace Go.Proofs.YthpifjcddgmjnaaGreat
open Go.RowKit pxm imm trm Go.Maps
theorem VM.not_b {w:World} {m g:Nat} {es:LV} {cs:List Value} (h:VM w m es) (hb:Blk w g cs):g≠m:=fun e=>by
 obtain ⟨es',clock,h1,_⟩:=h.own
 obtain ⟨T,hT⟩:=hb
 rw [e] at hT
 have:=hT.symm.trans h1
 cases this
theorem DMap.not_b {w:World} {m g:Nat} {H:Int→Bool} {nd:Int→Nd} {cs:List Value} (h:DMap w m H nd) (hb:Blk w g cs):g≠m:=by
 obtain ⟨es,h1,-⟩:=h.ex
 exact h1.not_b hb
def noPx (cs:List Value):Prop:=∀ c∈cs,∀ z,c≠.int .u32 z
theorem DPl.wrote {w w':World} {g:Nat} {cs:List Value} {v:Value} {n:Nd} (h:DPl w v n) (hb:Blk w g cs) (hc:noPx cs) (hW:Wrote g w w'):DPl w' v n:=by
 obtain ⟨A,c,e,hr⟩:=h
 refine ⟨A,c,e,hr.stays fun a ea hne=>hW.far fun e2=>?_⟩
 obtain ⟨b,off,e3,hcl⟩:=hr.row (List.length_pos_iff.2 hne)
 rw [ea] at e3
 obtain rfl:=Option.some.inj e3
 have h1:=hcl 0 (List.length_pos_iff.2 hne)
 obtain rfl:b=g:=e2
 have h2:=hb.cell (off + 0)
 rw [h1] at h2
 exact hc _ (List.mem_of_getElem? h2.symm) _ rfl
theorem DMap.wrote {w w':World} {m g:Nat} {H:Int→Bool} {nd:Int→Nd} {cs:List Value} (h:DMap w m H nd) (hb:Blk w g cs) (hc:noPx cs) (hW:Wrote g w w'):DMap w' m H nd:=by
 have hne:=h.not_b hb
 obtain ⟨es,h1,h2,h3⟩:=h.ex
 refine ⟨es,h1.stays (hW.far (Ne.symm hne)),h2,fun i hi=>?_⟩
 obtain ⟨v,e,hv⟩:=h3 i hi
 exact ⟨v,e,hv.wrote hb hc hW⟩
theorem DTree.wrote {w w':World} {g:Nat} {v:Value} {t:T} {cs:List Value} {T:TypeId} (h:DTree w v t) (hb:BlkT w g cs T) (hT:T≠161) (hW:Wrote g w w'):DTree w' v t:=
 h.stays fun _ _ _ _ hy ea=>hW.far (hy.not_blk ea hb hT)
theorem DTree.grown {w w':World} {m:Nat} {v:Value} {t:T} {H:Int→Bool} {nd:Int→Nd} (h:DTree w v t) (hm:DMap w m H nd) (hg:w.grownBy w' (some m)):DTree w' v t:=
 h.stays fun _ _ a _ hy ea=>hg.block _ (by obtain ⟨cs,fz,h1⟩:=hy a ea; exact lt_of_block h1) fun e=>by
  obtain ⟨cs,fz,h1⟩:=hy a ea
  obtain ⟨es,⟨_,⟨es',clock,h2,_⟩,_⟩,_⟩:=hm.ex
  have e3:a.block=m:=by simpa using e
  rw [e3] at h1
  have:=h1.symm.trans h2
  cases this
theorem DocAt.wrote {w w':World} {v:Value} {wi hei M:Int} {x:PSc} {g:Nat} {cs:List Value} {T:TypeId} (h:DocAt w v wi hei M x) (hb:BlkT w g cs T) (hT:T≠161) (hc:noPx cs) (hW:Wrote g w w'):DocAt w' v wi hei M x:=by
 obtain ⟨tv,m,e,h1,h2⟩:=h
 exact ⟨tv,m,e,h1.wrote hb hT hW,h2.wrote hb.blk hc hW⟩
theorem blkT_at (w:World) (g:Nat) (hg:g=w.heap.size) (cs:List Value) (T:TypeId):BlkT (w.alloc (.cells cs.toArray T)) g cs T:=hg ▸ BlkT.new w cs T
theorem DTree.srow {w:World} {A:Option Addr} {c:Nat} {t:T} (h:DTree w (.slice A t.length c) t):RRow w A t:=by
 obtain ⟨A',c',e,hr,_⟩:=h
 injection e with e _ _
 rw [e]
 exact hr
structure MJ (B:Nat) (old:List (Nat×List Value)) (m:Nat) (H:Int→Bool) (nd nd':Int→Nd) (tv:Value) (t:T) (gr:Nat) (d:Bool) (w:World):Prop where
 old:JBs old w
 bsz:B≤w.heap.size
 no:d=false→DMap w m H nd
 yes:d=true→DMap w m H nd'
 tr:DTree w tv t
 rt:BlkT w gr [.int .i64 0,.int .i64 0,.int .i64 0,.slice none 0 0,.map none] tDoc
theorem MJ.below {B:Nat} {old:List (Nat×List Value)} {m:Nat} {H:Int→Bool} {nd nd':Int→Nd} {tv:Value} {t:T} {gr:Nat} {d:Bool} {w w':World} (h:MJ B old m H nd nd' tv t gr d w) (hb:Below w.heap.size w w'):MJ B old m H nd nd' tv t gr d w':=
 ⟨h.old.below hb,Nat.le_trans h.bsz hb.size,fun e=>(h.no e).below hb,fun e=>(h.yes e).below hb,h.tr.below hb,h.rt.stays (hb.block _ h.rt.inside)⟩
theorem JBs.grown {w w':World} {m:Nat} {H:Int→Bool} {nd:Int→Nd} (hm:DMap w m H nd) (hg:w.grownBy w' (some m)):∀ {old:List (Nat×List Value)},JBs old w→JBs old w'
 | [],_=>trivial
 | _ :: _,h=>⟨h.1.stays (hg.block _ h.1.inside fun e=>hm.not_b h.1 (Option.some.inj e)),JBs.grown hm hg h.2⟩
theorem MJ.store {B:Nat} {old:List (Nat×List Value)} {m:Nat} {H:Int→Bool} {nd:Int→Nd} {tv:Value} {u t:T} {gr:Nat} {w:World} {i:Int} {n:Nd} {v:Value} (h:MJ B old m H nd (upd nd i n) tv u gr false w) (hH:∀ i,H i=has t i) (hn:t.length≤100000) (hi:I64 i) (hh:H i=true) (hv:DPl w v n) (hm:B≤m) :
  ∃ w',(Instr.mapUpdate tDNs (.map (some m)) (.int .i64 i) v).run Tryz.prog w=.ok () w'∧MJ B old m H nd (upd nd i n) tv u gr true w'∧Below B w w':=by
 have h0:=h.no rfl
 obtain ⟨w',hrun,hd,hg⟩:=h0.store hH hn hi hh hv
 refine ⟨w',hrun,⟨JBs.grown h0 hg h.old,Nat.le_trans h.bsz hg.size,(fun e=>nomatch e),fun _=>hd,h.tr.grown h0 hg,h.rt.stays (hg.block _ h.rt.inside fun e=>h0.not_b h.rt.blk (Option.some.inj e))⟩,(Below.refl _ _).grown hg h.bsz fun j e=>by cases e; exact hm⟩
end Go.Proofs.YthpifjcddgmjnaaGreat
namespace Go.Proofs.YthpifjcddgmjnaaGreat
open Go.RowKit pxm imm trm Go.Maps
def isBox (o:Obj):Prop:=∃ cs fz,o=.cells cs tDoc fz∧noPx cs.toList
structure DR (B:Nat) (w w':World):Prop where
 bel:Below B w w'
 same:∀ (k:Nat) (o:Obj),w.heap[k]?=some o→¬ isBox o→w'.heap[k]?=some o
theorem DR.refl (B:Nat) (w:World):DR B w w:=⟨Below.refl _ _,fun _ _ h _=>h⟩
theorem DR.trans {B:Nat} {w w1 w2:World} (h:DR B w w1) (k:DR B w1 w2):DR B w w2:=⟨h.bel.trans k.bel,fun j o h1 h2=>k.same j o (h.same j o h1 h2) h2⟩
theorem DR.below {B:Nat} {w w':World} (hb:Below w.heap.size w w') (hB:B≤w.heap.size):DR B w w':=⟨hb.mono hB,fun k _ h _=>(hb.block k (Array.getElem?_eq_some_iff.1 h).1).trans h⟩
theorem DR.wrote {B g:Nat} {w w':World} {cs:List Value} (hb:BlkT w g cs tDoc) (hc:noPx cs) (hW:Wrote g w w') (hB:B≤g):DR B w w':=⟨hW.below (Below.refl _ _) hB,fun k o h hn=>by
 by_cases e:k=g
 ·refine absurd ⟨cs.toArray,(0,0),?_,by simpa using hc⟩ hn
  rw [e] at h
  exact Option.some.inj (h.symm.trans hb)
 ·exact (hW.far e).trans h⟩
theorem BlkT.wrote {w w':World} {g:Nat} {cs cs':List Value} {T:TypeId} (h:BlkT w g cs T) (hW:Wrote g w w') (hB:Blk w' g cs'):BlkT w' g cs' T:=by
 obtain ⟨o,l,rfl⟩:=hW
 have:∀ (l:List Value) (o:Nat) {w:World} {cs:List Value},BlkT w g cs T→∃ c2,BlkT (putBlk g w o l) g c2 T:=by
  intro l
  induction l with
  | nil=>exact fun _ _ cs h=>⟨cs,h⟩
  | cons v l ih=>exact fun o _ _ h=>ih (o + 1) (h.set o v)
 obtain ⟨c2,h2⟩:=this l o h
 obtain ⟨T',h3⟩:=hB
 have e:=h2.symm.trans h3
 simp only [Option.some.injEq,Obj.cells.injEq] at e
 have e1:c2=cs':=by have:=congrArg Array.toList e.1; simpa using this
 rw [← e1]
 exact h2
structure VJ (B:Nat) (iA iS:Bool) (vA vC:Value) (w:World):Prop where
 bsz:B≤w.heap.size
 ex:iA=true→∃ g cs,vA=.pointer (some ⟨g,0,none⟩)∧B≤g∧BlkT w g cs tDoc∧noPx cs∧cs.length=5∧(iS=true→vC=.agg cs.toArray)
section
variable {B:Nat} {iA iS:Bool} {vA vC:Value} {w w':World}
theorem VJ.start (h:B≤w.heap.size):VJ B false iS vA vC w:=⟨h,fun e=>nomatch e⟩
theorem VJ.slots {uA uC:Value} (h:VJ B iA iS vA vC w) (e1:uA=vA) (e2:uC=vC):VJ B iA iS uA uC w:=by rw [e1,e2]; exact h
theorem VJ.below (h:VJ B iA iS vA vC w) (hb:Below w.heap.size w w'):VJ B iA iS vA vC w':=⟨Nat.le_trans h.bsz hb.size,fun e=>by
 obtain ⟨g,cs,h1,h2,h3,h4⟩:=h.ex e
 exact ⟨g,cs,h1,h2,h3.stays (hb.block _ h3.inside),h4⟩⟩
theorem VJ.made {uA uC:Value} (h:VJ B iA iS vA vC w) (eS:iS=false) (e1:uA=.pointer (some ⟨w.heap.size,0,none⟩)):VJ B true iS uA uC (w.alloc (.cells #[.int .i64 0,.int .i64 0,.int .i64 0,.slice none 0 0,.map none] tDoc)):=
 ⟨Nat.le_trans h.bsz (by simp),fun _=>⟨w.heap.size,_,e1,h.bsz,BlkT.new w [.int .i64 0,.int .i64 0,.int .i64 0,.slice none 0 0,.map none] tDoc,by unfold noPx; simp,rfl,fun e=>by rw [eS] at e; cases e⟩⟩
theorem VJ.put {cs':List Value} {g:Nat} {cs:List Value} (h:VJ B iA iS vA vC w) (e1:vA=.pointer (some ⟨g,0,none⟩)) (hg:B≤g) (hb:BlkT w g cs tDoc) (hc:noPx cs) (hW:Wrote g w w') (hB:Blk w' g cs') (h2:noPx cs') (hl:cs'.length=5) (ev:vC=.agg cs'.toArray):VJ B iA true vA vC w'∧DR B w w':=
 ⟨⟨by rw [hW.size]; exact h.bsz,fun _=>⟨g,cs',e1,hg,hb.wrote hW hB,h2,hl,fun _=>ev⟩⟩,DR.wrote hb hc hW hg⟩
end
def DBlk (w:World) (g:Nat) (a b M:Int) (x:PSc):Prop:=∃ A c m,BlkT w g [.int .i64 a,.int .i64 b,.int .i64 M,.slice A x.t.length c,.map (some m)] tDoc∧DTree w (.slice A x.t.length c) x.t∧DMap w m (has x.t) x.nd
theorem DBlk.below {w w':World} {g:Nat} {a b M:Int} {x:PSc} (h:DBlk w g a b M x) (hb:Below w.heap.size w w'):DBlk w' g a b M x:=by
 obtain ⟨A,c,m,h1,h2,h3⟩:=h
 exact ⟨A,c,m,h1.stays (hb.block _ h1.inside),h2.below hb,h3.below hb⟩
theorem DocAt.ex {w:World} {v:Value} {a b M:Int} {x:PSc} (h:DocAt w v a b M x):∃ A c m,v=.agg #[.int .i64 a,.int .i64 b,.int .i64 M,.slice A x.t.length c,.map (some m)]∧DTree w (.slice A x.t.length c) x.t∧DMap w m (has x.t) x.nd:=by
 obtain ⟨tv,m,rfl,⟨A,c,rfl,h1⟩,h2⟩:=h
 exact ⟨A,c,m,rfl,⟨A,c,rfl,h1⟩,h2⟩
def OpR.dcs (q:OpR):List Value:=q.o.dcs q.A q.c
theorem OpR.dcs_len (q:OpR):q.dcs.length=24:=rfl
structure OpsD (w:World) (A:Option Addr) (l:List OpR):Prop where
 row:SRow 24 OpR.dcs w A l
 px:∀ q∈l,PxR w q.A q.o.lk.l
theorem OpsD.below {w w':World} {A:Option Addr} {l:List OpR} (h:OpsD w A l) (hb:Below w.heap.size w w'):OpsD w' A l:=⟨SRow.below h.row hb,fun q hq=>(h.px q hq).below hb⟩
end Go.Proofs.YthpifjcddgmjnaaGreat
namespace Go.Proofs.YthpifjcddgmjnaaGreat
open Go.RowKit pxm imm trm Go.Maps
end Go.Proofs.YthpifjcddgmjnaaGreat
namespace Go.Proofs.YthpifjcddgmjnaaGreat
open Go.RowKit pxm imm
theorem SOwn.ge {α:Type} {T:TypeId} {k:Nat} {enc:α→List Value} {w:World} {base n c:Nat} {A:Option Addr} {l:List α} (h:SOwn T k enc w base (.slice A n c) l) {a:Addr} (e:A=some a):base≤a.block∧∃ cs fz,w.heap[a.block]?=some (.cells cs T fz):=by
 rcases h.2 with ⟨e2,_⟩ | ⟨g,cap,cur,e2,hg,hb,_⟩
 ·injection e2 with e3 _ _
  rw [e] at e3
  cases e3
 ·injection e2 with e3 _ _
  rw [e] at e3
  injection e3 with e3
  rw [e3]
  exact ⟨hg,cur,_,hb⟩
end Go.Proofs.YthpifjcddgmjnaaGreat
namespace Go.Proofs.YthpifjcddgmjnaaGreat
open Go.RowKit pxm imm trm Go.Maps
structure KX (x:Nat) (A W:World):Prop where
 os:W.os=A.os
 tape:W.tape=A.tape
 output:W.output=A.output
 size:A.heap.size≤W.heap.size
 same:∀ k,k < A.heap.size→k≠x→W.heap[k]?=A.heap[k]?
theorem KX.refl (x:Nat) (A:World):KX x A A:=⟨rfl,rfl,rfl,Nat.le_refl _,fun _ _ _=>rfl⟩
theorem KX.trans {x:Nat} {A B C:World} (h:KX x A B) (k:KX x B C):KX x A C:=⟨k.os.trans h.os,k.tape.trans h.tape,k.output.trans h.output,Nat.le_trans h.size k.size,fun j hj hn=>(k.same j (Nat.lt_of_lt_of_le hj h.size) hn).trans (h.same j hj hn)⟩
theorem KX.of_below {x:Nat} {A W:World} (hb:Below A.heap.size A W):KX x A W:=⟨hb.os,hb.tape,hb.output,hb.size,fun k hk _=>hb.block k hk⟩
theorem KX.to_below {x n:Nat} {A W:World} (h:KX x A W) (hn:n≤x) (hs:n≤A.heap.size):Below n A W:=⟨h.os,h.tape,h.output,h.size,fun k hk=>h.same k (by omega) (by omega)⟩
theorem KX.wrote {x:Nat} {A W:World} (hW:Wrote x A W):KX x A W:=by
 have hb:=hW.below (Below.refl 0 A) (Nat.zero_le _)
 exact ⟨hb.os,hb.tape,hb.output,hb.size,fun k _ hn=>hW.far hn⟩
structure RJ (r:Nat) (o:Op9) (d:Bool) (w:World):Prop where
 no:d=false→Blk w r [.int .i64 0,.int .i64 0,.int .i64 0,.int .i64 0,.int .i64 0,.int .i64 0,.int .i64 0,.int .i64 0,.int .i64 0,.int .i64 0,.int .i64 0,.bool false,.bool false,.int .i64 0,.int .i64 0,.int .i64 0,.int .i64 0,.int .i64 0,.int .i64 0,.int .i64 0,.int .u32 0,.int .i64 0,.int .i64 0,.slice none 0 0]
 yes:d=true→∃ A c,Blk w r (o.dcs A c)∧PxR w A o.lk.l∧∀ a,A=some a→r < a.block
theorem RJ.below {r:Nat} {o:Op9} {d:Bool} {w w':World} (h:RJ r o d w) (hb:Below w.heap.size w w'):RJ r o d w':=⟨fun e=>(h.no e).below' hb,fun e=>by
 obtain ⟨A,c,h1,h2,h3⟩:=h.yes e
 exact ⟨A,c,h1.below' hb,h2.below hb,h3⟩⟩
/-! ### A row of them -/
abbrev tDOp:TypeId:=227
abbrev tDOps:TypeId:=147
abbrev DOwn (w:World) (base:Nat) (v:Value) (l:List OpR):Prop:=SOwn tDOp 24 OpR.dcs w base v l
theorem OpR.dcs_plain (q:OpR):∀ u∈q.dcs,u.oneCell'=true:=by
 have h:q.dcs.all (·.oneCell')=true:=rfl
 exact fun u hu=>List.all_eq_true.1 h u hu
theorem info_dop:(Tryz.prog.info? tDOp).map (fun i=>(i.zero,i.size,i.bytes))=some (some (.agg #[.int .i64 0,.int .i64 0,.int .i64 0,.int .i64 0,.int .i64 0,.int .i64 0,.int .i64 0,.int .i64 0,.int .i64 0,.int .i64 0,.int .i64 0,.bool false,.bool false,.int .i64 0,.int .i64 0,.int .i64 0,.int .i64 0,.int .i64 0,.int .i64 0,.int .i64 0,.int .u32 0,.int .i64 0,.int .i64 0,.slice none 0 0]),24,200):=by kernel_rfl
theorem app_dop {w:World} {base:Nat} {v:Value} {l:List OpR} (h:DOwn w base v l) (q:OpR) {c:Nat} (hn:l.length≤900000) (hbase:base≤w.heap.size) :
  ∃ v' w',(Builtin.append_ #[tDOps,tDOps] tDOps #[v,.slice (some ⟨w.heap.size,0,none⟩) 1 c]).run Tryz.prog (w.alloc (.cells q.dcs.toArray tDOp))=.ok v' w'∧DOwn w' base v' (l++[q]) ∧
   (w.alloc (.cells q.dcs.toArray tDOp)).grownBy w' v.ownBlock∧(v'.ownBlock=v.ownBlock∨v'.ownBlock=some (w.heap.size + 1)):=by
 have e:[q].flatMap OpR.dcs=q.dcs:=by simp
 obtain ⟨v',w',h1,h2,h3,h4⟩:=SOwn.app (P:=Tryz.prog) (xs:=[q]) (c:=c) (g:=w.heap.size) (o:=0) Tryz.underlying147 info_dop rfl (by decide) (by decide) OpR.dcs_len OpR.dcs_plain
  (h.below ((Below.refl _ _).alloc (Nat.le_refl _) (.cells q.dcs.toArray tDOp))) (fun _=>by have:=srow_new (enc:=OpR.dcs) OpR.dcs_len w [q] tDOp rfl; rw [e] at this; exact this) (by simp; omega) (by simp; omega)
 refine ⟨v',w',h1,h2,h3,?_⟩
 simpa using h4
structure Laid (w:World) (base:Nat) (v:Value) (l:List OpR) (os:List Op9):Prop where
 own:DOwn w base v l
 os:l.map (·.o)=os
 px:∀ q∈l,PxR w q.A q.o.lk.l∧∀ a,q.A=some a→q.o.lk.l≠[]→v.ownBlock≠some a.block
theorem Laid.below {w w':World} {base:Nat} {v:Value} {l:List OpR} {os:List Op9} (h:Laid w base v l os) (hb:Below w.heap.size w w'):Laid w' base v l os:=⟨SOwn.below h.own hb,h.os,fun q hq=>⟨(h.px q hq).1.below hb,(h.px q hq).2⟩⟩
theorem Laid.step {w w2:World} {base:Nat} {v:Value} {l:List OpR} {os:List Op9} (h:Laid w base v l os) (hbase:base≤w.heap.size) (hn:l.length≤900000) (hb:Below w.heap.size w w2) {o:Op9} {A:Option Addr} {c:Nat} (hr:PxR w2 A o.lk.l) (hg:∀ a,A=some a→w.heap.size≤a.block) {cc:Nat} :
  ∃ v' w',(Builtin.append_ #[tDOps,tDOps] tDOps #[v,.slice (some ⟨w2.heap.size,0,none⟩) 1 cc]).run Tryz.prog (w2.alloc (.cells (o.dcs A c).toArray tDOp))=.ok v' w'∧Laid w' base v' (l++[⟨o,A,c⟩]) (os++[o])∧Below base w2 w':=by
 have h2:=h.below hb
 obtain ⟨v',w',hrun,ho,hgr,hat⟩:=app_dop h2.own ⟨o,A,c⟩ (c:=cc) hn (Nat.le_trans hbase hb.size)
 have hal:Below w2.heap.size w2 (w2.alloc (.cells (o.dcs A c).toArray tDOp)):=(Below.refl _ _).alloc (Nat.le_refl _) _
 have hown:∀ a,A=some a→v.ownBlock≠some a.block:=fun a ea e=>by
  have h1:=(h.own.block e).2
  have:=hg a ea
  omega
 have keep:∀ (A':Option Addr) (lk:List Nat),PxR w2 A' lk→(∀ a,A'=some a→lk≠[]→v.ownBlock≠some a.block)→PxR w' A' lk∧∀ a,A'=some a→lk≠[]→v'.ownBlock≠some a.block:=fun A' lk h3 h4=>by
  refine ⟨(h3.below hal).stays fun a ea hne=>hgr.block _ (Row.lt (h3.below hal).row ea hne) (Ne.symm (h4 a ea hne)),fun a ea hne e=>?_⟩
  rcases hat with h5 | h5
  ·exact h4 a ea hne (h5 ▸ e)
  ·rw [h5] at e
   have h6:=Row.lt h3.row ea hne
   have:=Option.some.inj e
   omega
 refine ⟨v',w',hrun,⟨ho,by rw [List.map_append,h.os]; rfl,fun q hq=>?_⟩,(hal.mono (Nat.le_trans hbase hb.size)).grown hgr (by simp; have:=hb.size; omega) fun j hj=>(h2.own.block hj).1⟩
 rcases List.mem_append.1 hq with hq | hq
 ·exact keep _ _ (h2.px q hq).1 (h2.px q hq).2
 ·rw [List.mem_singleton.1 hq]
  exact keep A o.lk.l hr fun a ea _=>hown a ea
theorem Laid.done {w:World} {base:Nat} {v:Value} {l:List OpR} {os:List Op9} (h:Laid w base v l os):∃ A c,v=.slice A l.length c∧OpsD w A l:=by
 obtain ⟨A,c,e,_,_,hr⟩:=SOwn.row h.own OpR.dcs_len
 exact ⟨A,c,e,hr,fun q hq=>(h.px q hq).1⟩
end Go.Proofs.YthpifjcddgmjnaaGreat
namespace Go.Proofs.YthpifjcddgmjnaaGreat
open Go.RowKit pxm imm trm Go.Maps
/-! ### What is the document's is not the program's -/
theorem DMap.far {w:World} {g b m:Nat} {s:Sh} {Z:ZZ} {x:PSc} (hs:SceneAt w g b m s Z x) {dm:Nat} {H:Int→Bool} {nd:Int→Nd} (h:DMap w dm H nd) (h0:H 0=true):¬ SFoot b m s x.t dm:=by
 obtain ⟨es,h1,h2,h3⟩:=h.ex
 have i0:I64 (0:Int):=⟨by decide,by decide⟩
 obtain ⟨v,ev,A,c,rfl,-⟩:=h3 0 h0
 rintro (e | hk)
 ·obtain ⟨es2,g1,g2,g3⟩:=hs.map
  obtain ⟨u,eu,A2,c2,rfl,-⟩:=g3 0 (has_iff.2 (.inl rfl))
  subst e
  have r1:=h1.lookup (t:=tDNs) (E:=57) Tryz.underlying32 (zero_dn w) i0
  have r2:=g1.lookup (t:=tDNs) (E:=57) Tryz.underlying32 (zero_dn w) i0
  rw [ev] at r1
  rw [eu] at r2
  have r3:=r1.symm.trans r2
  injection r3 with r3 _
  simp only [Option.getD_some,Nd.v,plv] at r3
  injection r3 with r3
  have:=congrArg Array.size r3
  simp [Nd.cs,plcs] at this
 ·rcases hk with hk | hk | ⟨i,hi,hk | hk⟩
  ·exact h1.not_blk hs.tree.raw.blk hk
  ·have r1:=h1.lookup (t:=220) (E:=216) Tryz.underlying220 (zeroPtr w) i0
   have r2:=hs.tree.raw.look_some (i:=0) i0 (has_iff.2 (.inl rfl))
   subst hk
   rw [ev] at r1
   have r3:=r1.symm.trans r2
   injection r3 with r3 _
   simp only [Option.getD_some,Nd.v] at r3
   cases r3
  ·exact h1.not_blk (hs.tree.raw.node i hi).blk hk
  ·obtain ⟨cur,fr,h4⟩:=(hs.tree.raw.node i hi).own.typed hk
   obtain ⟨es',clock,h5,_⟩:=h1.own
   have:=h4.symm.trans h5
   cases this
theorem typ_far {w:World} {g b m:Nat} {s:Sh} {Z:ZZ} {x:PSc} (hs:SceneAt w g b m s Z x) {k:Nat} {cs:Array Value} {T:TypeId} {fz:Nat×Nat} (h:w.heap[k]?=some (.cells cs T fz)) (hT:T=161∨T=52):¬ SFoot b m s x.t k:=by
 have hne:∀ {cs':Array Value} {T':TypeId} {fz':Nat×Nat},w.heap[k]?=some (.cells cs' T' fz')→T'≠161→T'≠52→False:=fun h2 n1 n2=>by
  have:=h.symm.trans h2
  simp only [Option.some.injEq,Obj.cells.injEq] at this
  rcases hT with e | e
  ·exact n1 (this.2.1 ▸ e)
  ·exact n2 (this.2.1 ▸ e)
 rintro (e | hk)
 ·obtain ⟨es2,g1,_⟩:=hs.map
  obtain ⟨es',clock,h5,_⟩:=g1.own
  rw [e] at h
  have:=h.symm.trans h5
  cases this
 ·rcases hk with hk | hk | ⟨i,hi,hk | hk⟩
  ·have h1:w.heap[b]?=_:=hs.tree.raw.blk
   rw [← hk] at h1
   exact hne h1 (by decide) (by decide)
  ·obtain ⟨es,hm,_⟩:=hs.tree.raw.map
   obtain ⟨es',clock,h1,_⟩:=hm.own
   rw [hk] at h
   have:=h.symm.trans h1
   cases this
  ·have h1:w.heap[s.g i]?=_:=(hs.tree.raw.node i hi).blk
   rw [← hk] at h1
   exact hne h1 (by decide) (by decide)
  ·obtain ⟨cur,fr,h1⟩:=(hs.tree.raw.node i hi).own.typed hk
   exact hne h1 (by decide) (by decide)
section
variable {w w':World} {g b m:Nat} {s:Sh} {Z:ZZ} {x y:PSc} {S':Bset}
theorem DTree.turn (hs:SceneAt w g b m s Z x) (ht:TurnP (SFoot b m s x.t) S' w w') {v:Value} {t:T} (h:DTree w v t):DTree w' v t:=h.stays fun _ _ a _ hy ea=>by
 obtain ⟨cs,fz,h1⟩:=hy a ea
 exact (ht.far _ (lt_of_block h1) (typ_far hs h1 (.inl rfl))).2
theorem DPl.turn (hs:SceneAt w g b m s Z x) (ht:TurnP (SFoot b m s x.t) S' w w') {v:Value} {n:Nd} (h:DPl w v n):DPl w' v n:=by
 obtain ⟨A,c,e,hr⟩:=h
 refine ⟨A,c,e,hr.stays fun a ea hne=>?_⟩
 obtain ⟨cs,fz,h1⟩:=hr.typ a ea hne
 exact (ht.far _ (lt_of_block h1) (typ_far hs h1 (.inr rfl))).2
theorem DMap.turn (hs:SceneAt w g b m s Z x) (ht:TurnP (SFoot b m s x.t) S' w w') {dm:Nat} {H:Int→Bool} {nd:Int→Nd} (h:DMap w dm H nd) (h0:H 0=true):DMap w' dm H nd:=by
 have hf:=h.far hs h0
 obtain ⟨es,h1,h2,h3⟩:=h.ex
 refine ⟨es,h1.stays (ht.far _ h1.inside hf).2,h2,fun i hi=>?_⟩
 obtain ⟨v,e,hv⟩:=h3 i hi
 exact ⟨v,e,DPl.turn hs ht hv⟩
end
def oneQ (p:Nat):Bset:=fun k=>k=p
abbrev tPl:TypeId:=37
structure PlS (w0:World) (p g b m:Nat) (s:Sh) (za zb zc:Int) (x:PSc) (w:World):Prop where
 blk:∃ A c dm,BlkT w p [.pointer (some ⟨g,0,none⟩),.int .i64 za,.int .i64 zb,.int .i64 zc,.slice A x.t.length c,.map (some dm)] tPl∧DTree w (.slice A x.t.length c) x.t∧DMap w dm (has x.t) x.nd
 my:MyS w0 g b m s ⟨za,⟨zb,zc⟩,oneQ p⟩ x w
 pge:w0.heap.size≤p
theorem PlS.below {w0 w w':World} {p g b m:Nat} {s:Sh} {za zb zc:Int} {x:PSc} (h:PlS w0 p g b m s za zb zc x w) (hb:Below w.heap.size w w'):PlS w0 p g b m s za zb zc x w':=by
 obtain ⟨A,c,dm,h1,h2,h3⟩:=h.blk
 exact ⟨⟨A,c,dm,h1.stays (hb.block _ h1.inside),h2.below hb,h3.below hb⟩,h.my.below hb,h.pge⟩
theorem PlS.new {w0 w w':World} {p g b m:Nat} {s:Sh} {Z:ZZ} {x:PSc} {A:Option Addr} {c dm:Nat} (h:MyS w0 g b m s Z x w) (hp:p=w.heap.size) (hb:Below w.heap.size w w') (h1:BlkT w' p [.pointer (some ⟨g,0,none⟩),.int .i64 Z.1,.int .i64 Z.2.1,.int .i64 Z.2.2,.slice A x.t.length c,.map (some dm)] tPl) (h2:DTree w' (.slice A x.t.length c) x.t) (h3:DMap w' dm (has x.t) x.nd):PlS w0 p g b m s Z.1 Z.2.1 Z.2.2 x w':=
 ⟨⟨A,c,dm,h1,h2,h3⟩,⟨h.at_.part (E':=oneQ p) (fun k hk _=>hb.block k hk) fun k hk=>by
  obtain rfl:k=p:=hk
  exact ⟨h1.inside,.inr (Nat.le_of_eq hp.symm)⟩,h.ft,h.bel.trans (hb.mono h.bel.size)⟩,by rw [hp]; exact h.bel.size⟩
end Go.Proofs.YthpifjcddgmjnaaGreat
namespace Go.Proofs.YthpifjcddgmjnaaGreat
open Go.RowKit pxm imm trm Go.Maps
theorem dmp_eqi (m:Mp) (w:World):(Op.equalIn 10000 50 (.agg m.cs.toArray) (.agg m.cs.toArray)).run Tryz.prog w=.ok true w:=by
 obtain ⟨a0,a1,a2,a3,a4,a5⟩:=m
 unfold Mp.cs
 obtain ⟨i,hi⟩:=Option.isSome_iff_exists.1 (show (Tryz.prog.info? 2).isSome=true by kernel_rfl)
 have hc:Tryz.prog.cellsOf 2=1:=by kernel_rfl
 have h:=run_equalIn_array (P:=Tryz.prog) w 9999 #[.int .i64 a0,.int .i64 a1,.int .i64 a2,.int .i64 a3,.int .i64 a4,.int .i64 a5] #[.int .i64 a0,.int .i64 a1,.int .i64 a2,.int .i64 a3,.int .i64 a4,.int .i64 a5] Tryz.underlying50 hi
 rw [hc] at h
 rw [h]
 simp [Op.eqItems,List.range,List.range.loop,part,go_sem]
theorem d4_eqi (r:Bx) (w:World):(Op.equalIn 10000 51 (.agg r.cs4.toArray) (.agg r.cs4.toArray)).run Tryz.prog w=.ok true w:=by
 obtain ⟨a0,a1,a2,a3⟩:=r
 unfold Bx.cs4
 obtain ⟨i,hi⟩:=Option.isSome_iff_exists.1 (show (Tryz.prog.info? 3).isSome=true by kernel_rfl)
 have hc:Tryz.prog.cellsOf 3=1:=by kernel_rfl
 have h:=run_equalIn_array (P:=Tryz.prog) w 9999 #[.int .i64 a0,.int .i64 a1,.int .i64 a2,.int .i64 a3] #[.int .i64 a0,.int .i64 a1,.int .i64 a2,.int .i64 a3] Tryz.underlying51 hi
 rw [hc] at h
 rw [h]
 simp [Op.eqItems,List.range,List.range.loop,part,go_sem]
theorem alike_yes (n:Nd) (A1 A2:Option Addr) (c1 c2:Nat) (w:World) (h1:Row eW w A1 n.lk.l) (h2:Row eW w A2 n.lk.l) (hn:n.lk.l.length≤1000000) :
  Calls Tryz.prog 24 #[.agg (n.cs A1 c1).toArray,.agg (n.cs A2 c2).toArray] w fun e w'=>e=.returned (.bool true)∧Below w.heap.size w w':=by
 have HRa:=Hd h1
 have HRb:=Hd h2
 have HN:=Hd hn
 clear h1 h2 hn
 have HB0:Hid (Below w.heap.size w ((w.alloc (.cells (n.cs A1 c1).toArray 57)).alloc (.cells (n.cs A2 c2).toArray 57))):=((Below.refl _ _).alloc (Nat.le_refl _) _).alloc (by simp) _
 have HK1:Hid (Blk ((w.alloc (.cells (n.cs A1 c1).toArray 57)).alloc (.cells (n.cs A2 c2).toArray 57)) w.heap.size (n.cs A1 c1)):=(blk_new w (n.cs A1 c1) _).alloc _
 have HK2:Hid (Blk ((w.alloc (.cells (n.cs A1 c1).toArray 57)).alloc (.cells (n.cs A2 c2).toArray 57)) (w.heap.size + 1) (n.cs A2 c2)):=blk_at (w.alloc _) _ (by simp) (n.cs A2 c2) _
 go_enter Tryz.func24,Tryz.ntmps24
 go_upto_region 1 with (fail)
 generalize ((w.alloc (.cells (n.cs A1 c1).toArray 57)).alloc (.cells (n.cs A2 c2).toArray 57))=w0 at *
 have F1:Hid (∀ W,regs.bl w0 W→Blk W w.heap.size (n.cs A1 c1)):=fun W hb=>HK1.out.below' hb
 have F2:Hid (∀ W,regs.bl w0 W→Blk W (w.heap.size + 1) (n.cs A2 c2)):=fun W hb=>HK2.out.below' hb
 refine regs.wp_region_put (regs.bl) (regs.noJ) [8,9,10,11,12,13,5,6] (by kernel_rfl) (by kernel_rfl) (fun _=>regs.bl_refl _) (regs.bl_trans) (fun i=>(match i with
  | 0=>regs.Say.val _ (.pointer (some ⟨w.heap.size,17,none⟩))
  | 1=>regs.Say.val _ (.pointer (some ⟨w.heap.size,19,none⟩))
  | 2=>regs.Say.val _ (.slice A1 n.lk.l.length c1)
  | 3=>regs.Say.val _ (.pointer (some ⟨(w.heap.size + 1),17,none⟩))
  | 4=>regs.Say.val _ (.pointer (some ⟨(w.heap.size + 1),19,none⟩))
  | 5=>regs.Say.val _ (.slice A2 n.lk.l.length c2)
  | 6=>regs.Say.val _ (.slice A1 n.lk.l.length c1)
  | 7=>regs.Say.val _ (.slice A2 n.lk.l.length c2)
  | _=>regs.Say.any _:regs.Say (regs.bl)).p) (fun _=>regs.Say.mono _) (by kernel_rfl) ((Below.refl _ _).drew) (regs.noJ_ok _ _) ⟨?_,?_,?_,?_,?_,?_,?_,?_,trivial⟩ ?_
 ·refine regs.StepOK.plain rfl fun L a w1 hh=>?_
  have h2:a.tmps[2]?.getD undef=.pointer (some ⟨w.heap.size,0,none⟩):=rq (hh.old 2 rfl)
  have i0:=(F1.out _ hh.rel).inside
  have hJ:=Hd hh.st; clear hh; go_simp; exact ⟨_,rfl,regs.bl_refl _,rfl,hJ.out⟩
 ·refine regs.StepOK.plain rfl fun L a w1 hh=>?_
  have h8:=rq (hh.dep 0 8 (by kernel_rfl) (by kernel_rfl))
  have i0:=(F1.out _ hh.rel).inside
  have hJ:=Hd hh.st; clear hh; go_simp; exact ⟨_,rfl,regs.bl_refl _,rfl,hJ.out⟩
 ·refine regs.StepOK.plain rfl fun L a w1 hh=>?_
  have h9:=rq (hh.dep 1 9 (by kernel_rfl) (by kernel_rfl))
  have hB:=Hd (F1.out _ hh.rel)
  have c0:w1.cell? ⟨w.heap.size,19,none⟩=some (.slice A1 n.lk.l.length c1):=hB.out.cell 19
  have i0:=hB.out.inside
  have hJ:=Hd hh.st; clear hh; go_simp; exact ⟨_,rfl,regs.bl_refl _,rfl,hJ.out⟩
 ·refine regs.StepOK.plain rfl fun L a w1 hh=>?_
  have h3:a.tmps[3]?.getD undef=.pointer (some ⟨(w.heap.size + 1),0,none⟩):=rq (hh.old 3 rfl)
  have i0:=(F2.out _ hh.rel).inside
  have hJ:=Hd hh.st; clear hh; go_simp; exact ⟨_,rfl,regs.bl_refl _,rfl,hJ.out⟩
 ·refine regs.StepOK.plain rfl fun L a w1 hh=>?_
  have h11:=rq (hh.dep 3 11 (by kernel_rfl) (by kernel_rfl))
  have i0:=(F2.out _ hh.rel).inside
  have hJ:=Hd hh.st; clear hh; go_simp; exact ⟨_,rfl,regs.bl_refl _,rfl,hJ.out⟩
 ·refine regs.StepOK.plain rfl fun L a w1 hh=>?_
  have h12:=rq (hh.dep 4 12 (by kernel_rfl) (by kernel_rfl))
  have hB:=Hd (F2.out _ hh.rel)
  have c0:w1.cell? ⟨(w.heap.size + 1),19,none⟩=some (.slice A2 n.lk.l.length c2):=hB.out.cell 19
  have i0:=hB.out.inside
  have hJ:=Hd hh.st; clear hh; go_simp; exact ⟨_,rfl,regs.bl_refl _,rfl,hJ.out⟩
 ·refine regs.StepOK.plain rfl fun L a w1 hh=>?_
  have h10:=rq (hh.dep 2 10 (by kernel_rfl) (by kernel_rfl))
  have hJ:=Hd hh.st; clear hh; go_simp; exact ⟨_,rfl,regs.bl_refl _,rfl,hJ.out⟩
 ·refine regs.StepOK.plain rfl fun L a w1 hh=>?_
  have h13:=rq (hh.dep 5 13 (by kernel_rfl) (by kernel_rfl))
  have hJ:=Hd hh.st; clear hh; go_simp; exact ⟨_,rfl,regs.bl_refl _,rfl,hJ.out⟩
 intro L w2 val hL hJ hR hv
 have h5:val 5=.slice A1 n.lk.l.length c1:=hv 6 5 (by kernel_rfl)
 have h6:val 6=.slice A2 n.lk.l.length c2:=hv 7 6 (by kernel_rfl)
 have HR2:=Hd hR
 clear hv hL hJ hR
 simp only [regs.putAll,List.map_cons,List.map_nil,h5,h6]
 simp only [Act.put,List.setIfInBounds_toArray,List.set_cons_zero,List.set_cons_succ]
 clear h5 h6
 generalize val 8=v8,val 9=v9,val 10=v10,val 11=v11,val 12=v12,val 13=v13 at *
 have hnb:(n.lk.l.length:Int)≤1000000:=by have:=HN.out; omega
 have HB2:Hid (Below w.heap.size w w2):=HB0.out.trans (HR2.out.mono HB0.out.size)
 have t0:(n.lk.l.length == n.lk.l.length)=true:=by simp
 clear F1 F2
 go_upto_region 5 with (fail)
 go_loopw [21] (fun x21 wr=>∃ k:Nat,k≤n.lk.l.length∧x21=.int .i64 k∧Hid (Below w2.heap.size w2 wr)) (fun x21 _=>n.lk.l.length - (intOf x21).toNat)
 case atStart=>exact ⟨0,Nat.zero_le _,rfl,Below.refl _ _⟩
 case round=>
  obtain ⟨k,hk,rfl,HBW⟩:=hrel
  generalize wr=wA at *
  by_cases hlt:k < n.lk.l.length
  ·have t1:decide (k < n.lk.l.length)=true:=decide_eq_true hlt
   have HLT:=Hd hlt
   have HBB:=Hd (HB2.out.trans (HBW.out.mono HB2.out.size))
   obtain ⟨b1,o1,e1,k1⟩:=Row.at_ (Row.below HRa.out HBB.out) hlt
   obtain ⟨b2,o2,e2,k2⟩:=Row.at_ (Row.below HRb.out HBB.out) hlt
   subst e1
   subst e2
   obtain ⟨z,hz⟩:∃ z,z=n.lk.l[k]'hlt:=⟨_,rfl⟩
   unfold eW at k1 k2
   rw [← hz] at k1 k2
   have hkb:(k:Int)≤1000000:=by have:=HN.out; omega
   have FP:Hid (∀ W,regs.bl wA W→(W.cell? ⟨b1,o1 + k,none⟩=some (.int .u32 (z:Nat))∧b1 < W.heap.size)∧(W.cell? ⟨b2,o2 + k,none⟩=some (.int .u32 (z:Nat))∧b2 < W.heap.size)):=fun W hb=>by
    have l1:=World.block_lt_of_cell? wA _ k1
    have l2:=World.block_lt_of_cell? wA _ k2
    exact ⟨⟨(Below.cell hb (p:=⟨b1,_,none⟩) l1).trans k1,Nat.lt_of_lt_of_le l1 hb.size⟩,⟨(Below.cell hb (p:=⟨b2,_,none⟩) l2).trans k2,Nat.lt_of_lt_of_le l2 hb.size⟩⟩
   clear k1 k2 hz hlt hk
   go_upto_region 7 with (fail)
   refine regs.wp_region_put (regs.bl) (regs.noJ) [24,25,26,27,28,29,30,31,32] (by kernel_rfl) (by kernel_rfl) (fun _=>regs.bl_refl _) (regs.bl_trans) (fun i=>(match i with
    | 0=>regs.Say.val _ (.slice (some ⟨b1,o1,none⟩) n.lk.l.length c1)
    | 1=>regs.Say.val _ (.int .i64 (k:Nat))
    | 2=>regs.Say.val _ (.pointer (some ⟨b1,(o1 + k),none⟩))
    | 3=>regs.Say.val _ (.int .u32 (z:Nat))
    | 4=>regs.Say.val _ (.slice (some ⟨b2,o2,none⟩) n.lk.l.length c2)
    | 5=>regs.Say.val _ (.int .i64 (k:Nat))
    | 6=>regs.Say.val _ (.pointer (some ⟨b2,(o2 + k),none⟩))
    | 7=>regs.Say.val _ (.int .u32 (z:Nat))
    | 8=>regs.Say.val _ (.bool false)
    | _=>regs.Say.any _:regs.Say (regs.bl)).p) (fun _=>regs.Say.mono _) (by kernel_rfl) ((Below.refl _ _).drew) (regs.noJ_ok _ _) ⟨?_,?_,?_,?_,?_,?_,?_,?_,?_,trivial⟩ ?_
   ·refine regs.StepOK.plain rfl fun L a w1 hh=>?_
    have h5:a.tmps[5]?.getD undef=.slice (some ⟨b1,o1,none⟩) n.lk.l.length c1:=rq (hh.old 5 rfl)
    have hJ:=Hd hh.st; clear hh; go_simp; exact ⟨_,rfl,regs.bl_refl _,rfl,hJ.out⟩
   ·refine regs.StepOK.plain rfl fun L a w1 hh=>?_
    have h7:a.tmps[7]?.getD undef=.int .i64 (k:Nat):=rq (hh.old 7 rfl)
    have hJ:=Hd hh.st; clear hh; go_simp; exact ⟨_,rfl,regs.bl_refl _,rfl,hJ.out⟩
   ·refine regs.StepOK.plain rfl fun L a w1 hh=>?_
    have h24:=rq (hh.dep 0 24 (by kernel_rfl) (by kernel_rfl))
    have h25:=rq (hh.dep 1 25 (by kernel_rfl) (by kernel_rfl))
    obtain ⟨-,li⟩:=(FP.out _ hh.rel).1
    have hlt:=HLT.out
    have hJ:=Hd hh.st; clear hh; go_simp; exact ⟨_,rfl,regs.bl_refl _,rfl,hJ.out⟩
   ·refine regs.StepOK.plain rfl fun L a w1 hh=>?_
    have h26:=rq (hh.dep 2 26 (by kernel_rfl) (by kernel_rfl))
    obtain ⟨c0,li⟩:=(FP.out _ hh.rel).1
    have hJ:=Hd hh.st; clear hh; go_simp; exact ⟨_,rfl,regs.bl_refl _,rfl,hJ.out⟩
   ·refine regs.StepOK.plain rfl fun L a w1 hh=>?_
    have h6:a.tmps[6]?.getD undef=.slice (some ⟨b2,o2,none⟩) n.lk.l.length c2:=rq (hh.old 6 rfl)
    have hJ:=Hd hh.st; clear hh; go_simp; exact ⟨_,rfl,regs.bl_refl _,rfl,hJ.out⟩
   ·refine regs.StepOK.plain rfl fun L a w1 hh=>?_
    have h7:a.tmps[7]?.getD undef=.int .i64 (k:Nat):=rq (hh.old 7 rfl)
    have hJ:=Hd hh.st; clear hh; go_simp; exact ⟨_,rfl,regs.bl_refl _,rfl,hJ.out⟩
   ·refine regs.StepOK.plain rfl fun L a w1 hh=>?_
    have h28:=rq (hh.dep 4 28 (by kernel_rfl) (by kernel_rfl))
    have h29:=rq (hh.dep 5 29 (by kernel_rfl) (by kernel_rfl))
    obtain ⟨-,li⟩:=(FP.out _ hh.rel).2
    have hlt:=HLT.out
    have hJ:=Hd hh.st; clear hh; go_simp; exact ⟨_,rfl,regs.bl_refl _,rfl,hJ.out⟩
   ·refine regs.StepOK.plain rfl fun L a w1 hh=>?_
    have h30:=rq (hh.dep 6 30 (by kernel_rfl) (by kernel_rfl))
    obtain ⟨c0,li⟩:=(FP.out _ hh.rel).2
    have hJ:=Hd hh.st; clear hh; go_simp; exact ⟨_,rfl,regs.bl_refl _,rfl,hJ.out⟩
   ·refine regs.StepOK.plain rfl fun L a w1 hh=>?_
    have h27:=rq (hh.dep 3 27 (by kernel_rfl) (by kernel_rfl))
    have h31:=rq (hh.dep 7 31 (by kernel_rfl) (by kernel_rfl))
    have hJ:=Hd hh.st; clear hh; go_simp; exact ⟨_,rfl,regs.bl_refl _,rfl,hJ.out⟩
   intro L w4 val hL hJ hR hv
   have h32:val 32=.bool false:=hv 8 32 (by kernel_rfl)
   have HR4:=Hd hR
   clear hv hL hJ hR
   simp only [regs.putAll,List.map_cons,List.map_nil,h32]
   simp only [Act.put,List.setIfInBounds_toArray,List.set_cons_zero,List.set_cons_succ]
   clear h32
   generalize val 24=v24,val 25=v25,val 26=v26,val 27=v27,val 28=v28,val 29=v29,val 30=v30,val 31=v31 at *
   have HB4:Hid (Below w2.heap.size w2 w4):=HBW.out.trans (Below.mono HR4.out HBW.out.size)
   clear FP HR4 HBB
   go_wp2_with (fail)
   go_roundw
   case rel=>exact ⟨k + 1,HLT.out,by go_num,HB4⟩
   case measure=>have:=HLT.out; simp [intOf]; omega
  ·obtain rfl:k=n.lk.l.length:=by omega
   have t1:decide (n.lk.l.length < n.lk.l.length)=false:=by simp
   have HBB:Hid (Below w0.heap.size w0 wA):=HR2.out.trans (HBW.out.mono HR2.out.size)
   have HG1:Hid (Blk wA w.heap.size (n.cs A1 c1)):=HK1.out.below' HBB.out
   have HG2:Hid (Blk wA (w.heap.size + 1) (n.cs A2 c2)):=HK2.out.below' HBB.out
   have c0:wA.cell? ⟨w.heap.size,0,none⟩=some (.int .i64 n.m.a):=HG1.out.cell 0
   have c1:wA.cell? ⟨w.heap.size,1,none⟩=some (.int .i64 n.m.b):=HG1.out.cell 1
   have c2:wA.cell? ⟨w.heap.size,2,none⟩=some (.int .i64 n.m.c):=HG1.out.cell 2
   have c3:wA.cell? ⟨w.heap.size,3,none⟩=some (.int .i64 n.m.d):=HG1.out.cell 3
   have c4:wA.cell? ⟨w.heap.size,4,none⟩=some (.int .i64 n.m.e):=HG1.out.cell 4
   have c5:wA.cell? ⟨w.heap.size,5,none⟩=some (.int .i64 n.m.f):=HG1.out.cell 5
   have c6:wA.cell? ⟨w.heap.size,6,none⟩=some (.int .i64 n.op):=HG1.out.cell 6
   have c7:wA.cell? ⟨w.heap.size,7,none⟩=some (.bool n.hi):=HG1.out.cell 7
   have c8:wA.cell? ⟨w.heap.size,8,none⟩=some (.bool n.cl):=HG1.out.cell 8
   have c9:wA.cell? ⟨w.heap.size,9,none⟩=some (.int .i64 n.r.a):=HG1.out.cell 9
   have c10:wA.cell? ⟨w.heap.size,10,none⟩=some (.int .i64 n.r.b):=HG1.out.cell 10
   have c11:wA.cell? ⟨w.heap.size,11,none⟩=some (.int .i64 n.r.c):=HG1.out.cell 11
   have c12:wA.cell? ⟨w.heap.size,12,none⟩=some (.int .i64 n.r.d):=HG1.out.cell 12
   have c13:wA.cell? ⟨w.heap.size,13,none⟩=some (.int .i64 n.lk.k):=HG1.out.cell 13
   have c14:wA.cell? ⟨w.heap.size,14,none⟩=some (.int .i64 n.lk.W):=HG1.out.cell 14
   have c15:wA.cell? ⟨w.heap.size,15,none⟩=some (.int .i64 n.lk.H):=HG1.out.cell 15
   have c16:wA.cell? ⟨w.heap.size,16,none⟩=some (.int .u32 (n.lk.p:Nat)):=HG1.out.cell 16
   have c17:wA.cell? ⟨w.heap.size,17,none⟩=some (.int .i64 n.lk.iw):=HG1.out.cell 17
   have c18:wA.cell? ⟨w.heap.size,18,none⟩=some (.int .i64 n.lk.ih):=HG1.out.cell 18
   have d0:wA.cell? ⟨w.heap.size + 1,0,none⟩=some (.int .i64 n.m.a):=HG2.out.cell 0
   have d1:wA.cell? ⟨w.heap.size + 1,1,none⟩=some (.int .i64 n.m.b):=HG2.out.cell 1
   have d2:wA.cell? ⟨w.heap.size + 1,2,none⟩=some (.int .i64 n.m.c):=HG2.out.cell 2
   have d3:wA.cell? ⟨w.heap.size + 1,3,none⟩=some (.int .i64 n.m.d):=HG2.out.cell 3
   have d4:wA.cell? ⟨w.heap.size + 1,4,none⟩=some (.int .i64 n.m.e):=HG2.out.cell 4
   have d5:wA.cell? ⟨w.heap.size + 1,5,none⟩=some (.int .i64 n.m.f):=HG2.out.cell 5
   have d6:wA.cell? ⟨w.heap.size + 1,6,none⟩=some (.int .i64 n.op):=HG2.out.cell 6
   have d7:wA.cell? ⟨w.heap.size + 1,7,none⟩=some (.bool n.hi):=HG2.out.cell 7
   have d8:wA.cell? ⟨w.heap.size + 1,8,none⟩=some (.bool n.cl):=HG2.out.cell 8
   have d9:wA.cell? ⟨w.heap.size + 1,9,none⟩=some (.int .i64 n.r.a):=HG2.out.cell 9
   have d10:wA.cell? ⟨w.heap.size + 1,10,none⟩=some (.int .i64 n.r.b):=HG2.out.cell 10
   have d11:wA.cell? ⟨w.heap.size + 1,11,none⟩=some (.int .i64 n.r.c):=HG2.out.cell 11
   have d12:wA.cell? ⟨w.heap.size + 1,12,none⟩=some (.int .i64 n.r.d):=HG2.out.cell 12
   have d13:wA.cell? ⟨w.heap.size + 1,13,none⟩=some (.int .i64 n.lk.k):=HG2.out.cell 13
   have d14:wA.cell? ⟨w.heap.size + 1,14,none⟩=some (.int .i64 n.lk.W):=HG2.out.cell 14
   have d15:wA.cell? ⟨w.heap.size + 1,15,none⟩=some (.int .i64 n.lk.H):=HG2.out.cell 15
   have d16:wA.cell? ⟨w.heap.size + 1,16,none⟩=some (.int .u32 (n.lk.p:Nat)):=HG2.out.cell 16
   have d17:wA.cell? ⟨w.heap.size + 1,17,none⟩=some (.int .i64 n.lk.iw):=HG2.out.cell 17
   have d18:wA.cell? ⟨w.heap.size + 1,18,none⟩=some (.int .i64 n.lk.ih):=HG2.out.cell 18
   have i1:=HG1.out.inside
   have i2:=HG2.out.inside
   have q1:(Op.equalIn 10000 50 (.agg #[.int .i64 n.m.a,.int .i64 n.m.b,.int .i64 n.m.c,.int .i64 n.m.d,.int .i64 n.m.e,.int .i64 n.m.f]) (.agg #[.int .i64 n.m.a,.int .i64 n.m.b,.int .i64 n.m.c,.int .i64 n.m.d,.int .i64 n.m.e,.int .i64 n.m.f])).run Tryz.prog wA=.ok true wA:=dmp_eqi n.m wA
   have q2:(Op.equalIn 10000 51 (.agg #[.int .i64 n.r.a,.int .i64 n.r.b,.int .i64 n.r.c,.int .i64 n.r.d]) (.agg #[.int .i64 n.r.a,.int .i64 n.r.b,.int .i64 n.r.c,.int .i64 n.r.d])).run Tryz.prog wA=.ok true wA:=d4_eqi n.r wA
   clear hlt hk
   go_wp2_with (fail)
   go_ret
   exact ⟨rfl,HB0.out.trans (HBB.out.mono HB0.out.size)⟩
end Go.Proofs.YthpifjcddgmjnaaGreat
