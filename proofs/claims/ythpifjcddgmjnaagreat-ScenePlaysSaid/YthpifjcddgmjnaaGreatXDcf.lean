import Derived.Test.YthpifjcddgmjnaaGreatXDcd
set_option maxHeartbeats 16000000
set_option maxRecDepth 100000
namespace Go.Proofs.YthpifjcddgmjnaaGreat
section
open Go.RowKit pxm imm trm Go.Maps
theorem VM.not_b {w:World} {m g:Nat} {es:LV} {cs:List Value} (h:VM w m es) (hb:Blk w g cs):g≠m:=fun e=>by
 obtain ⟨es',clock,h1,_⟩:=h.own;obtain ⟨T,hT⟩:=hb;rw [e] at hT;have:=hT.symm.trans h1;cases this
theorem DMap.not_b {w:World} {m g:Nat} {H:Int->Bool} {nd:Int->Nd} {cs:List Value} (h:DMap w m H nd) (hb:Blk w g cs):g≠m:=by
 obtain ⟨es,h1,-⟩:=h.ex;exact h1.not_b hb
theorem pick_px {w:World} {o:Op9} {Ao An:Option Addr} {n:Nd} (h1:PxR w Ao o.lk.l) (h2:PxR w An n.lk.l):PxR w (pick7 o Ao An) (setN n o).lk.l:=by
 by_cases h7:o.k=7
 ·have e:(setN n o).lk=o.lk:=by unfold setN;rw [if_neg (by omega),if_neg (by omega),if_neg (by omega),if_pos h7]
  rw [e,show pick7 o Ao An=Ao from if_pos h7];exact h1
 ·rw [setN_lk h7,show pick7 o Ao An=An from if_neg h7];exact h2
def noPx (cs:List Value):Prop:=∀ c∈cs,∀ z,c≠.int .u32 z
theorem DPl.wrote {w w':World} {g:Nat} {cs:List Value} {v:Value} {n:Nd} (h:DPl w v n) (hb:Blk w g cs) (hc:noPx cs) (hW:Wrote g w w'):DPl w' v n:=by
 obtain ⟨A,c,e,hr⟩:=h;refine ⟨A,c,e,hr.stays fun a ea hne=>hW.far fun e2=>?_⟩;obtain ⟨b,off,e3,hcl⟩:=hr.row (List.length_pos_iff.2 hne);rw [ea] at e3;obtain rfl:=Option.some.inj e3;have h1:=hcl 0 (List.length_pos_iff.2 hne);obtain rfl:b=g:=e2;have h2:=hb.cell (off+0);rw [h1] at h2;exact hc _ (List.mem_of_getElem? h2.symm) _ rfl
theorem DMap.wrote {w w':World} {m g:Nat} {H:Int->Bool} {nd:Int->Nd} {cs:List Value} (h:DMap w m H nd) (hb:Blk w g cs) (hc:noPx cs) (hW:Wrote g w w'):DMap w' m H nd:=by
 have hne:=h.not_b hb;obtain ⟨es,h1,h2,h3⟩:=h.ex;refine ⟨es,h1.stays (hW.far (Ne.symm hne)),h2,fun i hi=>?_⟩;obtain ⟨v,e,hv⟩:=h3 i hi;exact ⟨v,e,hv.wrote hb hc hW⟩
theorem DTree.wrote {w w':World} {g:Nat} {v:Value} {t:T} {cs:List Value} {T:TypeId} (h:DTree w v t) (hb:BlkT w g cs T) (hT:T≠161) (hW:Wrote g w w'):DTree w' v t:=
 h.stays fun _ _ _ _ hy ea=>hW.far (hy.not_blk ea hb hT)
theorem DTree.grown {w w':World} {m:Nat} {v:Value} {t:T} {H:Int->Bool} {nd:Int->Nd} (h:DTree w v t) (hm:DMap w m H nd) (hg:w.grownBy w' (some m)):DTree w' v t:=
 h.stays fun _ _ a _ hy ea=>hg.block _ (by obtain ⟨cs,fz,h1⟩:=hy a ea;exact lt_of_block h1) fun e=>by
  obtain ⟨cs,fz,h1⟩:=hy a ea;obtain ⟨es,⟨_,⟨es',clock,h2,_⟩,_⟩,_⟩:=hm.ex;have e3:a.block=m:=by simpa using e
  rw [e3] at h1;have:=h1.symm.trans h2;cases this
theorem DocAt.wrote {w w':World} {v:Value} {wi hei M:Int} {x:PSc} {g:Nat} {cs:List Value} {T:TypeId} (h:DocAt w v wi hei M x) (hb:BlkT w g cs T) (hT:T≠161) (hc:noPx cs) (hW:Wrote g w w'):DocAt w' v wi hei M x:=by
 obtain ⟨tv,m,e,h1,h2⟩:=h;exact ⟨tv,m,e,h1.wrote hb hT hW,h2.wrote hb.blk hc hW⟩
theorem blkT_at (w:World) (g:Nat) (hg:g=w.heap.size) (cs:List Value) (T:TypeId):BlkT (w.alloc (.cells cs.toArray T)) g cs T:=hg ▸ BlkT.new w cs T
theorem DTree.srow {w:World} {A:Option Addr} {c:Nat} {t:T} (h:DTree w (.slice A t.length c) t):RRow w A t:=by
 obtain ⟨A',c',e,hr,_⟩:=h
 injection e with e _ _
 rw [e];exact hr
def DSh (v:Value):Prop:=∃ cs:List Value,v=.agg cs.toArray∧cs.length=5∧noPx cs∧cs.all (·.oneCell')=true
theorem dsh (wi hei M:Int) (A:Option Addr) (n c:Nat) (m:Option Nat):DSh (.agg #[.int .i64 wi,.int .i64 hei,.int .i64 M,.slice A n c,.map m]):=⟨[.int .i64 wi,.int .i64 hei,.int .i64 M,.slice A n c,.map m],rfl,rfl,by unfold noPx;simp,rfl⟩
structure MJ (B:Nat) (old:List (Nat×List Value)) (m:Nat) (H:Int->Bool) (nd nd':Int->Nd) (tv:Value) (t:T) (gr:Nat) (d:Bool) (w:World):Prop where
 old:JBs old w
 bsz:B<=w.heap.size
 no:d=false->DMap w m H nd
 yes:d=true->DMap w m H nd'
 tr:DTree w tv t
 rt:BlkT w gr Vh tDoc
theorem MJ.below {B:Nat} {old:List (Nat×List Value)} {m:Nat} {H:Int->Bool} {nd nd':Int->Nd} {tv:Value} {t:T} {gr:Nat} {d:Bool} {w w':World} (h:MJ B old m H nd nd' tv t gr d w) (hb:Below w.heap.size w w'):MJ B old m H nd nd' tv t gr d w':=
 ⟨h.old.below hb,Nat.le_trans h.bsz hb.size,fun e=>(h.no e).below hb,fun e=>(h.yes e).below hb,h.tr.below hb,h.rt.stays (hb.block _ h.rt.inside)⟩
theorem JBs.grown {w w':World} {m:Nat} {H:Int->Bool} {nd:Int->Nd} (hm:DMap w m H nd) (hg:w.grownBy w' (some m)):∀ {old:List (Nat×List Value)},JBs old w->JBs old w'
 | [],_=>trivial
 | _::_,h=>⟨h.1.stays (hg.block _ h.1.inside fun e=>hm.not_b h.1 (Option.some.inj e)),JBs.grown hm hg h.2⟩
theorem MJ.store {B:Nat} {old:List (Nat×List Value)} {m:Nat} {H:Int->Bool} {nd:Int->Nd} {tv:Value} {u t:T} {gr:Nat} {w:World} {i:Int} {n:Nd} {v:Value} (h:MJ B old m H nd (upd nd i n) tv u gr false w) (hH:∀ i,H i=has t i) (hn:t.length<=100000) (hi:I64 i) (hh:H i=true) (hv:DPl w v n) (hm:B<=m) :
  ∃ w',(Instr.mapUpdate tDNs (.map (some m)) (.int .i64 i) v).run Tryz.prog w=.ok () w'∧MJ B old m H nd (upd nd i n) tv u gr true w'∧Below B w w':=by
 have h0:=h.no rfl;obtain ⟨w',hrun,hd,hg⟩:=h0.store hH hn hi hh hv;refine ⟨w',hrun,⟨JBs.grown h0 hg h.old,Nat.le_trans h.bsz hg.size,nofun,fun _=>hd,h.tr.grown h0 hg,h.rt.stays (hg.block _ h.rt.inside fun e=>h0.not_b h.rt.blk (Option.some.inj e))⟩,(Below.refl _ _).grown hg h.bsz fun j e=>by cases e;exact hm⟩
def DoDQ (wi hei M:Int) (r:PSc×Int) (w:World) (e:Ending) (w':World):Prop:=∃ v',e=.returned (.tuple #[v',.int .i64 r.2])∧DSh v'∧(r.2=0->DocAt w' v' wi hei M r.1)∧Below w.heap.size w w'
theorem ddo_1 (o:Op9) (Ao:Option Addr) (co:Nat) (wi hei M:Int) (tv:Value) (x:PSc) (m:Nat) (ok:Ok x.t) (hn:x.t.length<=900) (hg:Good x) (hfx:∀ i,Fit (x.nd i)) (ho:OpOk o) (w:World) (hr:PxR w Ao o.lk.l) (ht:DTree w tv x.t) (hm:DMap w m (has x.t) x.nd) (h1:o.k=1):Calls Tryz.prog 114 #[.agg #[.int .i64 wi,.int .i64 hei,.int .i64 M,tv,.map (some m)],.agg (o.dcs Ao co).toArray] w (DoDQ wi hei M (doS M x o) w):=by
 obtain ⟨At,ct,rfl,hrt,hy⟩:=ht
 have HT:Hid (DTree w (.slice At x.t.length ct) x.t):=⟨At,ct,rfl,hrt,hy⟩
 have HM0:=Hd hm;have HR:=Hd hr;have HOK:=Hd ok;have HN:=Hd hn;have HG:=Hd hg;have HFX:=Hd hfx;have HO:=Hd ho;unfold DoDQ
 obtain ⟨R,hR⟩:∃ R,doS M x o=R:=⟨_,rfl⟩
 have HE:=Hd hR;rw [hR];clear hR hm hr hrt hy ok hn hg hfx ho;have HB0:Hid (Below w.heap.size w (((w.alloc (.cells (Vc wi hei M At x.t.length ct m).toArray 34)).alloc (.cells (o.dcs Ao co).toArray 227)).alloc (.cells Vh.toArray 34))):=(((Below.refl _ _).alloc (Nat.le_refl _) _).alloc (by simp) _).alloc (by simp;omega) _;have HKs:Hid (BlkT (((w.alloc (.cells (Vc wi hei M At x.t.length ct m).toArray 34)).alloc (.cells (o.dcs Ao co).toArray 227)).alloc (.cells Vh.toArray 34)) w.heap.size (Vc wi hei M At x.t.length ct m) 34):=((BlkT.new w (Vc wi hei M At x.t.length ct m) 34).al _).al _
 have HKo:Hid (Blk (((w.alloc (.cells (Vc wi hei M At x.t.length ct m).toArray 34)).alloc (.cells (o.dcs Ao co).toArray 227)).alloc (.cells Vh.toArray 34)) (w.heap.size+1) (o.dcs Ao co)):=(blk_at (w.alloc _) _ (by simp) (o.dcs Ao co) _).alloc _;have HKr:Hid (BlkT (((w.alloc (.cells (Vc wi hei M At x.t.length ct m).toArray 34)).alloc (.cells (o.dcs Ao co).toArray 227)).alloc (.cells Vh.toArray 34)) (w.heap.size+2) Vh 34):=blkT_at ((w.alloc _).alloc _) _ (by simp) Vh 34;go_enter Tryz.func114,Tryz.ntmps114
 go_upto_region 1 with (fail)
 generalize (((w.alloc (.cells (Vc wi hei M At x.t.length ct m).toArray 34)).alloc (.cells (o.dcs Ao co).toArray 227)).alloc (.cells Vh.toArray 34))=w0 at *;have c0:=HKo.out.c 0 rfl;have c1:=HKo.out.c 1 rfl;have c2:=HKo.out.c 2 rfl;have c3:=HKo.out.c 3 rfl;have ci:w.heap.size+1<w0.heap.size:=HKo.out.inside;have s3:w0.cell? ⟨w.heap.size,3,none⟩=some (.slice At x.t.length ct):=HKs.out.blk.cell 3;have si:w.heap.size<w0.heap.size:=HKs.out.inside;have t1:(o.k==1)=true:=by simpa using h1
 have HE1:Hid (R=createS M x o.i o.p o.n):=by show _=_;rw [← HE.out];unfold doS;rw [if_pos h1]
 clear h1 HE;go_wp2_with (fail);refine (dadd _ x.t o.i o.p o.n w0 (HT.out.below HB0.out) (by have:=HN.out;omega)).mono ?_;rintro e w1 ⟨v1,rfl,hd1,hb1⟩;have HB1:=Hd (HB0.out.trans (hb1.mono HB0.out.size));have HKs1:=Hd (BlkT.stays HKs.out ((hb1).block _ HKs.out.inside));have HKr1:=Hd (BlkT.stays HKr.out ((hb1).block _ HKr.out.inside));have HKo1:=Hd (HKo.out.below' hb1);clear hb1 HKs HKo HKr HB0 c0 c1 c2 c3 ci s3 si
 obtain ⟨⟨t1',e1⟩,hq⟩:∃ q,addS x.t o.i o.p o.n=q:=⟨_,rfl⟩
 have HQ:=Hd hq;unfold createS at HE1;rw [hq] at HE1 hd1 ⊢;simp only at HE1 hd1 ⊢;clear hq;obtain ⟨A1,n1,rfl,hr1,hy1⟩:=hd1
 have HD1:Hid (DTree w1 (.slice A1 t1'.length n1) t1'):=⟨A1,n1,rfl,hr1,hy1⟩
 clear hr1 hy1;by_cases he:¬ e1=0
 ·have q:(e1==0)=false:=by simpa using he
  have HE2:Hid (R=(x,e1)):=by show _=_;rw [HE1.out,if_pos he]
  have HNE:=Hd he;clear HE1 he;go_wp2_with (first | (with_reducible refine gL ?_;first | (refine wpl_take 34 _ rfl rfl _ 0 rfl ((Vc wi hei M At x.t.length ct m)) HKs1.out.blk ((Vc wi hei M At x.t.length ct m)) rfl _ Tryz.underlying34 rfl (by kernel_rfl) ?_)) | (with_reducible refine gS ?_;first | (refine wpl_stow 34 _ _ rfl rfl rfl _ 0 rfl ((Vc wi hei M At x.t.length ct m)) rfl (Vh) HKr1.out.blk ((Vc wi hei M At x.t.length ct m)) rfl (Nat.le_of_ble_eq_true rfl) (by kernel_rfl) rfl ?_;intro w2 HW2 HK2)));rw [HE2.out]
  exact blk_ret2 rfl rfl rfl HK2.out Tryz.underlying34 rfl (by kernel_rfl) ⟨_,rfl,dsh _ _ _ _ _ _ _,fun e=>absurd e HNE.out,HW2.out.below HB1.out (by omega)⟩
 ·obtain rfl:e1=0:=Decidable.not_not.1 he;clear he;have q:((0:Int)==0)=true:=by decide
  obtain ⟨bk1,bk2,bk3,bk4,-,-⟩:=addS_back HOK.out HQ.out;have HLN:=Hd (addS_len HOK.out HQ.out);have HHB:Hid (∀ j,has t1' j=true↔j=o.i∨has x.t j=true):=bk4;have HOK1:=Hd bk1;have HTI:Hid (has t1' o.i=true):=has_iff.2 (.inr bk2);clear bk1 bk2 bk3 bk4;rw [if_neg (by decide)] at HE1;have hxn:(x.t.length:Int)<=900:=by have:=HN.out;omega
  have s2:w1.cell? ⟨w.heap.size,2,none⟩=some (.int .i64 M):=HKs1.out.blk.cell 2;have s3:w1.cell? ⟨w.heap.size,3,none⟩=some (.slice At x.t.length ct):=HKs1.out.blk.cell 3;have si:w.heap.size<w1.heap.size:=HKs1.out.inside;by_cases hM:M<((x.t.length+2:Nat):Int)
  ·have q2:decide (M<=(x.t.length:Int)+1)=true:=decide_eq_true (by omega);have HE2:Hid (R=(x,36)):=by show _=_;rw [HE1.out,if_pos hM]
   clear HE1 hM;go_wp2_with (first | (with_reducible refine gL ?_;first | (refine wpl_take 34 _ rfl rfl _ 0 rfl ((Vc wi hei M At x.t.length ct m)) HKs1.out.blk ((Vc wi hei M At x.t.length ct m)) rfl _ Tryz.underlying34 rfl (by kernel_rfl) ?_)) | (with_reducible refine gS ?_;first | (refine wpl_stow 34 _ _ rfl rfl rfl _ 0 rfl ((Vc wi hei M At x.t.length ct m)) rfl (Vh) HKr1.out.blk ((Vc wi hei M At x.t.length ct m)) rfl (Nat.le_of_ble_eq_true rfl) (by kernel_rfl) rfl ?_;intro w2 HW2 HK2)));rw [HE2.out]
   exact blk_ret2 rfl rfl rfl HK2.out Tryz.underlying34 rfl (by kernel_rfl) ⟨_,rfl,dsh _ _ _ _ _ _ _,fun e=>absurd (show (36:Int)=0 from e) (by decide),HW2.out.below HB1.out (by omega)⟩
  ·have q2:decide (M<=(x.t.length:Int)+1)=false:=decide_eq_false (by omega);have HE2:Hid (R=(⟨t1',upd x.nd o.i Nd.plain,upd x.ws o.i Mp.o⟩,0)):=by show _=_;rw [HE1.out,if_neg hM]
   clear HE1 hM;have f3:w1.frozen? ⟨w.heap.size,3,none⟩=false:=HKs1.out.blk.free 3
   go_upto_region 8 with (fail)
   have HS:Hid (Wrote w.heap.size w1 (w1.setCell ⟨w.heap.size,3,none⟩ (.slice A1 t1'.length n1))):=⟨3,[.slice A1 t1'.length n1],rfl⟩
   have HKs2:Hid (BlkT (w1.setCell ⟨w.heap.size,3,none⟩ (.slice A1 t1'.length n1)) w.heap.size (Vc wi hei M A1 t1'.length n1 m) 34):=HKs1.out.set 3 _;generalize hwq:(w1.setCell ⟨w.heap.size,3,none⟩ (.slice A1 t1'.length n1))=w2 at *;clear hwq;have HB2:Hid (Below w.heap.size w w2):=HS.out.below HB1.out (Nat.le_refl _);have HKr2:Hid (BlkT w2 (w.heap.size+2) Vh 34):=HKr1.out.stays (HS.out.far (by omega));have HKo2:=Hd (HS.out.blk (show w.heap.size+1≠w.heap.size by omega) HKo1.out);have HD2:Hid (DTree w2 (.slice A1 t1'.length n1) t1'):=HD1.out.wrote HKs1.out (by decide) HS.out
   go_wp2_with (first | (with_reducible refine gL ?_;first | (refine wpl_take 34 _ rfl rfl _ 0 rfl ((Vc wi hei M A1 t1'.length n1 m)) HKs2.out.blk ((Vc wi hei M A1 t1'.length n1 m)) rfl _ Tryz.underlying34 rfl (by kernel_rfl) ?_)));refine (dcopied_any wi hei M _ t1' m (has x.t) x.nd HOK1.out (by have:=HLN.out;have:=HN.out;omega) w2 HD2.out (HM0.out.below HB2.out)).mono ?_;rintro e w3 ⟨m',rfl,hdm,hbq,hmq⟩;have HDM3:=Hd hdm;have HMG3:Hid (w.heap.size<=m'):=Nat.le_trans HB2.out.size hmq;have HD3:=Hd (HD2.out.below hbq);have HB3:=Hd (HB2.out.trans (hbq.mono HB2.out.size))
   have HKs3:=Hd (BlkT.stays HKs2.out ((hbq).block _ HKs2.out.inside));have HKr3:=Hd (BlkT.stays HKr2.out ((hbq).block _ HKr2.out.inside));have HKo3:=Hd (HKo2.out.below' hbq);clear hdm hbq hmq s2 s3 si f3 HKs2 HKr2 HKo2 HD2 HB2 HS HKs1 HKr1 HKo1 HD1 HB1;have HMM:Hid (w.heap.size+2≠m'):=HDM3.out.not_b HKr3.out.blk
   go_upto_region 9 with (first | (with_reducible refine gS ?_;first | (refine wpl_stow 34 _ _ rfl rfl rfl _ 0 rfl ((Vc wi hei M A1 t1'.length n1 m')) rfl ((Vc wi hei M A1 t1'.length n1 m)) HKs3.out.blk ((Vc wi hei M A1 t1'.length n1 m')) rfl (Nat.le_of_ble_eq_true rfl) (by kernel_rfl) rfl ?_;intro w4 HW4 HK4)))
   have HD4:Hid (DTree w4 (.slice A1 t1'.length n1) t1'):=HD3.out.wrote HKs3.out (by decide) HW4.out;have HDM4:Hid (DMap w4 m' (has t1') (ndH (has x.t) x.nd)):=HDM3.out.wrote HKs3.out.blk (by unfold noPx;simp) HW4.out;have HB4:Hid (Below w.heap.size w w4):=HW4.out.below HB3.out (Nat.le_refl _);have HKr4:Hid (BlkT w4 (w.heap.size+2) Vh 34):=HKr3.out.stays (HW4.out.far (by omega));have HKo4:=Hd (HW4.out.blk (show w.heap.size+1≠w.heap.size by omega) HKo3.out)
   have HJ0:Hid (MJ w.heap.size [(w.heap.size,(Vc wi hei M A1 t1'.length n1 m')),(w.heap.size+1,o.dcs Ao co),(w.heap.size+2,Vh)] m' (has t1') (ndH (has x.t) x.nd) (upd (ndH (has x.t) x.nd) o.i Nd.plain) (.slice A1 t1'.length n1) t1' (w.heap.size+2) false w4):=⟨⟨HK4.out,HKo4.out,HKr4.out.blk,trivial⟩,HB4.out.size,fun _=>HDM4.out,nofun,HD4.out,HKr4.out⟩
   have HMG:Hid (w.heap.size<=m'):=HMG3.out;have HMI:Hid (t1'.length<=100000):=by have:=HLN.out;have:=HN.out;show _<=_;omega
   refine wR (Below w.heap.size) (fun L wx=>MJ w.heap.size [(w.heap.size,(Vc wi hei M A1 t1'.length n1 m')),(w.heap.size+1,o.dcs Ao co),(w.heap.size+2,Vh)] m' (has t1') (ndH (has x.t) x.nd) (upd (ndH (has x.t) x.nd) o.i Nd.plain) (.slice A1 t1'.length n1) t1' (w.heap.size+2) (L 5) wx) [46,47,48,49,50] (fun _=>Below.refl _ _) (fun _ _ _ h k=>h.trans k) (fun i=>match i with
    |0=>rp w.heap.size 4
    |1=>rV (.map (some m'))
    |2=>rp (w.heap.size+1) 1
    |3=>rV (.int .i64 o.i)
    |4=>rV (.agg (Nd.plain.cs none 0).toArray)
    | _=>ra) ((Below.refl _ _).drew) (HJ0.out.below (Below.refl _ _).drew) ⟨?_,?_,?_,?_,?_,?_,trivial⟩ ?_
   ·refine zp fun L a w1 hh=>?_;have h2:=hh.p 2 w.heap.size 0;have i0:=(hh.st.old.1).inside;have hJ:=hh.j;clear hh;go_simp;exact ⟨_,rfl,Below.refl _ _,rfl,hJ.out⟩
   ·refine zp fun L a w1 hh=>?_;have h46:=rq (hh.d 0 46);have hB:=Hd (hh.st.old.1);have c0:=hB.out.c 4 rfl;have i0:=hB.out.inside;have hJ:=hh.j;clear hh;go_simp;exact ⟨_,rfl,Below.refl _ _,rfl,hJ.out⟩
   ·refine zp fun L a w1 hh=>?_;have h3:=hh.p 3 ((w.heap.size+1)) 0;have i0:=(hh.st.old.2.1).inside;have hJ:=hh.j;clear hh;go_simp;exact ⟨_,rfl,Below.refl _ _,rfl,hJ.out⟩
   ·refine zp fun L a w1 hh=>?_;have h48:=rq (hh.d 2 48);have hB:=Hd (hh.st.old.2.1);have c0:=hB.out.c 1 rfl;have i0:=hB.out.inside;have hJ:=hh.j;clear hh;go_simp;exact ⟨_,rfl,Below.refl _ _,rfl,hJ.out⟩
   ·refine zp fun L a w1 hh=>?_;have hC:=Hd (dplain_any w1);have hJ:=hh.j;clear hh;go_simp;refine hC.out.mono ?_;rintro e w9 ⟨rfl,hb9⟩;exact ⟨_,rfl,hb9.mono hJ.out.bsz,rfl,hJ.out.below hb9⟩
   ·refine zp fun L a w1 hh=>?_;have h47:=rq (hh.d 1 47);have h49:=rq (hh.d 3 49);have h50:=rq (hh.d 4 50);have hj:=hh.st;rw [hh.un] at hj;obtain ⟨w9,hrun,hj9,hb9⟩:=hj.store (n:=Nd.plain) (fun _=>rfl) HMI.out HO.out.i HTI.out ⟨none,0,rfl,PxR.none_ rfl⟩ HMG.out;unfold Nd.v at hrun;have hJ9:=Hd hj9;have hB9:=Hd hb9;clear hh hj hj9 hb9;go_simp;exact ⟨hB9.out,⟨undef,trivial⟩,hJ9.out⟩
   intro L w5 val hL hJ hR hv;have HR5:=Hd hR;have hj5:=hJ;rw [hL 5 (by decide)] at hj5;have HJ5:=Hd hj5;clear hv hL hJ hR hj5;simp only [regs.putAll,List.map_cons,List.map_nil];simp only [Act.put,List.setIfInBounds_toArray,List.set_cons_zero,List.set_cons_succ];generalize val 46=v46,val 47=v47,val 48=v48,val 49=v49,val 50=v50 at *;have HKs5:=Hd HJ5.out.old.1;have HKr5:=Hd HJ5.out.old.2.2.1;have HB5:Hid (Below w.heap.size w w5):=HB4.out.trans HR5.out;have HKrT:Hid (BlkT w5 (w.heap.size+2) Vh 34):=HJ5.out.rt
   have HDC:Hid (DocAt w5 (.agg (Vc wi hei M A1 t1'.length n1 m').toArray) wi hei M ⟨t1',upd x.nd o.i Nd.plain,upd x.ws o.i Mp.o⟩):=⟨_,m',rfl,HJ5.out.tr,(HJ5.out.yes rfl).alike (fun _=>rfl) fun j hj=>by
    show upd x.nd o.i Nd.plain j=upd (ndH (has x.t) x.nd) o.i Nd.plain j;by_cases e:j=o.i
    ·rw [e,upd_same,upd_same]
    ·rw [upd_ne _ e,upd_ne _ e]
     exact (if_pos (((HHB.out j).1 hj).resolve_left e)).symm⟩
   go_wp2_with (first | (with_reducible refine gL ?_;first | (refine wpl_take 34 _ rfl rfl _ 0 rfl ((Vc wi hei M A1 t1'.length n1 m')) HKs5.out ((Vc wi hei M A1 t1'.length n1 m')) rfl _ Tryz.underlying34 rfl (by kernel_rfl) ?_)) | (with_reducible refine gS ?_;first | (refine wpl_stow 34 _ _ rfl rfl rfl _ 0 rfl ((Vc wi hei M A1 t1'.length n1 m')) rfl (Vh) HKr5.out ((Vc wi hei M A1 t1'.length n1 m')) rfl (Nat.le_of_ble_eq_true rfl) (by kernel_rfl) rfl ?_;intro w6 HW6 HK6)));rw [HE2.out]
   exact blk_ret2 rfl rfl rfl HK6.out Tryz.underlying34 rfl (by kernel_rfl) ⟨_,rfl,dsh _ _ _ _ _ _ _,fun _=>HDC.out.wrote HKrT.out (by decide) (by unfold noPx;simp) HW6.out,HW6.out.below HB5.out (by omega)⟩
theorem ddo_2 (o:Op9) (Ao:Option Addr) (co:Nat) (wi hei M:Int) (tv:Value) (x:PSc) (m:Nat) (ok:Ok x.t) (hn:x.t.length<=900) (hg:Good x) (hfx:∀ i,Fit (x.nd i)) (ho:OpOk o) (w:World) (hr:PxR w Ao o.lk.l) (ht:DTree w tv x.t) (hm:DMap w m (has x.t) x.nd) (h2:o.k=2):Calls Tryz.prog 114 #[.agg #[.int .i64 wi,.int .i64 hei,.int .i64 M,tv,.map (some m)],.agg (o.dcs Ao co).toArray] w (DoDQ wi hei M (doS M x o) w):=by
 have h1:¬ o.k=1:=by omega
 obtain ⟨At,ct,rfl,hrt,hy⟩:=ht
 have HT:Hid (DTree w (.slice At x.t.length ct) x.t):=⟨At,ct,rfl,hrt,hy⟩
 have HM0:=Hd hm;have HR:=Hd hr;have HOK:=Hd ok;have HN:=Hd hn;have HG:=Hd hg;have HFX:=Hd hfx;have HO:=Hd ho;unfold DoDQ
 obtain ⟨R,hR⟩:∃ R,doS M x o=R:=⟨_,rfl⟩
 have HE:=Hd hR;rw [hR];clear hR hm hr hrt hy ok hn hg hfx ho;have HB0:Hid (Below w.heap.size w (((w.alloc (.cells (Vc wi hei M At x.t.length ct m).toArray 34)).alloc (.cells (o.dcs Ao co).toArray 227)).alloc (.cells Vh.toArray 34))):=(((Below.refl _ _).alloc (Nat.le_refl _) _).alloc (by simp) _).alloc (by simp;omega) _;have HKs:Hid (BlkT (((w.alloc (.cells (Vc wi hei M At x.t.length ct m).toArray 34)).alloc (.cells (o.dcs Ao co).toArray 227)).alloc (.cells Vh.toArray 34)) w.heap.size (Vc wi hei M At x.t.length ct m) 34):=((BlkT.new w (Vc wi hei M At x.t.length ct m) 34).al _).al _
 have HKo:Hid (Blk (((w.alloc (.cells (Vc wi hei M At x.t.length ct m).toArray 34)).alloc (.cells (o.dcs Ao co).toArray 227)).alloc (.cells Vh.toArray 34)) (w.heap.size+1) (o.dcs Ao co)):=(blk_at (w.alloc _) _ (by simp) (o.dcs Ao co) _).alloc _;have HKr:Hid (BlkT (((w.alloc (.cells (Vc wi hei M At x.t.length ct m).toArray 34)).alloc (.cells (o.dcs Ao co).toArray 227)).alloc (.cells Vh.toArray 34)) (w.heap.size+2) Vh 34):=blkT_at ((w.alloc _).alloc _) _ (by simp) Vh 34;go_enter Tryz.func114,Tryz.ntmps114
 go_upto_region 1 with (fail)
 generalize (((w.alloc (.cells (Vc wi hei M At x.t.length ct m).toArray 34)).alloc (.cells (o.dcs Ao co).toArray 227)).alloc (.cells Vh.toArray 34))=w0 at *;have c0:=HKo.out.c 0 rfl;have c1:=HKo.out.c 1 rfl;have ci:w.heap.size+1<w0.heap.size:=HKo.out.inside;have s3:w0.cell? ⟨w.heap.size,3,none⟩=some (.slice At x.t.length ct):=HKs.out.blk.cell 3;have si:w.heap.size<w0.heap.size:=HKs.out.inside;have t1:(o.k==1)=false:=by simpa using h1
 have t2:(o.k==2)=true:=by simpa using h2
 have HE1:Hid (R=removeS x o.i):=by show _=_;rw [← HE.out];unfold doS;rw [if_neg h1,if_pos h2]
 clear h1 h2 HE;go_wp2_with (fail);refine (drem _ x.t o.i w0 HOK.out (HT.out.below HB0.out) (by have:=HN.out;omega)).mono ?_;rintro e w1 ⟨v1,u1,rfl,hd1,-,hb1⟩;have HB1:=Hd (HB0.out.trans (hb1.mono HB0.out.size));have HKs1:=Hd (BlkT.stays HKs.out ((hb1).block _ HKs.out.inside));have HKr1:=Hd (BlkT.stays HKr.out ((hb1).block _ HKr.out.inside));have HKo1:=Hd (HKo.out.below' hb1);clear hb1 HKs HKo HKr HB0 c0 c1 ci s3 si;have HRO:=Hd (remS_ok HOK.out o.i)
 obtain ⟨⟨t1',k1,e1⟩,hq⟩:∃ q,remS x.t o.i=q:=⟨_,rfl⟩
 have HQ:=Hd hq;unfold removeS at HE1;rw [hq] at HE1 HRO hd1 ⊢;simp only at HE1 HRO hd1 ⊢;clear hq;obtain ⟨A1,n1,rfl,hr1,hy1⟩:=hd1
 have HD1:Hid (DTree w1 (.slice A1 t1'.length n1) t1'):=⟨A1,n1,rfl,hr1,hy1⟩
 clear hr1 hy1;by_cases he:¬ e1=0
 ·have q:(e1==0)=false:=by simpa using he
  have HE2:Hid (R=(x,e1)):=by show _=_;rw [HE1.out,if_pos he]
  have HNE:=Hd he;clear HE1 he;go_wp2_with (first | (with_reducible refine gL ?_;first | (refine wpl_take 34 _ rfl rfl _ 0 rfl ((Vc wi hei M At x.t.length ct m)) HKs1.out.blk ((Vc wi hei M At x.t.length ct m)) rfl _ Tryz.underlying34 rfl (by kernel_rfl) ?_)) | (with_reducible refine gS ?_;first | (refine wpl_stow 34 _ _ rfl rfl rfl _ 0 rfl ((Vc wi hei M At x.t.length ct m)) rfl (Vh) HKr1.out.blk ((Vc wi hei M At x.t.length ct m)) rfl (Nat.le_of_ble_eq_true rfl) (by kernel_rfl) rfl ?_;intro w2 HW2 HK2)));rw [HE2.out]
  exact blk_ret2 rfl rfl rfl HK2.out Tryz.underlying34 rfl (by kernel_rfl) ⟨_,rfl,dsh _ _ _ _ _ _ _,fun e=>absurd e HNE.out,HW2.out.below HB1.out (by omega)⟩
 ·obtain rfl:e1=0:=Decidable.not_not.1 he;clear he;have q:((0:Int)==0)=true:=by decide
  have HE2:Hid (R=(⟨t1',x.nd,x.ws⟩,0)):=by show _=_;rw [HE1.out,if_neg (by decide)]
  have HOK1:Hid (Ok t1'):=HRO.out.1;have HLN:Hid (t1'.length<=x.t.length):=HRO.out.2
  have HHB:Hid (∀ j,has t1' j=true->has x.t j=true):=fun j hj=>by
   obtain ⟨y1,y2⟩:=remS_yes (t:=x.t) (i:=o.i) (by rw [HQ.out]);rw [HQ.out] at y2
   injection y2 with y2 _
   rw [y2] at hj;exact ((has_gone HOK.out y1).1 hj).2
  clear HE1 HRO;have s3:w1.cell? ⟨w.heap.size,3,none⟩=some (.slice At x.t.length ct):=HKs1.out.blk.cell 3;have si:w.heap.size<w1.heap.size:=HKs1.out.inside;have f3:w1.frozen? ⟨w.heap.size,3,none⟩=false:=HKs1.out.blk.free 3
  go_upto_region 16 with (fail)
  have HS:Hid (Wrote w.heap.size w1 (w1.setCell ⟨w.heap.size,3,none⟩ (.slice A1 t1'.length n1))):=⟨3,[.slice A1 t1'.length n1],rfl⟩
  have HKs2:Hid (BlkT (w1.setCell ⟨w.heap.size,3,none⟩ (.slice A1 t1'.length n1)) w.heap.size (Vc wi hei M A1 t1'.length n1 m) 34):=HKs1.out.set 3 _;generalize hwq:(w1.setCell ⟨w.heap.size,3,none⟩ (.slice A1 t1'.length n1))=w2 at *;clear hwq;have HB2:Hid (Below w.heap.size w w2):=HS.out.below HB1.out (Nat.le_refl _);have HKr2:Hid (BlkT w2 (w.heap.size+2) Vh 34):=HKr1.out.stays (HS.out.far (by omega));have HKo2:=Hd (HS.out.blk (show w.heap.size+1≠w.heap.size by omega) HKo1.out);have HD2:Hid (DTree w2 (.slice A1 t1'.length n1) t1'):=HD1.out.wrote HKs1.out (by decide) HS.out
  go_wp2_with (first | (with_reducible refine gL ?_;first | (refine wpl_take 34 _ rfl rfl _ 0 rfl ((Vc wi hei M A1 t1'.length n1 m)) HKs2.out.blk ((Vc wi hei M A1 t1'.length n1 m)) rfl _ Tryz.underlying34 rfl (by kernel_rfl) ?_)));refine (dcopied_any wi hei M _ t1' m (has x.t) x.nd HOK1.out (by have:=HLN.out;have:=HN.out;omega) w2 HD2.out (HM0.out.below HB2.out)).mono ?_;rintro e w3 ⟨m',rfl,hdm,hbq,hmq⟩;have HDM3:=Hd hdm;have HMG3:Hid (w.heap.size<=m'):=Nat.le_trans HB2.out.size hmq;have HD3:=Hd (HD2.out.below hbq);have HB3:=Hd (HB2.out.trans (hbq.mono HB2.out.size))
  have HKs3:=Hd (BlkT.stays HKs2.out ((hbq).block _ HKs2.out.inside));have HKr3:=Hd (BlkT.stays HKr2.out ((hbq).block _ HKr2.out.inside));have HKo3:=Hd (HKo2.out.below' hbq);clear hdm hbq s3 si f3 hmq HKs2 HKr2 HKo2 HD2 HB2 HS HKs1 HKr1 HKo1 HD1 HB1;go_wp2_with (first | (with_reducible refine gS ?_;first | (refine wpl_stow 34 _ _ rfl rfl rfl _ 0 rfl ((Vc wi hei M A1 t1'.length n1 m')) rfl (Vh) HKr3.out.blk ((Vc wi hei M A1 t1'.length n1 m')) rfl (Nat.le_of_ble_eq_true rfl) (by kernel_rfl) rfl ?_;intro w4 HW4 HK4)));rw [HE2.out]
  exact blk_ret2 rfl rfl rfl HK4.out Tryz.underlying34 rfl (by kernel_rfl) ⟨_,rfl,dsh _ _ _ _ _ _ _,fun _=>⟨_,m',rfl,HD3.out.wrote HKr3.out (by decide) HW4.out,(HDM3.out.wrote HKr3.out.blk (by unfold noPx;simp) HW4.out).alike (fun _=>rfl) fun j hj=>(if_pos (HHB.out j hj)).symm⟩,HW4.out.below HB3.out (by omega)⟩
theorem ddo_3 (o:Op9) (Ao:Option Addr) (co:Nat) (wi hei M:Int) (tv:Value) (x:PSc) (m:Nat) (ok:Ok x.t) (hn:x.t.length<=900) (hg:Good x) (hfx:∀ i,Fit (x.nd i)) (ho:OpOk o) (w:World) (hr:PxR w Ao o.lk.l) (ht:DTree w tv x.t) (hm:DMap w m (has x.t) x.nd) (h3:o.k=3):Calls Tryz.prog 114 #[.agg #[.int .i64 wi,.int .i64 hei,.int .i64 M,tv,.map (some m)],.agg (o.dcs Ao co).toArray] w (DoDQ wi hei M (doS M x o) w):=by
 have h1:¬ o.k=1:=by omega
 have h2:¬ o.k=2:=by omega
 obtain ⟨At,ct,rfl,hrt,hy⟩:=ht
 have HT:Hid (DTree w (.slice At x.t.length ct) x.t):=⟨At,ct,rfl,hrt,hy⟩
 have HM0:=Hd hm;have HR:=Hd hr;have HOK:=Hd ok;have HN:=Hd hn;have HG:=Hd hg;have HFX:=Hd hfx;have HO:=Hd ho;unfold DoDQ
 obtain ⟨R,hR⟩:∃ R,doS M x o=R:=⟨_,rfl⟩
 have HE:=Hd hR;rw [hR];clear hR hm hr hrt hy ok hn hg hfx ho;have HB0:Hid (Below w.heap.size w (((w.alloc (.cells (Vc wi hei M At x.t.length ct m).toArray 34)).alloc (.cells (o.dcs Ao co).toArray 227)).alloc (.cells Vh.toArray 34))):=(((Below.refl _ _).alloc (Nat.le_refl _) _).alloc (by simp) _).alloc (by simp;omega) _;have HKs:Hid (BlkT (((w.alloc (.cells (Vc wi hei M At x.t.length ct m).toArray 34)).alloc (.cells (o.dcs Ao co).toArray 227)).alloc (.cells Vh.toArray 34)) w.heap.size (Vc wi hei M At x.t.length ct m) 34):=((BlkT.new w (Vc wi hei M At x.t.length ct m) 34).al _).al _
 have HKo:Hid (Blk (((w.alloc (.cells (Vc wi hei M At x.t.length ct m).toArray 34)).alloc (.cells (o.dcs Ao co).toArray 227)).alloc (.cells Vh.toArray 34)) (w.heap.size+1) (o.dcs Ao co)):=(blk_at (w.alloc _) _ (by simp) (o.dcs Ao co) _).alloc _;have HKr:Hid (BlkT (((w.alloc (.cells (Vc wi hei M At x.t.length ct m).toArray 34)).alloc (.cells (o.dcs Ao co).toArray 227)).alloc (.cells Vh.toArray 34)) (w.heap.size+2) Vh 34):=blkT_at ((w.alloc _).alloc _) _ (by simp) Vh 34;go_enter Tryz.func114,Tryz.ntmps114
 go_upto_region 1 with (fail)
 generalize (((w.alloc (.cells (Vc wi hei M At x.t.length ct m).toArray 34)).alloc (.cells (o.dcs Ao co).toArray 227)).alloc (.cells Vh.toArray 34))=w0 at *;have c0:=HKo.out.c 0 rfl;have c1:=HKo.out.c 1 rfl;have c2:=HKo.out.c 2 rfl;have c3:=HKo.out.c 3 rfl;have ci:w.heap.size+1<w0.heap.size:=HKo.out.inside;have s3:w0.cell? ⟨w.heap.size,3,none⟩=some (.slice At x.t.length ct):=HKs.out.blk.cell 3;have si:w.heap.size<w0.heap.size:=HKs.out.inside;have t1:(o.k==1)=false:=by simpa using h1
 have t2:(o.k==2)=false:=by simpa using h2
 have t3:(o.k==3)=true:=by simpa using h3
 have HE1:Hid (R=moveS x o.i o.p o.n):=by show _=_;rw [← HE.out];unfold doS;rw [if_neg h1,if_neg h2,if_pos h3]
 clear h1 h2 h3 HE;go_wp2_with (fail);refine (dmove _ x.t o.i o.p o.n w0 HOK.out (HT.out.below HB0.out) (by have:=HN.out;omega)).mono ?_;rintro e w1 ⟨v1,rfl,hd1,hb1⟩;have HB1:=Hd (HB0.out.trans (hb1.mono HB0.out.size));have HKs1:=Hd (BlkT.stays HKs.out ((hb1).block _ HKs.out.inside));have HKr1:=Hd (BlkT.stays HKr.out ((hb1).block _ HKr.out.inside));have HKo1:=Hd (HKo.out.below' hb1);clear hb1 HKs HKo HKr HB0 c0 c1 c2 c3 ci s3 si
 obtain ⟨⟨t1',e1⟩,hq⟩:∃ q,movS x.t o.i o.p o.n=q:=⟨_,rfl⟩
 have HQ:=Hd hq;unfold moveS at HE1;rw [hq] at HE1 hd1 ⊢;simp only at HE1 hd1 ⊢;clear hq;obtain ⟨A1,n1,rfl,hr1,hy1⟩:=hd1
 have HD1:Hid (DTree w1 (.slice A1 t1'.length n1) t1'):=⟨A1,n1,rfl,hr1,hy1⟩
 clear hr1 hy1
 have HR2:Hid (R.2=e1∧(e1=0->R.1=⟨t1',x.nd,x.ws⟩)):=by
  by_cases he:e1=0
  ·subst he;rw [show R=_ from HE1.out,if_neg (by decide)];exact ⟨rfl,fun _=>rfl⟩
  ·rw [show R=_ from HE1.out,if_pos he];exact ⟨rfl,fun e=>absurd e he⟩
 have HHB:Hid (e1=0->∀ j,has t1' j=has x.t j):=fun he j=>by
  subst he;obtain ⟨y1,y2,-⟩:=movS_yes (t:=x.t) (i:=o.i) (p:=o.p) (n:=o.n) (by rw [HQ.out]);rw [HQ.out] at y1;simp only at y1;rw [Bool.eq_iff_iff,has_iff,has_iff,y1,ids_move y2]
 clear HE1;have s3:w1.cell? ⟨w.heap.size,3,none⟩=some (.slice At x.t.length ct):=HKs1.out.blk.cell 3;have si:w.heap.size<w1.heap.size:=HKs1.out.inside;have f3:w1.frozen? ⟨w.heap.size,3,none⟩=false:=HKs1.out.blk.free 3
 go_upto_region 20 with (fail)
 have HS:Hid (Wrote w.heap.size w1 (w1.setCell ⟨w.heap.size,3,none⟩ (.slice A1 t1'.length n1))):=⟨3,[.slice A1 t1'.length n1],rfl⟩
 have HKs2:Hid (BlkT (w1.setCell ⟨w.heap.size,3,none⟩ (.slice A1 t1'.length n1)) w.heap.size (Vc wi hei M A1 t1'.length n1 m) 34):=HKs1.out.set 3 _;generalize hwq:(w1.setCell ⟨w.heap.size,3,none⟩ (.slice A1 t1'.length n1))=w2 at *;clear hwq;have HB2:Hid (Below w.heap.size w w2):=HS.out.below HB1.out (Nat.le_refl _);have HKr2:Hid (BlkT w2 (w.heap.size+2) Vh 34):=HKr1.out.stays (HS.out.far (by omega));have HKo2:=Hd (HS.out.blk (show w.heap.size+1≠w.heap.size by omega) HKo1.out);have HD2:Hid (DTree w2 (.slice A1 t1'.length n1) t1'):=HD1.out.wrote HKs1.out (by decide) HS.out;clear s3 si f3
 go_wp2_with (first | (with_reducible refine gL ?_;first | (refine wpl_take 34 _ rfl rfl _ 0 rfl ((Vc wi hei M A1 t1'.length n1 m)) HKs2.out.blk ((Vc wi hei M A1 t1'.length n1 m)) rfl _ Tryz.underlying34 rfl (by kernel_rfl) ?_)) | (with_reducible refine gS ?_;first | (refine wpl_stow 34 _ _ rfl rfl rfl _ 0 rfl ((Vc wi hei M A1 t1'.length n1 m)) rfl (Vh) HKr2.out.blk ((Vc wi hei M A1 t1'.length n1 m)) rfl (Nat.le_of_ble_eq_true rfl) (by kernel_rfl) rfl ?_;intro w4 HW4 HK4)));rw [HR2.out.1]
 refine blk_ret2 rfl rfl rfl HK4.out Tryz.underlying34 rfl (by kernel_rfl) ⟨_,rfl,dsh _ _ _ _ _ _ _,fun e=>?_,HW4.out.below HB2.out (by omega)⟩;rw [HR2.out.2 e];exact ⟨_,m,rfl,HD2.out.wrote HKr2.out (by decide) HW4.out,(HM0.out.below (HW4.out.below HB2.out (by omega))).alike (HHB.out e) fun _ _=>rfl⟩
theorem ddo_n (o:Op9) (Ao:Option Addr) (co:Nat) (wi hei M:Int) (tv:Value) (x:PSc) (m:Nat) (ok:Ok x.t) (hn:x.t.length<=900) (hg:Good x) (hfx:∀ i,Fit (x.nd i)) (ho:OpOk o) (w:World) (hr:PxR w Ao o.lk.l) (ht:DTree w tv x.t) (hm:DMap w m (has x.t) x.nd) (h9:¬ (1<=o.k∧o.k<=8)):Calls Tryz.prog 114 #[.agg #[.int .i64 wi,.int .i64 hei,.int .i64 M,tv,.map (some m)],.agg (o.dcs Ao co).toArray] w (DoDQ wi hei M (doS M x o) w):=by
 have h1:¬ o.k=1:=by omega
 have h2:¬ o.k=2:=by omega
 have h3:¬ o.k=3:=by omega
 obtain ⟨At,ct,rfl,hrt,hy⟩:=ht
 have HT:Hid (DTree w (.slice At x.t.length ct) x.t):=⟨At,ct,rfl,hrt,hy⟩
 have HM0:=Hd hm;have HR:=Hd hr;have HOK:=Hd ok;have HN:=Hd hn;have HG:=Hd hg;have HFX:=Hd hfx;have HO:=Hd ho;unfold DoDQ
 obtain ⟨R,hR⟩:∃ R,doS M x o=R:=⟨_,rfl⟩
 have HE:=Hd hR;rw [hR];clear hR hm hr hrt hy ok hn hg hfx ho;have HB0:Hid (Below w.heap.size w (((w.alloc (.cells (Vc wi hei M At x.t.length ct m).toArray 34)).alloc (.cells (o.dcs Ao co).toArray 227)).alloc (.cells Vh.toArray 34))):=(((Below.refl _ _).alloc (Nat.le_refl _) _).alloc (by simp) _).alloc (by simp;omega) _;have HKs:Hid (BlkT (((w.alloc (.cells (Vc wi hei M At x.t.length ct m).toArray 34)).alloc (.cells (o.dcs Ao co).toArray 227)).alloc (.cells Vh.toArray 34)) w.heap.size (Vc wi hei M At x.t.length ct m) 34):=((BlkT.new w (Vc wi hei M At x.t.length ct m) 34).al _).al _
 have HKo:Hid (Blk (((w.alloc (.cells (Vc wi hei M At x.t.length ct m).toArray 34)).alloc (.cells (o.dcs Ao co).toArray 227)).alloc (.cells Vh.toArray 34)) (w.heap.size+1) (o.dcs Ao co)):=(blk_at (w.alloc _) _ (by simp) (o.dcs Ao co) _).alloc _;have HKr:Hid (BlkT (((w.alloc (.cells (Vc wi hei M At x.t.length ct m).toArray 34)).alloc (.cells (o.dcs Ao co).toArray 227)).alloc (.cells Vh.toArray 34)) (w.heap.size+2) Vh 34):=blkT_at ((w.alloc _).alloc _) _ (by simp) Vh 34;go_enter Tryz.func114,Tryz.ntmps114
 go_upto_region 1 with (fail)
 generalize (((w.alloc (.cells (Vc wi hei M At x.t.length ct m).toArray 34)).alloc (.cells (o.dcs Ao co).toArray 227)).alloc (.cells Vh.toArray 34))=w0 at *;have c0:=HKo.out.c 0 rfl;have ci:w.heap.size+1<w0.heap.size:=HKo.out.inside;have t1:(o.k==1)=false:=by simpa using h1
 have t2:(o.k==2)=false:=by simpa using h2
 have t3:(o.k==3)=false:=by simpa using h3
 have HE2:Hid (R=(x,38)):=by show _=_;rw [← HE.out];unfold doS;rw [if_neg h1,if_neg h2,if_neg h3,if_neg (by omega)]
 clear h1 h2 h3 HE;by_cases hl:o.k<1
 ·have q1:decide (o.k<1)=true:=decide_eq_true hl;clear hl h9;go_wp2_with (first | (with_reducible refine gL ?_;first | (refine wpl_take 34 _ rfl rfl _ 0 rfl ((Vc wi hei M At x.t.length ct m)) HKs.out.blk ((Vc wi hei M At x.t.length ct m)) rfl _ Tryz.underlying34 rfl (by kernel_rfl) ?_)) | (with_reducible refine gS ?_;first | (refine wpl_stow 34 _ _ rfl rfl rfl _ 0 rfl ((Vc wi hei M At x.t.length ct m)) rfl (Vh) HKr.out.blk ((Vc wi hei M At x.t.length ct m)) rfl (Nat.le_of_ble_eq_true rfl) (by kernel_rfl) rfl ?_;intro w2 HW2 HK2)));rw [HE2.out]
  exact blk_ret2 rfl rfl rfl HK2.out Tryz.underlying34 rfl (by kernel_rfl) ⟨_,rfl,dsh _ _ _ _ _ _ _,fun e=>absurd (show (38:Int)=0 from e) (by decide),HW2.out.below HB0.out (by omega)⟩
 ·have q1:decide (o.k<1)=false:=decide_eq_false hl;have q2:decide ((8:Int)<o.k)=true:=decide_eq_true (by omega);clear hl h9
  go_wp2_with (first | (with_reducible refine gL ?_;first | (refine wpl_take 34 _ rfl rfl _ 0 rfl ((Vc wi hei M At x.t.length ct m)) HKs.out.blk ((Vc wi hei M At x.t.length ct m)) rfl _ Tryz.underlying34 rfl (by kernel_rfl) ?_)) | (with_reducible refine gS ?_;first | (refine wpl_stow 34 _ _ rfl rfl rfl _ 0 rfl ((Vc wi hei M At x.t.length ct m)) rfl (Vh) HKr.out.blk ((Vc wi hei M At x.t.length ct m)) rfl (Nat.le_of_ble_eq_true rfl) (by kernel_rfl) rfl ?_;intro w2 HW2 HK2)));rw [HE2.out]
  exact blk_ret2 rfl rfl rfl HK2.out Tryz.underlying34 rfl (by kernel_rfl) ⟨_,rfl,dsh _ _ _ _ _ _ _,fun e=>absurd (show (38:Int)=0 from e) (by decide),HW2.out.below HB0.out (by omega)⟩
theorem ddo_s (o:Op9) (Ao:Option Addr) (co:Nat) (wi hei M:Int) (tv:Value) (x:PSc) (m:Nat) (ok:Ok x.t) (hn:x.t.length<=900) (hg:Good x) (hfx:∀ i,Fit (x.nd i)) (ho:OpOk o) (w:World) (hr:PxR w Ao o.lk.l) (ht:DTree w tv x.t) (hm:DMap w m (has x.t) x.nd) (h4:4<=o.k∧o.k<=8):Calls Tryz.prog 114 #[.agg #[.int .i64 wi,.int .i64 hei,.int .i64 M,tv,.map (some m)],.agg (o.dcs Ao co).toArray] w (DoDQ wi hei M (doS M x o) w):=by
 have h1:¬ o.k=1:=by omega
 have h2:¬ o.k=2:=by omega
 have h3:¬ o.k=3:=by omega
 obtain ⟨At,ct,rfl,hrt,hy⟩:=ht
 have HT:Hid (DTree w (.slice At x.t.length ct) x.t):=⟨At,ct,rfl,hrt,hy⟩
 have HM0:=Hd hm;have HR:=Hd hr;have HOK:=Hd ok;have HN:=Hd hn;have HG:=Hd hg;have HFX:=Hd hfx;have HO:=Hd ho;unfold DoDQ
 obtain ⟨R,hR⟩:∃ R,doS M x o=R:=⟨_,rfl⟩
 have HE:=Hd hR;rw [hR];clear hR hm hr hrt hy ok hn hg hfx ho;have HB0:Hid (Below w.heap.size w (((w.alloc (.cells (Vc wi hei M At x.t.length ct m).toArray 34)).alloc (.cells (o.dcs Ao co).toArray 227)).alloc (.cells Vh.toArray 34))):=(((Below.refl _ _).alloc (Nat.le_refl _) _).alloc (by simp) _).alloc (by simp;omega) _;have HKs:Hid (BlkT (((w.alloc (.cells (Vc wi hei M At x.t.length ct m).toArray 34)).alloc (.cells (o.dcs Ao co).toArray 227)).alloc (.cells Vh.toArray 34)) w.heap.size (Vc wi hei M At x.t.length ct m) 34):=((BlkT.new w (Vc wi hei M At x.t.length ct m) 34).al _).al _
 have HKo:Hid (Blk (((w.alloc (.cells (Vc wi hei M At x.t.length ct m).toArray 34)).alloc (.cells (o.dcs Ao co).toArray 227)).alloc (.cells Vh.toArray 34)) (w.heap.size+1) (o.dcs Ao co)):=(blk_at (w.alloc _) _ (by simp) (o.dcs Ao co) _).alloc _;have HKr:Hid (BlkT (((w.alloc (.cells (Vc wi hei M At x.t.length ct m).toArray 34)).alloc (.cells (o.dcs Ao co).toArray 227)).alloc (.cells Vh.toArray 34)) (w.heap.size+2) Vh 34):=blkT_at ((w.alloc _).alloc _) _ (by simp) Vh 34;go_enter Tryz.func114,Tryz.ntmps114
 go_upto_region 1 with (fail)
 generalize (((w.alloc (.cells (Vc wi hei M At x.t.length ct m).toArray 34)).alloc (.cells (o.dcs Ao co).toArray 227)).alloc (.cells Vh.toArray 34))=w0 at *;have c0:=HKo.out.c 0 rfl;have c1:=HKo.out.c 1 rfl;have ci:w.heap.size+1<w0.heap.size:=HKo.out.inside;have s3:w0.cell? ⟨w.heap.size,3,none⟩=some (.slice At x.t.length ct):=HKs.out.blk.cell 3;have s4:w0.cell? ⟨w.heap.size,4,none⟩=some (.map (some m)):=HKs.out.blk.cell 4;have si:w.heap.size<w0.heap.size:=HKs.out.inside;have t1:(o.k==1)=false:=by simpa using h1
 have t2:(o.k==2)=false:=by simpa using h2
 have t3:(o.k==3)=false:=by simpa using h3
 have HE1:Hid (R=setS x o):=by show _=_;rw [← HE.out];unfold doS;rw [if_neg h1,if_neg h2,if_neg h3,if_pos h4]
 have q1:decide (o.k<1)=false:=decide_eq_false (by omega);have q2:decide ((8:Int)<o.k)=false:=decide_eq_false (by omega);clear h1 h2 h3 h4 HE;go_wp2_with (fail);refine (dhas At x.t ct o.i w0 (DTree.srow (HT.out.below HB0.out)) (by have:=HN.out;omega)).mono ?_;rintro e w1 ⟨rfl,hb1⟩;have HB1:=Hd (HB0.out.trans (hb1.mono HB0.out.size));have HKs1:=Hd (BlkT.stays HKs.out ((hb1).block _ HKs.out.inside));have HKr1:=Hd (BlkT.stays HKr.out ((hb1).block _ HKr.out.inside));have HKo1:=Hd (HKo.out.below' hb1);clear hb1 HKs HKo HKr HB0 c0 c1 ci s3 s4 si q1 q2;unfold setS at HE1
 cases hh:has x.t o.i with
 | false=>
  have HE2:Hid (R=(x,30)):=by show _=_;rw [HE1.out,if_pos hh]
  clear HE1;go_wp2_with (first | (with_reducible refine gL ?_;first | (refine wpl_take 34 _ rfl rfl _ 0 rfl ((Vc wi hei M At x.t.length ct m)) HKs1.out.blk ((Vc wi hei M At x.t.length ct m)) rfl _ Tryz.underlying34 rfl (by kernel_rfl) ?_)) | (with_reducible refine gS ?_;first | (refine wpl_stow 34 _ _ rfl rfl rfl _ 0 rfl ((Vc wi hei M At x.t.length ct m)) rfl (Vh) HKr1.out.blk ((Vc wi hei M At x.t.length ct m)) rfl (Nat.le_of_ble_eq_true rfl) (by kernel_rfl) rfl ?_;intro w2 HW2 HK2)));rw [HE2.out]
  exact blk_ret2 rfl rfl rfl HK2.out Tryz.underlying34 rfl (by kernel_rfl) ⟨_,rfl,dsh _ _ _ _ _ _ _,fun e=>absurd (show (30:Int)=0 from e) (by decide),HW2.out.below HB1.out (by omega)⟩
 | true=>
  have HHH:Hid (has x.t o.i=true):=hh;rw [if_neg (by rw [hh];decide)] at HE1;clear hh;obtain ⟨An,cn,hrn,hlk⟩:=HM0.out.look HO.out.i HHH.out;have HLK:=Hd hlk;have HRN:=Hd hrn;have hlk1:=hlk w1 HB1.out;clear hlk hrn;have c1:=HKo1.out.c 1 rfl;have ci:w.heap.size+1<w1.heap.size:=HKo1.out.inside;have s4:w1.cell? ⟨w.heap.size,4,none⟩=some (.map (some m)):=HKs1.out.blk.cell 4;have si:w.heap.size<w1.heap.size:=HKs1.out.inside
  go_wp2_with (first | (with_reducible refine gL ?_;first | (refine wpl_take 227 _ rfl rfl _ 0 rfl (o.dcs Ao co) HKo1.out (o.dcs Ao co) rfl _ Tryz.underlying227 rfl (by kernel_rfl) ?_)));refine (dset_any o Ao co (x.nd o.i) An cn w1).mono ?_;rintro e w2 ⟨rfl,hb2⟩;have HB2:=Hd (HB1.out.trans (hb2.mono HB1.out.size));have HKs2:=Hd (BlkT.stays HKs1.out ((hb2).block _ HKs1.out.inside));have HKr2:=Hd (BlkT.stays HKr1.out ((hb2).block _ HKr1.out.inside));have HKo2:=Hd (HKo1.out.below' hb2);clear hb2 hlk1 HKs1 HKo1 HKr1 c1 ci s4 si
  have HSN:Hid ((setN (x.nd o.i) o).chk=(setN Nd.plain o).chk):=chk_set (HG.out o.i) o;have HFN:Hid (Fit (setN (x.nd o.i) o)):=pick_fit ⟨HO.out.fit.p,HO.out.fit.l,HO.out.fit.len⟩ (HFX.out o.i);have HRS:Hid (∀ W,Below w.heap.size w W->PxR W (pick7 o Ao An) (setN (x.nd o.i) o).lk.l):=fun W hb=>pick_px (HR.out.below hb) (HRN.out.below hb)
  obtain ⟨A7,hA7⟩:∃ q,pick7 o Ao An=q:=⟨_,rfl⟩
  obtain ⟨c7,hc7⟩:∃ q,pick7 o co cn=q:=⟨_,rfl⟩
  rw [hA7] at HRS;rw [hA7,hc7];clear hA7 hc7
  obtain ⟨N1,hN1⟩:∃ N1,setN (x.nd o.i) o=N1:=⟨_,rfl⟩
  rw [hN1] at HSN HFN HRS HE1 ⊢;clear hN1;rw [← HSN.out] at HE1;have HZ:Hid (Blk (w2.alloc (.cells Va.toArray 57)) w2.heap.size Va):=blk_new w2 Va _;have HBz:Hid (Below w2.heap.size w2 (w2.alloc (.cells Va.toArray 57))):=(Below.refl _ _).alloc (Nat.le_refl _) _
  go_upto_region 26 with (first | (with_reducible refine gS ?_;first | (refine wpl_stow 57 _ _ rfl rfl rfl _ 0 rfl (N1.cs A7 c7) rfl (Va) HZ.out (N1.cs A7 c7) rfl (Nat.le_of_ble_eq_true rfl) (by kernel_rfl) (Nd.one _ _ _) ?_;intro w3 HW3 HK3)))
  obtain ⟨z,hz⟩:∃ z,w2.heap.size=z:=⟨_,rfl⟩
  have HSZ:Hid (w.heap.size+2<z):=by rw [← hz];exact HKr2.out.inside
  rw [hz] at HW3 HK3 HZ HBz ⊢;have HB3:Hid (Below w.heap.size w w3):=HW3.out.below (HB2.out.trans (HBz.out.mono (by have:=HSZ.out;omega))) (by have:=HSZ.out;omega);have HKs3:Hid (BlkT w3 w.heap.size (Vc wi hei M At x.t.length ct m) 34):=(HKs2.out.stays (HBz.out.block _ (by have:=HSZ.out;omega))).stays (HW3.out.far (by have:=HSZ.out;omega));have HKr3:Hid (BlkT w3 (w.heap.size+2) Vh 34):=(HKr2.out.stays (HBz.out.block _ (by have:=HSZ.out;omega))).stays (HW3.out.far (by have:=HSZ.out;omega))
  have HKo3:Hid (Blk w3 (w.heap.size+1) (o.dcs Ao co)):=HW3.out.blk (show w.heap.size+1≠z by have:=HSZ.out;omega) (HKo2.out.below (HBz.out) (by have:=HSZ.out;omega));clear HKs2 HKr2 HKo2 HB2 HZ HBz HW3 hz;go_wp2_with (first | (with_reducible refine gL ?_;first | (refine wpl_take 57 _ rfl rfl _ 0 rfl (N1.cs A7 c7) HK3.out (N1.cs A7 c7) rfl _ Tryz.underlying57 rfl (by kernel_rfl) ?_)))
  refine (dnode_any N1.m N1.op N1.hi N1.cl N1.r N1.lk.k N1.lk.W N1.lk.H N1.lk.p N1.lk.iw N1.lk.ih A7 N1.lk.l c7 HFN.out.p HFN.out.l (by have:=HFN.out.len;unfold maxLen;omega) w3 (HRS.out w3 HB3.out).row).mono ?_;rintro e w4 ⟨rfl,hb4⟩;rw [show ndC N1.m N1.op N1.cl N1.r (lkC N1.lk.k N1.lk.W N1.lk.H N1.lk.p N1.lk.iw N1.lk.ih N1.lk.l)=N1.chk from rfl];have HB4:=Hd (HB3.out.trans (hb4.mono HB3.out.size));have HKs4:=Hd (BlkT.stays HKs3.out ((hb4).block _ HKs3.out.inside));have HKr4:=Hd (BlkT.stays HKr3.out ((hb4).block _ HKr3.out.inside));have HKo4:=Hd (HKo3.out.below' hb4)
  have HK4:=Hd (HK3.out.below' hb4);clear hb4 HKs3 HKr3 HKo3 HK3 HB3
  obtain ⟨e1,he1⟩:∃ e1,N1.chk=e1:=⟨_,rfl⟩
  rw [he1] at HE1 ⊢;clear he1;by_cases he:¬ e1=0
  ·have q:(e1==0)=false:=by simpa using he
   have HE2:Hid (R=(x,e1)):=by show _=_;rw [HE1.out,if_pos he]
   have HNE:=Hd he;clear HE1 he;go_wp2_with (first | (with_reducible refine gL ?_;first | (refine wpl_take 34 _ rfl rfl _ 0 rfl ((Vc wi hei M At x.t.length ct m)) HKs4.out.blk ((Vc wi hei M At x.t.length ct m)) rfl _ Tryz.underlying34 rfl (by kernel_rfl) ?_)) | (with_reducible refine gS ?_;first | (refine wpl_stow 34 _ _ rfl rfl rfl _ 0 rfl ((Vc wi hei M At x.t.length ct m)) rfl (Vh) HKr4.out.blk ((Vc wi hei M At x.t.length ct m)) rfl (Nat.le_of_ble_eq_true rfl) (by kernel_rfl) rfl ?_;intro w5 HW5 HK5)));rw [HE2.out]
   exact blk_ret2 rfl rfl rfl HK5.out Tryz.underlying34 rfl (by kernel_rfl) ⟨_,rfl,dsh _ _ _ _ _ _ _,fun e=>absurd e HNE.out,HW5.out.below HB4.out (by omega)⟩
  ·obtain rfl:e1=0:=Decidable.not_not.1 he;clear he;have q:((0:Int)==0)=true:=by decide
   have HE2:Hid (R=(⟨x.t,upd x.nd o.i N1,x.ws⟩,0)):=by show _=_;rw [HE1.out,if_neg (by decide)]
   clear HE1;go_wp2_with (first | (with_reducible refine gL ?_;first | (refine wpl_take 34 _ rfl rfl _ 0 rfl ((Vc wi hei M At x.t.length ct m)) HKs4.out.blk ((Vc wi hei M At x.t.length ct m)) rfl _ Tryz.underlying34 rfl (by kernel_rfl) ?_)));refine (dcopied_any wi hei M _ x.t m (has x.t) x.nd HOK.out (by have:=HN.out;omega) w4 (HT.out.below HB4.out) (HM0.out.below HB4.out)).mono ?_;rintro e w5 ⟨m',rfl,hdm,hb5,hmq⟩;have HDM5:=Hd hdm;have HMG:Hid (w.heap.size<=m'):=Nat.le_trans HB4.out.size hmq;have HB5:=Hd (HB4.out.trans (hb5.mono HB4.out.size))
   have HKs5:=Hd (BlkT.stays HKs4.out ((hb5).block _ HKs4.out.inside));have HKr5:=Hd (BlkT.stays HKr4.out ((hb5).block _ HKr4.out.inside));have HKo5:=Hd (HKo4.out.below' hb5);have HK5:=Hd (HK4.out.below' hb5);have HNZ:Hid (z≠w.heap.size):=by have:=HSZ.out;show _≠_;omega
   clear hdm hb5 hmq HKs4 HKr4 HKo4 HK4 HB4
   go_upto_region 30 with (first | (with_reducible refine gS ?_;first | (refine wpl_stow 34 _ _ rfl rfl rfl _ 0 rfl ((Vc wi hei M At x.t.length ct m')) rfl ((Vc wi hei M At x.t.length ct m)) HKs5.out.blk ((Vc wi hei M At x.t.length ct m')) rfl (Nat.le_of_ble_eq_true rfl) (by kernel_rfl) rfl ?_;intro w6 HW6 HK6)))
   have HB6:Hid (Below w.heap.size w w6):=HW6.out.below HB5.out (Nat.le_refl _);have HD6:Hid (DTree w6 (.slice At x.t.length ct) x.t):=HT.out.below HB6.out;have HDM6:Hid (DMap w6 m' (has x.t) (ndH (has x.t) x.nd)):=HDM5.out.wrote HKs5.out.blk (by unfold noPx;simp) HW6.out;have HKr6:Hid (BlkT w6 (w.heap.size+2) Vh 34):=HKr5.out.stays (HW6.out.far (by omega));have HKo6:=Hd (HW6.out.blk (show w.heap.size+1≠w.heap.size by omega) HKo5.out);have HKz6:=Hd (HW6.out.blk HNZ.out HK5.out);have HKs6:=HK6
   obtain ⟨w7,hrun,hdm7,hg7⟩:=HDM6.out.store (t:=x.t) (fun _=>rfl) (by have:=HN.out;omega) HO.out.i HHH.out (v:=.agg (N1.cs A7 c7).toArray) (n:=N1) ⟨A7,c7,rfl,HRS.out w6 HB6.out⟩;have HDM7:=Hd hdm7;have HKs7:Hid (Blk w7 w.heap.size (Vc wi hei M At x.t.length ct m')):=HKs6.out.stays (hg7.block _ HKs6.out.inside fun e=>HDM6.out.not_b HKs6.out (Option.some.inj e));have HKr7:Hid (BlkT w7 (w.heap.size+2) Vh 34):=HKr6.out.stays (hg7.block _ HKr6.out.inside fun e=>HDM6.out.not_b HKr6.out.blk (Option.some.inj e));have HD7:Hid (DTree w7 (.slice At x.t.length ct) x.t):=HD6.out.grown HDM6.out hg7
   have HB7:Hid (Below w.heap.size w w7):=HB6.out.grown hg7 HB6.out.size fun j e=>by cases e;exact HMG.out
   clear hdm7 hg7 HKs5 HKr5 HKo5 HK5 HB5 HW6;have c1:=HKo6.out.c 1 rfl;have ci:w.heap.size+1<w6.heap.size:=HKo6.out.inside;have s4:w6.cell? ⟨w.heap.size,4,none⟩=some (.map (some m')):=HKs6.out.cell 4;have si:w.heap.size<w6.heap.size:=HKs6.out.inside
   go_upto_region 31 with (first | (with_reducible refine gL ?_;first | (refine wpl_take 57 _ rfl rfl _ 0 rfl (N1.cs A7 c7) HKz6.out (N1.cs A7 c7) rfl _ Tryz.underlying57 rfl (by kernel_rfl) ?_)))
   clear hrun c1 ci s4 si;go_wp2_with (first | (with_reducible refine gL ?_;first | (refine wpl_take 34 _ rfl rfl _ 0 rfl ((Vc wi hei M At x.t.length ct m')) HKs7.out ((Vc wi hei M At x.t.length ct m')) rfl _ Tryz.underlying34 rfl (by kernel_rfl) ?_)) | (with_reducible refine gS ?_;first | (refine wpl_stow 34 _ _ rfl rfl rfl _ 0 rfl ((Vc wi hei M At x.t.length ct m')) rfl (Vh) HKr7.out.blk ((Vc wi hei M At x.t.length ct m')) rfl (Nat.le_of_ble_eq_true rfl) (by kernel_rfl) rfl ?_;intro w8 HW8 HK8)));rw [HE2.out]
   exact blk_ret2 rfl rfl rfl HK8.out Tryz.underlying34 rfl (by kernel_rfl) ⟨_,rfl,dsh _ _ _ _ _ _ _,fun _=>⟨_,m',rfl,HD7.out.wrote HKr7.out (by decide) HW8.out,(HDM7.out.wrote HKr7.out.blk (by unfold noPx;simp) HW8.out).alike (fun _=>rfl) fun j hj=>by
    show upd x.nd o.i N1 j=upd (ndH (has x.t) x.nd) o.i N1 j;by_cases e:j=o.i
    ·rw [e,upd_same,upd_same]
    ·rw [upd_ne _ e,upd_ne _ e]
     exact (if_pos hj).symm⟩,HW8.out.below HB7.out (by omega)⟩
theorem ddo_any (o:Op9) (Ao:Option Addr) (co:Nat) (wi hei M:Int) (tv:Value) (x:PSc) (m:Nat) (ok:Ok x.t) (hn:x.t.length<=900) (hg:Good x) (hfx:∀ i,Fit (x.nd i)) (ho:OpOk o) (w:World) (hr:PxR w Ao o.lk.l) (ht:DTree w tv x.t) (hm:DMap w m (has x.t) x.nd):Calls Tryz.prog 114 #[.agg #[.int .i64 wi,.int .i64 hei,.int .i64 M,tv,.map (some m)],.agg (o.dcs Ao co).toArray] w (DoDQ wi hei M (doS M x o) w):=by
 by_cases h1:o.k=1
 ·exact ddo_1 o Ao co wi hei M tv x m ok hn hg hfx ho w hr ht hm h1
 by_cases h2:o.k=2
 ·exact ddo_2 o Ao co wi hei M tv x m ok hn hg hfx ho w hr ht hm h2
 by_cases h3:o.k=3
 ·exact ddo_3 o Ao co wi hei M tv x m ok hn hg hfx ho w hr ht hm h3
 by_cases h4:4<=o.k∧o.k<=8
 ·exact ddo_s o Ao co wi hei M tv x m ok hn hg hfx ho w hr ht hm h4
 exact ddo_n o Ao co wi hei M tv x m ok hn hg hfx ho w hr ht hm (by omega)
end
section
open Go.RowKit pxm imm trm Go.Maps
def isBox (o:Obj):Prop:=∃ cs fz,o=.cells cs tDoc fz∧noPx cs.toList
structure DR (B:Nat) (w w':World):Prop where
 bel:Below B w w'
 same:∀ (k:Nat) (o:Obj),w.heap[k]?=some o->¬ isBox o->w'.heap[k]?=some o
theorem DR.refl (B:Nat) (w:World):DR B w w:=⟨Below.refl _ _,fun _ _ h _=>h⟩
theorem DR.trans {B:Nat} {w w1 w2:World} (h:DR B w w1) (k:DR B w1 w2):DR B w w2:=⟨h.bel.trans k.bel,fun j o h1 h2=>k.same j o (h.same j o h1 h2) h2⟩
theorem DR.below {B:Nat} {w w':World} (hb:Below w.heap.size w w') (hB:B<=w.heap.size):DR B w w':=⟨hb.mono hB,fun k _ h _=>(hb.block k (Array.getElem?_eq_some_iff.1 h).1).trans h⟩
theorem DR.wrote {B g:Nat} {w w':World} {cs:List Value} (hb:BlkT w g cs tDoc) (hc:noPx cs) (hW:Wrote g w w') (hB:B<=g):DR B w w':=⟨hW.below (Below.refl _ _) hB,fun k o h hn=>by
 by_cases e:k=g
 ·refine absurd ⟨cs.toArray,(0,0),?_,by simpa using hc⟩ hn;rw [e] at h;exact Option.some.inj (h.symm.trans hb)
 ·exact (hW.far e).trans h⟩
theorem RTyp.dr {B:Nat} {w w':World} {A:Option Addr} (h:RTyp w A) (hr:DR B w w') {a:Addr} (e:A=some a):w'.heap[a.block]?=w.heap[a.block]?:=by
 obtain ⟨cs,fz,h1⟩:=h a e;rw [h1];refine hr.same _ _ h1 ?_;rintro ⟨cs',fz',e2,_⟩
 injection e2 with _ e3 _
 exact absurd e3 (by decide)
theorem DTree.dr {B:Nat} {w w':World} {v:Value} {t:T} (h:DTree w v t) (hr:DR B w w'):DTree w' v t:=h.stays fun _ _ _ _ hy ea=>hy.dr hr ea
theorem PxR.dr {B:Nat} {w w':World} {A:Option Addr} {l:List Nat} (h:PxR w A l) (hr:DR B w w'):PxR w' A l:=h.stays fun a ea hne=>by
 obtain ⟨cs,fz,h1⟩:=h.typ a ea hne;rw [h1];refine hr.same _ _ h1 ?_;rintro ⟨cs',fz',e2,_⟩
 injection e2 with _ e3 _
 exact absurd e3 (by decide)
theorem DPl.dr {B:Nat} {w w':World} {v:Value} {n:Nd} (h:DPl w v n) (hr:DR B w w'):DPl w' v n:=by
 obtain ⟨A,c,e,h1⟩:=h;exact ⟨A,c,e,h1.dr hr⟩
theorem DMap.dr {B:Nat} {w w':World} {m:Nat} {H:Int->Bool} {nd:Int->Nd} (h:DMap w m H nd) (hr:DR B w w'):DMap w' m H nd:=by
 obtain ⟨es,h1,h2,h3⟩:=h.ex;refine ⟨es,h1.stays ?_,h2,fun i hi=>?_⟩
 ·obtain ⟨es',clock,h4,_⟩:=h1.own;rw [h4];refine hr.same _ _ h4 ?_;rintro ⟨_,_,e,_⟩;cases e
 ·obtain ⟨v,e,hv⟩:=h3 i hi;exact ⟨v,e,hv.dr hr⟩
theorem DocAt.dr {B:Nat} {w w':World} {v:Value} {a b M:Int} {x:PSc} (h:DocAt w v a b M x) (hr:DR B w w'):DocAt w' v a b M x:=by
 obtain ⟨tv,m,e,h1,h2⟩:=h;exact ⟨tv,m,e,h1.dr hr,h2.dr hr⟩
def DP (a b M:Int) (y:PSc) (e:Int) (v:Value) (w:World):Prop:=DSh v∧(e=0->DocAt w v a b M y)
theorem DP.dr {B:Nat} {a b M:Int} {y:PSc} {e:Int} {v:Value} {w w':World} (h:DP a b M y e v w) (hr:DR B w w'):DP a b M y e v w':=⟨h.1,fun k=>(h.2 k).dr hr⟩
theorem BlkT.wrote {w w':World} {g:Nat} {cs cs':List Value} {T:TypeId} (h:BlkT w g cs T) (hW:Wrote g w w') (hB:Blk w' g cs'):BlkT w' g cs' T:=by
 obtain ⟨o,l,rfl⟩:=hW
 have:∀ (l:List Value) (o:Nat) {w:World} {cs:List Value},BlkT w g cs T->∃ c2,BlkT (putBlk g w o l) g c2 T:=by
  intro l
  induction l with
  | nil=>exact fun _ _ cs h=>⟨cs,h⟩
  | cons v l ih=>exact fun o _ _ h=>ih (o+1) (h.set o v)
 obtain ⟨c2,h2⟩:=this l o h;obtain ⟨T',h3⟩:=hB;have e:=h2.symm.trans h3;simp only [Option.some.injEq,Obj.cells.injEq] at e;have e1:c2=cs':=by have:=congrArg Array.toList e.1;simpa using this
 rw [← e1];exact h2
structure VJ (B:Nat) (iA iS:Bool) (vA vC:Value) (w:World):Prop where
 bsz:B<=w.heap.size
 ex:iA=true->∃ g cs,vA=.pointer (some ⟨g,0,none⟩)∧B<=g∧BlkT w g cs tDoc∧noPx cs∧cs.length=5∧(iS=true->vC=.agg cs.toArray)
section
variable {B:Nat} {iA iS:Bool} {vA vC:Value} {w w':World}
theorem VJ.start (h:B<=w.heap.size):VJ B false iS vA vC w:=⟨h,fun e=>nomatch e⟩
theorem VJ.slots {uA uC:Value} (h:VJ B iA iS vA vC w) (e1:uA=vA) (e2:uC=vC):VJ B iA iS uA uC w:=by rw [e1,e2];exact h
theorem VJ.below (h:VJ B iA iS vA vC w) (hb:Below w.heap.size w w'):VJ B iA iS vA vC w':=⟨Nat.le_trans h.bsz hb.size,fun e=>by
 obtain ⟨g,cs,h1,h2,h3,h4⟩:=h.ex e
 exact ⟨g,cs,h1,h2,h3.stays (hb.block _ h3.inside),h4⟩⟩
theorem VJ.told {u uA:Value} (h:VJ B iA iS vA vC w) (eS:iS=false) (e1:uA=vA):VJ B iA iS uA u w:=⟨h.bsz,fun e=>by
 obtain ⟨g,cs,h1,h2,h3,h4,h5,_⟩:=h.ex e
 exact ⟨g,cs,e1.trans h1,h2,h3,h4,h5,fun e=>by rw [eS] at e;cases e⟩⟩
theorem VJ.made {uA uC:Value} (h:VJ B iA iS vA vC w) (eS:iS=false) (e1:uA=.pointer (some ⟨w.heap.size,0,none⟩)):VJ B true iS uA uC (w.alloc (.cells Vh.toArray tDoc)):=
 ⟨Nat.le_trans h.bsz (by simp),fun _=>⟨w.heap.size,_,e1,h.bsz,BlkT.new w Vh tDoc,by unfold noPx;simp,rfl,fun e=>by rw [eS] at e;cases e⟩⟩
theorem VJ.put {cs':List Value} {g:Nat} {cs:List Value} (h:VJ B iA iS vA vC w) (e1:vA=.pointer (some ⟨g,0,none⟩)) (hg:B<=g) (hb:BlkT w g cs tDoc) (hc:noPx cs) (hW:Wrote g w w') (hB:Blk w' g cs') (h2:noPx cs') (hl:cs'.length=5) (ev:vC=.agg cs'.toArray):VJ B iA true vA vC w'∧DR B w w':=
 ⟨⟨by rw [hW.size];exact h.bsz,fun _=>⟨g,cs',e1,hg,hb.wrote hW hB,h2,hl,fun _=>ev⟩⟩,DR.wrote hb hc hW hg⟩
end
def DBlk (w:World) (g:Nat) (a b M:Int) (x:PSc):Prop:=∃ A c m,BlkT w g (Vc a b M A x.t.length c m) tDoc∧DTree w (.slice A x.t.length c) x.t∧DMap w m (has x.t) x.nd
theorem DBlk.below {w w':World} {g:Nat} {a b M:Int} {x:PSc} (h:DBlk w g a b M x) (hb:Below w.heap.size w w'):DBlk w' g a b M x:=by
 obtain ⟨A,c,m,h1,h2,h3⟩:=h;exact ⟨A,c,m,h1.stays (hb.block _ h1.inside),h2.below hb,h3.below hb⟩
theorem DocAt.ex {w:World} {v:Value} {a b M:Int} {x:PSc} (h:DocAt w v a b M x):∃ A c m,v=.agg (Vc a b M A x.t.length c m).toArray∧DTree w (.slice A x.t.length c) x.t∧DMap w m (has x.t) x.nd:=by
 obtain ⟨tv,m,rfl,⟨A,c,rfl,h1⟩,h2⟩:=h;exact ⟨A,c,m,rfl,⟨A,c,rfl,h1⟩,h2⟩
theorem DBlk.doc {w:World} {a b M:Int} {x:PSc} {A:Option Addr} {c m:Nat} (h1:DTree w (.slice A x.t.length c) x.t) (h2:DMap w m (has x.t) x.nd):DocAt w (.agg (Vc a b M A x.t.length c m).toArray) a b M x:=⟨_,m,rfl,h1,h2⟩
theorem dcs_px (a b M:Int) (A:Option Addr) (n c:Nat) (m:Option Nat):noPx [.int .i64 a,.int .i64 b,.int .i64 M,.slice A n c,.map m]:=by unfold noPx;simp
theorem DocAt.like2 {w:World} {v:Value} {a b M:Int} {x y:PSc} (h:DocAt w v a b M x) (h1:likeW y x):DocAt w v a b M y:=h.like h1.1 h1.2
def OpR.dcs (q:OpR):List Value:=q.o.dcs q.A q.c
theorem OpR.dcs_len (q:OpR):q.dcs.length=24:=rfl
structure OpsD (w:World) (A:Option Addr) (l:List OpR):Prop where
 row:SRow 24 OpR.dcs w A l
 px:∀ q∈l,PxR w q.A q.o.lk.l
theorem OpsD.below {w w':World} {A:Option Addr} {l:List OpR} (h:OpsD w A l) (hb:Below w.heap.size w w'):OpsD w' A l:=⟨SRow.below h.row hb,fun q hq=>(h.px q hq).below hb⟩
theorem OpsD.dr {B:Nat} {w w':World} {A:Option Addr} {l:List OpR} (h:OpsD w A l) (hr:DR B w w'):OpsD w' A l:=by
 refine ⟨fun hn=>?_,fun q hq=>(h.px q hq).dr hr⟩;obtain ⟨b,off,e,hc⟩:=h.row hn;refine ⟨b,off,e,fun j hj i v hv=>?_⟩;have h0:=hc 0 hn 20 (.int .u32 ((l[0]).o.lk.p:Nat)) rfl;have hlt:=World.block_lt_of_cell? w ⟨b,_,none⟩ h0;simp only at hlt;have h2:w.heap[b]?=some w.heap[b]:=Array.getElem?_eq_getElem hlt
 have h4:=hr.same _ _ h2 (by
  rintro ⟨cs,fz,e2,hp⟩;unfold World.cell? at h0;rw [h2,e2] at h0;simp only at h0;have h3:cs[off+0*24+20]?=some (.int .u32 ((l[0]).o.lk.p:Nat)):=by simpa using h0
  exact hp _ (List.mem_of_getElem? (by rw [Array.getElem?_toList];exact h3)) _ rfl)
 exact (World.cell?_of_block (a:=⟨b,_,none⟩) (h4.trans h2.symm)).trans (hc j hj i v hv)
end
end Go.Proofs.YthpifjcddgmjnaaGreat
