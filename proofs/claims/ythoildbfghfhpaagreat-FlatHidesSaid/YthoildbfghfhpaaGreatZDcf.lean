import Derived.Test.YthoildbfghfhpaaGreatZDcd
set_option maxHeartbeats 16000000
set_option maxRecDepth 100000
open Go.Proofs.Tryz
namespace Go.Proofs.YthoildbfghfhpaaGreat
section
open Go.RowKit pxm imm trm Go.Maps
theorem VM.not_b {w:World} {m g:Nat} {es:LV} {cs:List Value} (h:VM w m es) (hb:Blk w g cs):g≠m:=fun e=>by
 obtain ⟨es',clock,h1,_⟩:=h.own;obtain ⟨T,hT⟩:=hb;rw [e] at hT;have:=hT.symm.trans h1;cases this
theorem DMap.not_b {w:World} {m g:Nat} {H:Int->Bool} {nd:Int->Nd} {cs:List Value} (h:DMap w m H nd) (hb:Blk w g cs):g≠m:=by
 obtain ⟨es,h1,-⟩:=h.ex;exact h1.not_b hb
theorem pick_px {w:World} {o:Op9} {Ao An:Option Addr} {n:Nd} (h1:PxR w Ao o.lk.l) (h2:PxR w An n.lk.l):PxR w (pick7 o Ao An) (setN n o).lk.l:=by
 by_cases h7:o.k=7
 ·have e:(setN n o).lk=o.lk:=by unfold setN;rw [if_neg (by omega),if_neg (by omega),if_neg (by omega),if_pos h7]
  rw [e,show pick7 o Ao An=Ao from if_pos h7];exact h1
 ·rw [setN_lk h7,show pick7 o Ao An=An from if_neg h7];exact h2
def noPx (cs:List Value):Prop:=∀ c∈cs,∀ z,c≠.int .u32 z
theorem DPl.wrote {w w':World} {g:Nat} {cs:List Value} {v:Value} {n:Nd} (h:DPl w v n) (hb:Blk w g cs) (hc:noPx cs) (hW:Wrote g w w'):DPl w' v n:=by
 obtain ⟨A,c,e,hr⟩:=h;refine ⟨A,c,e,hr.stays fun a ea hne=>hW.far fun e2=>?_⟩;obtain ⟨b,off,e3,hcl⟩:=hr.row (List.length_pos_iff.2 hne);rw [ea] at e3;obtain rfl:=Option.some.inj e3;have h1:=hcl 0 (List.length_pos_iff.2 hne);obtain rfl:b=g:=e2;have h2:=hb.cell (off+0);rw [h1] at h2;exact hc _ (List.mem_of_getElem? h2.symm) _ rfl
theorem DMap.wrote {w w':World} {m g:Nat} {H:Int->Bool} {nd:Int->Nd} {cs:List Value} (h:DMap w m H nd) (hb:Blk w g cs) (hc:noPx cs) (hW:Wrote g w w'):DMap w' m H nd:=by
 have hne:=h.not_b hb;obtain ⟨es,h1,h2,h3⟩:=h.ex;refine ⟨es,h1.stays (hW.far (Ne.symm hne)),h2,fun i hi=>?_⟩;obtain ⟨v,e,hv⟩:=h3 i hi;exact ⟨v,e,hv.wrote hb hc hW⟩
theorem DTree.wrote {w w':World} {g:Nat} {v:Value} {t:T} {cs:List Value} {T:TypeId} (h:DTree w v t) (hb:BlkT w g cs T) (hT:T≠132) (hW:Wrote g w w'):DTree w' v t:=
 h.stays fun _ _ _ _ hy ea=>hW.far (hy.not_blk ea hb hT)
theorem DTree.grown {w w':World} {m:Nat} {v:Value} {t:T} {H:Int->Bool} {nd:Int->Nd} (h:DTree w v t) (hm:DMap w m H nd) (hg:w.grownBy w' (some m)):DTree w' v t:=
 h.stays fun _ _ a _ hy ea=>hg.block _ (by obtain ⟨cs,fz,h1⟩:=hy a ea;exact lt_of_block h1) fun e=>by
  obtain ⟨cs,fz,h1⟩:=hy a ea;obtain ⟨es,⟨_,⟨es',clock,h2,_⟩,_⟩,_⟩:=hm.ex;have e3:a.block=m:=by simpa using e
  rw [e3] at h1;have:=h1.symm.trans h2;cases this
theorem DocAt.wrote {w w':World} {v:Value} {wi hei M:Int} {x:PSc} {g:Nat} {cs:List Value} {T:TypeId} (h:DocAt w v wi hei M x) (hb:BlkT w g cs T) (hT:T≠132) (hc:noPx cs) (hW:Wrote g w w'):DocAt w' v wi hei M x:=by
 obtain ⟨tv,m,e,h1,h2⟩:=h;exact ⟨tv,m,e,h1.wrote hb hT hW,h2.wrote hb.blk hc hW⟩
theorem blkT_at (w:World) (g:Nat) (hg:g=w.heap.size) (cs:List Value) (T:TypeId):BlkT (w.alloc (.cells cs.toArray T)) g cs T:=hg ▸ BlkT.new w cs T
theorem DTree.srow {w:World} {A:Option Addr} {c:Nat} {t:T} (h:DTree w (.slice A t.length c) t):RRow w A t:=by
 obtain ⟨A',c',e,hr,_⟩:=h
 injection e with e _ _
 rw [e];exact hr
def DSh (v:Value):Prop:=∃ cs:List Value,v=.agg cs.toArray∧cs.length=5∧noPx cs∧cs.all (·.oneCell')=true
theorem dsh (wi hei M:Int) (A:Option Addr) (n c:Nat) (m:Option Nat):DSh (.agg #[.int .i64 wi,.int .i64 hei,.int .i64 M,.slice A n c,.map m]):=⟨[.int .i64 wi,.int .i64 hei,.int .i64 M,.slice A n c,.map m],rfl,rfl,by unfold noPx;simp,rfl⟩
structure MJ (B:Nat) (old:List (Nat×List Value)) (m:Nat) (H:Int->Bool) (nd nd':Int->Nd) (tv:Value) (t:T) (gr:Nat) (d:Bool) (w:World):Prop where
 old:JBs old w
 bsz:B<=w.heap.size
 no:d=false->DMap w m H nd
 yes:d=true->DMap w m H nd'
 tr:DTree w tv t
 rt:BlkT w gr Vf tDoc
theorem MJ.below {B:Nat} {old:List (Nat×List Value)} {m:Nat} {H:Int->Bool} {nd nd':Int->Nd} {tv:Value} {t:T} {gr:Nat} {d:Bool} {w w':World} (h:MJ B old m H nd nd' tv t gr d w) (hb:Below w.heap.size w w'):MJ B old m H nd nd' tv t gr d w':=
 ⟨h.old.below hb,Nat.le_trans h.bsz hb.size,fun e=>(h.no e).below hb,fun e=>(h.yes e).below hb,h.tr.below hb,h.rt.stays (hb.block _ h.rt.inside)⟩
theorem JBs.grown {w w':World} {m:Nat} {H:Int->Bool} {nd:Int->Nd} (hm:DMap w m H nd) (hg:w.grownBy w' (some m)):∀ {old:List (Nat×List Value)},JBs old w->JBs old w'
 | [],_=>trivial
 | _::_,h=>⟨h.1.stays (hg.block _ h.1.inside fun e=>hm.not_b h.1 (Option.some.inj e)),JBs.grown hm hg h.2⟩
theorem MJ.store {B:Nat} {old:List (Nat×List Value)} {m:Nat} {H:Int->Bool} {nd:Int->Nd} {tv:Value} {u t:T} {gr:Nat} {w:World} {i:Int} {n:Nd} {v:Value} (h:MJ B old m H nd (upd nd i n) tv u gr false w) (hH:∀ i,H i=has t i) (hn:t.length<=100000) (hi:I64 i) (hh:H i=true) (hv:DPl w v n) (hm:B<=m) :
  ∃ w',(Instr.mapUpdate tDNs (.map (some m)) (.int .i64 i) v).run prog w=.ok () w'∧MJ B old m H nd (upd nd i n) tv u gr true w'∧Below B w w':=by
 have h0:=h.no rfl;obtain ⟨w',hrun,hd,hg⟩:=h0.store hH hn hi hh hv;refine ⟨w',hrun,⟨JBs.grown h0 hg h.old,Nat.le_trans h.bsz hg.size,nofun,fun _=>hd,h.tr.grown h0 hg,h.rt.stays (hg.block _ h.rt.inside fun e=>h0.not_b h.rt.blk (Option.some.inj e))⟩,bR.grown hg h.bsz fun j e=>by cases e;exact hm⟩
def DoDQ (wi hei M:Int) (r:PSc×Int) (w:World) (e:Ending) (w':World):Prop:=∃ v',e=.returned (.tuple #[v',.int .i64 r.2])∧DSh v'∧(r.2=0->DocAt w' v' wi hei M r.1)∧Below w.heap.size w w'
theorem ddo_1 (o:Op9) (Ao:Option Addr) (co:Nat) (wi hei M:Int) (tv:Value) (x:PSc) (m:Nat) (ok:Ok x.t) (hn:x.t.length<=900) (hg:Good x) (hfx:∀ i,Fit (x.nd i)) (ho:OpOk o) (w:World) (hr:PxR w Ao o.lk.l) (ht:DTree w tv x.t) (hm:DMap w m (has x.t) x.nd) (h1:o.k=1):Calls prog 80 #[.agg #[.int .i64 wi,.int .i64 hei,.int .i64 M,tv,.map (some m)],.agg (o.dcs Ao co).toArray] w (DoDQ wi hei M (doS M x o) w):=by
 obtain ⟨At,ct,rfl,hrt,hy⟩:=ht
 have HT:Hid (DTree w (.slice At x.t.length ct) x.t):=⟨At,ct,rfl,hrt,hy⟩
 have HM0:=Hd hm;have HR:=Hd hr;have HOK:=Hd ok;have HN:=Hd hn;have HG:=Hd hg;have HFX:=Hd hfx;have HO:=Hd ho;unfold DoDQ
 obtain ⟨R,hR⟩:∃ R,doS M x o=R:=⟨_,rfl⟩
 have HE:=Hd hR;rw [hR];clear hR hm hr hrt hy ok hn hg hfx ho;have HB0:Hid (Below w.heap.size w (((w.alloc (.cells (Vb wi hei M At x.t.length ct m).toArray 34)).alloc (.cells (o.dcs Ao co).toArray 193)).alloc (.cells Vf.toArray 34))):=((bR.alloc nR _).alloc (by simp) _).alloc (by simp;omega) _;have HKs:Hid (BlkT (((w.alloc (.cells (Vb wi hei M At x.t.length ct m).toArray 34)).alloc (.cells (o.dcs Ao co).toArray 193)).alloc (.cells Vf.toArray 34)) w.heap.size (Vb wi hei M At x.t.length ct m) 34):=((BlkT.new w (Vb wi hei M At x.t.length ct m) 34).al _).al _
 have HKo:Hid (Blk (((w.alloc (.cells (Vb wi hei M At x.t.length ct m).toArray 34)).alloc (.cells (o.dcs Ao co).toArray 193)).alloc (.cells Vf.toArray 34)) (w.heap.size+1) (o.dcs Ao co)):=(blk_at (w.alloc _) _ (by simp) (o.dcs Ao co) _).alloc _;have HKr:Hid (BlkT (((w.alloc (.cells (Vb wi hei M At x.t.length ct m).toArray 34)).alloc (.cells (o.dcs Ao co).toArray 193)).alloc (.cells Vf.toArray 34)) (w.heap.size+2) Vf 34):=blkT_at ((w.alloc _).alloc _) _ (by simp) Vf 34;go_enter func80,ntmps80
 go_upto_region 1 with (fail)
 generalize (((w.alloc (.cells (Vb wi hei M At x.t.length ct m).toArray 34)).alloc (.cells (o.dcs Ao co).toArray 193)).alloc (.cells Vf.toArray 34))=w0 at *;have c0:=HKo.o.c 0 rfl;have c1:=HKo.o.c 1 rfl;have c2:=HKo.o.c 2 rfl;have c3:=HKo.o.c 3 rfl;have ci:w.heap.size+1<w0.heap.size:=HKo.o.inside;have s3:w0.cell? ⟨w.heap.size,3,none⟩=some (.slice At x.t.length ct):=HKs.o.blk.cell 3;have si:w.heap.size<w0.heap.size:=HKs.o.inside;have t1:(o.k==1)=true:=by simpa using h1
 have HE1:Hid (R=createS M x o.i o.p o.n):=by show _=_;rw [← HE.o];unfold doS;rw [if_pos h1]
 clear h1 HE;go_wp2_with (fail);refine (dadd _ x.t o.i o.p o.n w0 (HT.o.below HB0.o) (by have:=HN.o;omega)).mono ?_;rintro e w1 ⟨v1,rfl,hd1,hb1⟩;have HB1:=Hd (HB0.o.trans (hb1.mono HB0.o.size));have HKs1:=Hd (BlkT.stays HKs.o ((hb1).block _ HKs.o.inside));have HKr1:=Hd (BlkT.stays HKr.o ((hb1).block _ HKr.o.inside));have HKo1:=Hd (HKo.o.below' hb1);clear hb1 HKs HKo HKr HB0 c0 c1 c2 c3 ci s3 si
 obtain ⟨⟨t1',e1⟩,hq⟩:∃ q,addS x.t o.i o.p o.n=q:=⟨_,rfl⟩
 have HQ:=Hd hq;unfold createS at HE1;rw [hq] at HE1 hd1 ⊢;simp only at HE1 hd1 ⊢;clear hq;obtain ⟨A1,n1,rfl,hr1,hy1⟩:=hd1
 have HD1:Hid (DTree w1 (.slice A1 t1'.length n1) t1'):=⟨A1,n1,rfl,hr1,hy1⟩
 clear hr1 hy1;by_cases he:¬ e1=0
 ·have q:(e1==0)=false:=by simpa using he
  have HE2:Hid (R=(x,e1)):=by show _=_;rw [HE1.o,if_pos he]
  have HNE:=Hd he;clear HE1 he;go_wp2_with (first | (with_reducible refine gL ?_;first | (refine wt 34 0 rfl rfl rfl HKs1.o.blk ((Vb wi hei M At x.t.length ct m)) rfl underlying34 rfl ?_)) | (with_reducible refine gS ?_;first | (refine wpl_stow 34 _ _ rfl rfl rfl _ 0 rfl ((Vb wi hei M At x.t.length ct m)) rfl (Vf) HKr1.o.blk ((Vb wi hei M At x.t.length ct m)) rfl (nE rfl) (by kernel_rfl) rfl ?_;intro w2 HW2 HK2)));rw [HE2.o]
  exact blk_ret2 rfl rfl rfl HK2.o underlying34 rfl (by kernel_rfl) ⟨_,rfl,dsh _ _ _ _ _ _ _,fun e=>absurd e HNE.o,HW2.o.below HB1.o (by omega)⟩
 ·obtain rfl:e1=0:=Decidable.not_not.1 he;clear he;have q:((0:Int)==0)=true:=by decide
  obtain ⟨bk1,bk2,bk3,bk4,-,-⟩:=addS_back HOK.o HQ.o;have HLN:=Hd (addS_len HOK.o HQ.o);have HHB:Hid (∀ j,has t1' j=true↔j=o.i∨has x.t j=true):=bk4;have HOK1:=Hd bk1;have HTI:Hid (has t1' o.i=true):=has_iff.2 (.inr bk2);clear bk1 bk2 bk3 bk4;rw [if_neg (by decide)] at HE1;have hxn:(x.t.length:Int)<=900:=by have:=HN.o;omega
  have s2:w1.cell? ⟨w.heap.size,2,none⟩=some (.int .i64 M):=HKs1.o.blk.cell 2;have s3:w1.cell? ⟨w.heap.size,3,none⟩=some (.slice At x.t.length ct):=HKs1.o.blk.cell 3;have si:w.heap.size<w1.heap.size:=HKs1.o.inside;by_cases hM:M<((x.t.length+2:Nat):Int)
  ·have q2:decide (M<=(x.t.length:Int)+1)=true:=decide_eq_true (by omega);have HE2:Hid (R=(x,36)):=by show _=_;rw [HE1.o,if_pos hM]
   clear HE1 hM;go_wp2_with (first | (with_reducible refine gL ?_;first | (refine wt 34 0 rfl rfl rfl HKs1.o.blk ((Vb wi hei M At x.t.length ct m)) rfl underlying34 rfl ?_)) | (with_reducible refine gS ?_;first | (refine wpl_stow 34 _ _ rfl rfl rfl _ 0 rfl ((Vb wi hei M At x.t.length ct m)) rfl (Vf) HKr1.o.blk ((Vb wi hei M At x.t.length ct m)) rfl (nE rfl) (by kernel_rfl) rfl ?_;intro w2 HW2 HK2)));rw [HE2.o]
   exact blk_ret2 rfl rfl rfl HK2.o underlying34 rfl (by kernel_rfl) ⟨_,rfl,dsh _ _ _ _ _ _ _,fun e=>absurd (show (36:Int)=0 from e) (by decide),HW2.o.below HB1.o (by omega)⟩
  ·have q2:decide (M<=(x.t.length:Int)+1)=false:=decide_eq_false (by omega);have HE2:Hid (R=(⟨t1',upd x.nd o.i Nd.plain,upd x.ws o.i Mp.o⟩,0)):=by show _=_;rw [HE1.o,if_neg hM]
   clear HE1 hM;have f3:w1.frozen? ⟨w.heap.size,3,none⟩=false:=HKs1.o.blk.free 3
   go_upto_region 8 with (fail)
   have HS:Hid (Wrote w.heap.size w1 (w1.setCell ⟨w.heap.size,3,none⟩ (.slice A1 t1'.length n1))):=⟨3,[.slice A1 t1'.length n1],rfl⟩
   have HKs2:Hid (BlkT (w1.setCell ⟨w.heap.size,3,none⟩ (.slice A1 t1'.length n1)) w.heap.size (Vb wi hei M A1 t1'.length n1 m) 34):=HKs1.o.set 3 _;generalize hwq:(w1.setCell ⟨w.heap.size,3,none⟩ (.slice A1 t1'.length n1))=w2 at *;clear hwq;have HB2:Hid (Below w.heap.size w w2):=HS.o.below HB1.o nR;have HKr2:Hid (BlkT w2 (w.heap.size+2) Vf 34):=HKr1.o.stays (HS.o.far (by omega));have HKo2:=Hd (HS.o.blk (show w.heap.size+1≠w.heap.size by omega) HKo1.o);have HD2:Hid (DTree w2 (.slice A1 t1'.length n1) t1'):=HD1.o.wrote HKs1.o (by decide) HS.o
   go_wp2_with (first | (with_reducible refine gL ?_;first | (refine wt 34 0 rfl rfl rfl HKs2.o.blk ((Vb wi hei M A1 t1'.length n1 m)) rfl underlying34 rfl ?_)));refine (dcopied_any wi hei M _ t1' m (has x.t) x.nd HOK1.o (by have:=HLN.o;have:=HN.o;omega) w2 HD2.o (HM0.o.below HB2.o)).mono ?_;rintro e w3 ⟨m',rfl,hdm,hbq,hmq⟩;have HDM3:=Hd hdm;have HMG3:Hid (w.heap.size<=m'):=Nat.le_trans HB2.o.size hmq;have HD3:=Hd (HD2.o.below hbq);have HB3:=Hd (HB2.o.trans (hbq.mono HB2.o.size));have HKs3:=Hd (BlkT.stays HKs2.o ((hbq).block _ HKs2.o.inside))
   have HKr3:=Hd (BlkT.stays HKr2.o ((hbq).block _ HKr2.o.inside));have HKo3:=Hd (HKo2.o.below' hbq);clear hdm hbq hmq s2 s3 si f3 HKs2 HKr2 HKo2 HD2 HB2 HS HKs1 HKr1 HKo1 HD1 HB1;have HMM:Hid (w.heap.size+2≠m'):=HDM3.o.not_b HKr3.o.blk
   go_upto_region 9 with (first | (with_reducible refine gS ?_;first | (refine wpl_stow 34 _ _ rfl rfl rfl _ 0 rfl ((Vb wi hei M A1 t1'.length n1 m')) rfl ((Vb wi hei M A1 t1'.length n1 m)) HKs3.o.blk ((Vb wi hei M A1 t1'.length n1 m')) rfl (nE rfl) (by kernel_rfl) rfl ?_;intro w4 HW4 HK4)))
   have HD4:Hid (DTree w4 (.slice A1 t1'.length n1) t1'):=HD3.o.wrote HKs3.o (by decide) HW4.o;have HDM4:Hid (DMap w4 m' (has t1') (ndH (has x.t) x.nd)):=HDM3.o.wrote HKs3.o.blk (by unfold noPx;simp) HW4.o;have HB4:Hid (Below w.heap.size w w4):=HW4.o.below HB3.o nR;have HKr4:Hid (BlkT w4 (w.heap.size+2) Vf 34):=HKr3.o.stays (HW4.o.far (by omega));have HKo4:=Hd (HW4.o.blk (show w.heap.size+1≠w.heap.size by omega) HKo3.o)
   have HJ0:Hid (MJ w.heap.size [(w.heap.size,(Vb wi hei M A1 t1'.length n1 m')),(w.heap.size+1,o.dcs Ao co),(w.heap.size+2,Vf)] m' (has t1') (ndH (has x.t) x.nd) (upd (ndH (has x.t) x.nd) o.i Nd.plain) (.slice A1 t1'.length n1) t1' (w.heap.size+2) false w4):=⟨⟨HK4.o,HKo4.o,HKr4.o.blk,trivial⟩,HB4.o.size,fun _=>HDM4.o,nofun,HD4.o,HKr4.o⟩
   have HMG:Hid (w.heap.size<=m'):=HMG3.o;have HMI:Hid (t1'.length<=100000):=by have:=HLN.o;have:=HN.o;show _<=_;omega
   refine wR (Below w.heap.size) (fun L wx=>MJ w.heap.size [(w.heap.size,(Vb wi hei M A1 t1'.length n1 m')),(w.heap.size+1,o.dcs Ao co),(w.heap.size+2,Vf)] m' (has t1') (ndH (has x.t) x.nd) (upd (ndH (has x.t) x.nd) o.i Nd.plain) (.slice A1 t1'.length n1) t1' (w.heap.size+2) (L 5) wx) [46,47,48,49,50] (fun _=>bR) (fun _ _ _ h k=>h.trans k) (fun i=>match i with
    |0=>rp w.heap.size 4
    |1=>rV (.map (some m'))
    |2=>rp (w.heap.size+1) 1
    |3=>rV (.int .i64 o.i)
    |4=>rV (.agg (Nd.plain.cs none 0).toArray)
    | _=>ra) (bR.drew) (HJ0.o.below bR.drew) ⟨?_,?_,?_,?_,?_,?_,trivial⟩ ?_
   any_goals (first|refine zp fun L a w1 hh=>?_|fail)
   have h2:=hh.p 2 w.heap.size 0;have i0:=(hh.st.old.1).inside;rotate_left;have h46:=rq (hh.d 0 46);have ⟨c0,i0⟩:=(hh.st.old.1).ci 4 rfl;rotate_left;have h3:=hh.p 3 ((w.heap.size+1)) 0;have i0:=(hh.st.old.2.1).inside;rotate_left;have h48:=rq (hh.d 2 48);have ⟨c0,i0⟩:=(hh.st.old.2.1).ci 1 rfl;rotate_left
   ·have hC:=Hd (dplain_any w1);have hJ:=hh.j;clear hh;go_simp;refine hC.o.mono ?_;rintro e w9 ⟨rfl,hb9⟩;exact ⟨_,rfl,hb9.mono hJ.o.bsz,rfl,hJ.o.below hb9⟩
   ·have h47:=rq (hh.d 1 47);have h49:=rq (hh.d 3 49);have h50:=rq (hh.d 4 50);have hj:=hh.st;rw [hh.un] at hj;obtain ⟨w9,hrun,hj9,hb9⟩:=hj.store (n:=Nd.plain) (fun _=>rfl) HMI.o HO.o.i HTI.o ⟨none,0,rfl,PxR.none_ rfl⟩ HMG.o;unfold Nd.v at hrun;have hJ9:=Hd hj9;have hB9:=Hd hb9;clear hh hj hj9 hb9;go_simp;exact ⟨hB9.o,⟨undef,trivial⟩,hJ9.o⟩
   any_goals (have hJ:=hh.j;clear hh;go_simp;exact ⟨_,rfl,bR,rfl,hJ.o⟩)
   intro L w5 val hL hJ hR hv;have HR5:=Hd hR;have hj5:=hJ;rw [hL 5 (by decide)] at hj5;have HJ5:=Hd hj5;clear hv hL hJ hR hj5;simp only [regs.putAll,List.map_cons,List.map_nil];simp only [Act.put,List.setIfInBounds_toArray,List.set_cons_zero,List.set_cons_succ]
   skip
   have HKs5:=Hd HJ5.o.old.1;have HKr5:=Hd HJ5.o.old.2.2.1;have HB5:Hid (Below w.heap.size w w5):=HB4.o.trans HR5.o;have HKrT:Hid (BlkT w5 (w.heap.size+2) Vf 34):=HJ5.o.rt
   have HDC:Hid (DocAt w5 (.agg (Vb wi hei M A1 t1'.length n1 m').toArray) wi hei M ⟨t1',upd x.nd o.i Nd.plain,upd x.ws o.i Mp.o⟩):=⟨_,m',rfl,HJ5.o.tr,(HJ5.o.yes rfl).alike (fun _=>rfl) fun j hj=>by
    show upd x.nd o.i Nd.plain j=upd (ndH (has x.t) x.nd) o.i Nd.plain j;by_cases e:j=o.i
    ·rw [e,upd_same,upd_same]
    ·rw [upd_ne _ e,upd_ne _ e]
     exact (if_pos (((HHB.o j).1 hj).resolve_left e)).symm⟩
   go_wp2_with (first | (with_reducible refine gL ?_;first | (refine wt 34 0 rfl rfl rfl HKs5.o ((Vb wi hei M A1 t1'.length n1 m')) rfl underlying34 rfl ?_)) | (with_reducible refine gS ?_;first | (refine wpl_stow 34 _ _ rfl rfl rfl _ 0 rfl ((Vb wi hei M A1 t1'.length n1 m')) rfl (Vf) HKr5.o ((Vb wi hei M A1 t1'.length n1 m')) rfl (nE rfl) (by kernel_rfl) rfl ?_;intro w6 HW6 HK6)));rw [HE2.o]
   exact blk_ret2 rfl rfl rfl HK6.o underlying34 rfl (by kernel_rfl) ⟨_,rfl,dsh _ _ _ _ _ _ _,fun _=>HDC.o.wrote HKrT.o (by decide) (by unfold noPx;simp) HW6.o,HW6.o.below HB5.o (by omega)⟩
theorem ddo_2 (o:Op9) (Ao:Option Addr) (co:Nat) (wi hei M:Int) (tv:Value) (x:PSc) (m:Nat) (ok:Ok x.t) (hn:x.t.length<=900) (hg:Good x) (hfx:∀ i,Fit (x.nd i)) (ho:OpOk o) (w:World) (hr:PxR w Ao o.lk.l) (ht:DTree w tv x.t) (hm:DMap w m (has x.t) x.nd) (h2:o.k=2):Calls prog 80 #[.agg #[.int .i64 wi,.int .i64 hei,.int .i64 M,tv,.map (some m)],.agg (o.dcs Ao co).toArray] w (DoDQ wi hei M (doS M x o) w):=by
 have h1:¬ o.k=1:=by omega
 obtain ⟨At,ct,rfl,hrt,hy⟩:=ht
 have HT:Hid (DTree w (.slice At x.t.length ct) x.t):=⟨At,ct,rfl,hrt,hy⟩
 have HM0:=Hd hm;have HR:=Hd hr;have HOK:=Hd ok;have HN:=Hd hn;have HG:=Hd hg;have HFX:=Hd hfx;have HO:=Hd ho;unfold DoDQ
 obtain ⟨R,hR⟩:∃ R,doS M x o=R:=⟨_,rfl⟩
 have HE:=Hd hR;rw [hR];clear hR hm hr hrt hy ok hn hg hfx ho;have HB0:Hid (Below w.heap.size w (((w.alloc (.cells (Vb wi hei M At x.t.length ct m).toArray 34)).alloc (.cells (o.dcs Ao co).toArray 193)).alloc (.cells Vf.toArray 34))):=((bR.alloc nR _).alloc (by simp) _).alloc (by simp;omega) _;have HKs:Hid (BlkT (((w.alloc (.cells (Vb wi hei M At x.t.length ct m).toArray 34)).alloc (.cells (o.dcs Ao co).toArray 193)).alloc (.cells Vf.toArray 34)) w.heap.size (Vb wi hei M At x.t.length ct m) 34):=((BlkT.new w (Vb wi hei M At x.t.length ct m) 34).al _).al _
 have HKo:Hid (Blk (((w.alloc (.cells (Vb wi hei M At x.t.length ct m).toArray 34)).alloc (.cells (o.dcs Ao co).toArray 193)).alloc (.cells Vf.toArray 34)) (w.heap.size+1) (o.dcs Ao co)):=(blk_at (w.alloc _) _ (by simp) (o.dcs Ao co) _).alloc _;have HKr:Hid (BlkT (((w.alloc (.cells (Vb wi hei M At x.t.length ct m).toArray 34)).alloc (.cells (o.dcs Ao co).toArray 193)).alloc (.cells Vf.toArray 34)) (w.heap.size+2) Vf 34):=blkT_at ((w.alloc _).alloc _) _ (by simp) Vf 34;go_enter func80,ntmps80
 go_upto_region 1 with (fail)
 generalize (((w.alloc (.cells (Vb wi hei M At x.t.length ct m).toArray 34)).alloc (.cells (o.dcs Ao co).toArray 193)).alloc (.cells Vf.toArray 34))=w0 at *;have c0:=HKo.o.c 0 rfl;have c1:=HKo.o.c 1 rfl;have ci:w.heap.size+1<w0.heap.size:=HKo.o.inside;have s3:w0.cell? ⟨w.heap.size,3,none⟩=some (.slice At x.t.length ct):=HKs.o.blk.cell 3;have si:w.heap.size<w0.heap.size:=HKs.o.inside;have t1:(o.k==1)=false:=by simpa using h1
 have t2:(o.k==2)=true:=by simpa using h2
 have HE1:Hid (R=removeS x o.i):=by show _=_;rw [← HE.o];unfold doS;rw [if_neg h1,if_pos h2]
 clear h1 h2 HE;go_wp2_with (fail);refine (drem _ x.t o.i w0 HOK.o (HT.o.below HB0.o) (by have:=HN.o;omega)).mono ?_;rintro e w1 ⟨v1,u1,rfl,hd1,-,hb1⟩;have HB1:=Hd (HB0.o.trans (hb1.mono HB0.o.size));have HKs1:=Hd (BlkT.stays HKs.o ((hb1).block _ HKs.o.inside));have HKr1:=Hd (BlkT.stays HKr.o ((hb1).block _ HKr.o.inside));have HKo1:=Hd (HKo.o.below' hb1);clear hb1 HKs HKo HKr HB0 c0 c1 ci s3 si;have HRO:=Hd (remS_ok HOK.o o.i)
 obtain ⟨⟨t1',k1,e1⟩,hq⟩:∃ q,remS x.t o.i=q:=⟨_,rfl⟩
 have HQ:=Hd hq;unfold removeS at HE1;rw [hq] at HE1 HRO hd1 ⊢;simp only at HE1 HRO hd1 ⊢;clear hq;obtain ⟨A1,n1,rfl,hr1,hy1⟩:=hd1
 have HD1:Hid (DTree w1 (.slice A1 t1'.length n1) t1'):=⟨A1,n1,rfl,hr1,hy1⟩
 clear hr1 hy1;by_cases he:¬ e1=0
 ·have q:(e1==0)=false:=by simpa using he
  have HE2:Hid (R=(x,e1)):=by show _=_;rw [HE1.o,if_pos he]
  have HNE:=Hd he;clear HE1 he;go_wp2_with (first | (with_reducible refine gL ?_;first | (refine wt 34 0 rfl rfl rfl HKs1.o.blk ((Vb wi hei M At x.t.length ct m)) rfl underlying34 rfl ?_)) | (with_reducible refine gS ?_;first | (refine wpl_stow 34 _ _ rfl rfl rfl _ 0 rfl ((Vb wi hei M At x.t.length ct m)) rfl (Vf) HKr1.o.blk ((Vb wi hei M At x.t.length ct m)) rfl (nE rfl) (by kernel_rfl) rfl ?_;intro w2 HW2 HK2)));rw [HE2.o]
  exact blk_ret2 rfl rfl rfl HK2.o underlying34 rfl (by kernel_rfl) ⟨_,rfl,dsh _ _ _ _ _ _ _,fun e=>absurd e HNE.o,HW2.o.below HB1.o (by omega)⟩
 ·obtain rfl:e1=0:=Decidable.not_not.1 he;clear he;have q:((0:Int)==0)=true:=by decide
  have HE2:Hid (R=(⟨t1',x.nd,x.ws⟩,0)):=by show _=_;rw [HE1.o,if_neg (by decide)]
  have HOK1:Hid (Ok t1'):=HRO.o.1;have HLN:Hid (t1'.length<=x.t.length):=HRO.o.2
  have HHB:Hid (∀ j,has t1' j=true->has x.t j=true):=fun j hj=>by
   obtain ⟨y1,y2⟩:=remS_yes (t:=x.t) (i:=o.i) (by rw [HQ.o]);rw [HQ.o] at y2
   injection y2 with y2 _
   rw [y2] at hj;exact ((has_gone HOK.o y1).1 hj).2
  clear HE1 HRO;have s3:w1.cell? ⟨w.heap.size,3,none⟩=some (.slice At x.t.length ct):=HKs1.o.blk.cell 3;have si:w.heap.size<w1.heap.size:=HKs1.o.inside;have f3:w1.frozen? ⟨w.heap.size,3,none⟩=false:=HKs1.o.blk.free 3
  go_upto_region 16 with (fail)
  have HS:Hid (Wrote w.heap.size w1 (w1.setCell ⟨w.heap.size,3,none⟩ (.slice A1 t1'.length n1))):=⟨3,[.slice A1 t1'.length n1],rfl⟩
  have HKs2:Hid (BlkT (w1.setCell ⟨w.heap.size,3,none⟩ (.slice A1 t1'.length n1)) w.heap.size (Vb wi hei M A1 t1'.length n1 m) 34):=HKs1.o.set 3 _;generalize hwq:(w1.setCell ⟨w.heap.size,3,none⟩ (.slice A1 t1'.length n1))=w2 at *;clear hwq;have HB2:Hid (Below w.heap.size w w2):=HS.o.below HB1.o nR;have HKr2:Hid (BlkT w2 (w.heap.size+2) Vf 34):=HKr1.o.stays (HS.o.far (by omega));have HKo2:=Hd (HS.o.blk (show w.heap.size+1≠w.heap.size by omega) HKo1.o);have HD2:Hid (DTree w2 (.slice A1 t1'.length n1) t1'):=HD1.o.wrote HKs1.o (by decide) HS.o
  go_wp2_with (first | (with_reducible refine gL ?_;first | (refine wt 34 0 rfl rfl rfl HKs2.o.blk ((Vb wi hei M A1 t1'.length n1 m)) rfl underlying34 rfl ?_)));refine (dcopied_any wi hei M _ t1' m (has x.t) x.nd HOK1.o (by have:=HLN.o;have:=HN.o;omega) w2 HD2.o (HM0.o.below HB2.o)).mono ?_;rintro e w3 ⟨m',rfl,hdm,hbq,hmq⟩;have HDM3:=Hd hdm;have HMG3:Hid (w.heap.size<=m'):=Nat.le_trans HB2.o.size hmq;have HD3:=Hd (HD2.o.below hbq);have HB3:=Hd (HB2.o.trans (hbq.mono HB2.o.size));have HKs3:=Hd (BlkT.stays HKs2.o ((hbq).block _ HKs2.o.inside))
  have HKr3:=Hd (BlkT.stays HKr2.o ((hbq).block _ HKr2.o.inside));have HKo3:=Hd (HKo2.o.below' hbq);clear hdm hbq s3 si f3 hmq HKs2 HKr2 HKo2 HD2 HB2 HS HKs1 HKr1 HKo1 HD1 HB1;go_wp2_with (first | (with_reducible refine gS ?_;first | (refine wpl_stow 34 _ _ rfl rfl rfl _ 0 rfl ((Vb wi hei M A1 t1'.length n1 m')) rfl (Vf) HKr3.o.blk ((Vb wi hei M A1 t1'.length n1 m')) rfl (nE rfl) (by kernel_rfl) rfl ?_;intro w4 HW4 HK4)));rw [HE2.o]
  exact blk_ret2 rfl rfl rfl HK4.o underlying34 rfl (by kernel_rfl) ⟨_,rfl,dsh _ _ _ _ _ _ _,fun _=>⟨_,m',rfl,HD3.o.wrote HKr3.o (by decide) HW4.o,(HDM3.o.wrote HKr3.o.blk (by unfold noPx;simp) HW4.o).alike (fun _=>rfl) fun j hj=>(if_pos (HHB.o j hj)).symm⟩,HW4.o.below HB3.o (by omega)⟩
theorem ddo_3 (o:Op9) (Ao:Option Addr) (co:Nat) (wi hei M:Int) (tv:Value) (x:PSc) (m:Nat) (ok:Ok x.t) (hn:x.t.length<=900) (hg:Good x) (hfx:∀ i,Fit (x.nd i)) (ho:OpOk o) (w:World) (hr:PxR w Ao o.lk.l) (ht:DTree w tv x.t) (hm:DMap w m (has x.t) x.nd) (h3:o.k=3):Calls prog 80 #[.agg #[.int .i64 wi,.int .i64 hei,.int .i64 M,tv,.map (some m)],.agg (o.dcs Ao co).toArray] w (DoDQ wi hei M (doS M x o) w):=by
 have h1:¬ o.k=1:=by omega
 have h2:¬ o.k=2:=by omega
 obtain ⟨At,ct,rfl,hrt,hy⟩:=ht
 have HT:Hid (DTree w (.slice At x.t.length ct) x.t):=⟨At,ct,rfl,hrt,hy⟩
 have HM0:=Hd hm;have HR:=Hd hr;have HOK:=Hd ok;have HN:=Hd hn;have HG:=Hd hg;have HFX:=Hd hfx;have HO:=Hd ho;unfold DoDQ
 obtain ⟨R,hR⟩:∃ R,doS M x o=R:=⟨_,rfl⟩
 have HE:=Hd hR;rw [hR];clear hR hm hr hrt hy ok hn hg hfx ho;have HB0:Hid (Below w.heap.size w (((w.alloc (.cells (Vb wi hei M At x.t.length ct m).toArray 34)).alloc (.cells (o.dcs Ao co).toArray 193)).alloc (.cells Vf.toArray 34))):=((bR.alloc nR _).alloc (by simp) _).alloc (by simp;omega) _;have HKs:Hid (BlkT (((w.alloc (.cells (Vb wi hei M At x.t.length ct m).toArray 34)).alloc (.cells (o.dcs Ao co).toArray 193)).alloc (.cells Vf.toArray 34)) w.heap.size (Vb wi hei M At x.t.length ct m) 34):=((BlkT.new w (Vb wi hei M At x.t.length ct m) 34).al _).al _
 have HKo:Hid (Blk (((w.alloc (.cells (Vb wi hei M At x.t.length ct m).toArray 34)).alloc (.cells (o.dcs Ao co).toArray 193)).alloc (.cells Vf.toArray 34)) (w.heap.size+1) (o.dcs Ao co)):=(blk_at (w.alloc _) _ (by simp) (o.dcs Ao co) _).alloc _;have HKr:Hid (BlkT (((w.alloc (.cells (Vb wi hei M At x.t.length ct m).toArray 34)).alloc (.cells (o.dcs Ao co).toArray 193)).alloc (.cells Vf.toArray 34)) (w.heap.size+2) Vf 34):=blkT_at ((w.alloc _).alloc _) _ (by simp) Vf 34;go_enter func80,ntmps80
 go_upto_region 1 with (fail)
 generalize (((w.alloc (.cells (Vb wi hei M At x.t.length ct m).toArray 34)).alloc (.cells (o.dcs Ao co).toArray 193)).alloc (.cells Vf.toArray 34))=w0 at *;have c0:=HKo.o.c 0 rfl;have c1:=HKo.o.c 1 rfl;have c2:=HKo.o.c 2 rfl;have c3:=HKo.o.c 3 rfl;have ci:w.heap.size+1<w0.heap.size:=HKo.o.inside;have s3:w0.cell? ⟨w.heap.size,3,none⟩=some (.slice At x.t.length ct):=HKs.o.blk.cell 3;have si:w.heap.size<w0.heap.size:=HKs.o.inside;have t1:(o.k==1)=false:=by simpa using h1
 have t2:(o.k==2)=false:=by simpa using h2
 have t3:(o.k==3)=true:=by simpa using h3
 have HE1:Hid (R=moveS x o.i o.p o.n):=by show _=_;rw [← HE.o];unfold doS;rw [if_neg h1,if_neg h2,if_pos h3]
 clear h1 h2 h3 HE;go_wp2_with (fail);refine (dmove _ x.t o.i o.p o.n w0 HOK.o (HT.o.below HB0.o) (by have:=HN.o;omega)).mono ?_;rintro e w1 ⟨v1,rfl,hd1,hb1⟩;have HB1:=Hd (HB0.o.trans (hb1.mono HB0.o.size));have HKs1:=Hd (BlkT.stays HKs.o ((hb1).block _ HKs.o.inside));have HKr1:=Hd (BlkT.stays HKr.o ((hb1).block _ HKr.o.inside));have HKo1:=Hd (HKo.o.below' hb1);clear hb1 HKs HKo HKr HB0 c0 c1 c2 c3 ci s3 si
 obtain ⟨⟨t1',e1⟩,hq⟩:∃ q,movS x.t o.i o.p o.n=q:=⟨_,rfl⟩
 have HQ:=Hd hq;unfold moveS at HE1;rw [hq] at HE1 hd1 ⊢;simp only at HE1 hd1 ⊢;clear hq;obtain ⟨A1,n1,rfl,hr1,hy1⟩:=hd1
 have HD1:Hid (DTree w1 (.slice A1 t1'.length n1) t1'):=⟨A1,n1,rfl,hr1,hy1⟩
 clear hr1 hy1
 have HR2:Hid (R.2=e1∧(e1=0->R.1=⟨t1',x.nd,x.ws⟩)):=by
  by_cases he:e1=0
  ·subst he;rw [show R=_ from HE1.o,if_neg (by decide)];exact ⟨rfl,fun _=>rfl⟩
  ·rw [show R=_ from HE1.o,if_pos he];exact ⟨rfl,fun e=>absurd e he⟩
 have HHB:Hid (e1=0->∀ j,has t1' j=has x.t j):=fun he j=>by
  subst he;obtain ⟨y1,y2,-⟩:=movS_yes (t:=x.t) (i:=o.i) (p:=o.p) (n:=o.n) (by rw [HQ.o]);rw [HQ.o] at y1;simp only at y1;rw [Bool.eq_iff_iff,has_iff,has_iff,y1,ids_move y2]
 clear HE1;have s3:w1.cell? ⟨w.heap.size,3,none⟩=some (.slice At x.t.length ct):=HKs1.o.blk.cell 3;have si:w.heap.size<w1.heap.size:=HKs1.o.inside;have f3:w1.frozen? ⟨w.heap.size,3,none⟩=false:=HKs1.o.blk.free 3
 go_upto_region 20 with (fail)
 have HS:Hid (Wrote w.heap.size w1 (w1.setCell ⟨w.heap.size,3,none⟩ (.slice A1 t1'.length n1))):=⟨3,[.slice A1 t1'.length n1],rfl⟩
 have HKs2:Hid (BlkT (w1.setCell ⟨w.heap.size,3,none⟩ (.slice A1 t1'.length n1)) w.heap.size (Vb wi hei M A1 t1'.length n1 m) 34):=HKs1.o.set 3 _;generalize hwq:(w1.setCell ⟨w.heap.size,3,none⟩ (.slice A1 t1'.length n1))=w2 at *;clear hwq;have HB2:Hid (Below w.heap.size w w2):=HS.o.below HB1.o nR;have HKr2:Hid (BlkT w2 (w.heap.size+2) Vf 34):=HKr1.o.stays (HS.o.far (by omega));have HKo2:=Hd (HS.o.blk (show w.heap.size+1≠w.heap.size by omega) HKo1.o);have HD2:Hid (DTree w2 (.slice A1 t1'.length n1) t1'):=HD1.o.wrote HKs1.o (by decide) HS.o;clear s3 si f3
 go_wp2_with (first | (with_reducible refine gL ?_;first | (refine wt 34 0 rfl rfl rfl HKs2.o.blk ((Vb wi hei M A1 t1'.length n1 m)) rfl underlying34 rfl ?_)) | (with_reducible refine gS ?_;first | (refine wpl_stow 34 _ _ rfl rfl rfl _ 0 rfl ((Vb wi hei M A1 t1'.length n1 m)) rfl (Vf) HKr2.o.blk ((Vb wi hei M A1 t1'.length n1 m)) rfl (nE rfl) (by kernel_rfl) rfl ?_;intro w4 HW4 HK4)));rw [HR2.o.1];refine blk_ret2 rfl rfl rfl HK4.o underlying34 rfl (by kernel_rfl) ⟨_,rfl,dsh _ _ _ _ _ _ _,fun e=>?_,HW4.o.below HB2.o (by omega)⟩;rw [HR2.o.2 e]
 exact ⟨_,m,rfl,HD2.o.wrote HKr2.o (by decide) HW4.o,(HM0.o.below (HW4.o.below HB2.o (by omega))).alike (HHB.o e) fun _ _=>rfl⟩
theorem ddo_n (o:Op9) (Ao:Option Addr) (co:Nat) (wi hei M:Int) (tv:Value) (x:PSc) (m:Nat) (ok:Ok x.t) (hn:x.t.length<=900) (hg:Good x) (hfx:∀ i,Fit (x.nd i)) (ho:OpOk o) (w:World) (hr:PxR w Ao o.lk.l) (ht:DTree w tv x.t) (hm:DMap w m (has x.t) x.nd) (h9:¬ (1<=o.k∧o.k<=8)):Calls prog 80 #[.agg #[.int .i64 wi,.int .i64 hei,.int .i64 M,tv,.map (some m)],.agg (o.dcs Ao co).toArray] w (DoDQ wi hei M (doS M x o) w):=by
 have h1:¬ o.k=1:=by omega
 have h2:¬ o.k=2:=by omega
 have h3:¬ o.k=3:=by omega
 obtain ⟨At,ct,rfl,hrt,hy⟩:=ht
 have HT:Hid (DTree w (.slice At x.t.length ct) x.t):=⟨At,ct,rfl,hrt,hy⟩
 have HM0:=Hd hm;have HR:=Hd hr;have HOK:=Hd ok;have HN:=Hd hn;have HG:=Hd hg;have HFX:=Hd hfx;have HO:=Hd ho;unfold DoDQ
 obtain ⟨R,hR⟩:∃ R,doS M x o=R:=⟨_,rfl⟩
 have HE:=Hd hR;rw [hR];clear hR hm hr hrt hy ok hn hg hfx ho;have HB0:Hid (Below w.heap.size w (((w.alloc (.cells (Vb wi hei M At x.t.length ct m).toArray 34)).alloc (.cells (o.dcs Ao co).toArray 193)).alloc (.cells Vf.toArray 34))):=((bR.alloc nR _).alloc (by simp) _).alloc (by simp;omega) _;have HKs:Hid (BlkT (((w.alloc (.cells (Vb wi hei M At x.t.length ct m).toArray 34)).alloc (.cells (o.dcs Ao co).toArray 193)).alloc (.cells Vf.toArray 34)) w.heap.size (Vb wi hei M At x.t.length ct m) 34):=((BlkT.new w (Vb wi hei M At x.t.length ct m) 34).al _).al _
 have HKo:Hid (Blk (((w.alloc (.cells (Vb wi hei M At x.t.length ct m).toArray 34)).alloc (.cells (o.dcs Ao co).toArray 193)).alloc (.cells Vf.toArray 34)) (w.heap.size+1) (o.dcs Ao co)):=(blk_at (w.alloc _) _ (by simp) (o.dcs Ao co) _).alloc _;have HKr:Hid (BlkT (((w.alloc (.cells (Vb wi hei M At x.t.length ct m).toArray 34)).alloc (.cells (o.dcs Ao co).toArray 193)).alloc (.cells Vf.toArray 34)) (w.heap.size+2) Vf 34):=blkT_at ((w.alloc _).alloc _) _ (by simp) Vf 34;go_enter func80,ntmps80
 go_upto_region 1 with (fail)
 generalize (((w.alloc (.cells (Vb wi hei M At x.t.length ct m).toArray 34)).alloc (.cells (o.dcs Ao co).toArray 193)).alloc (.cells Vf.toArray 34))=w0 at *;have c0:=HKo.o.c 0 rfl;have ci:w.heap.size+1<w0.heap.size:=HKo.o.inside;have t1:(o.k==1)=false:=by simpa using h1
 have t2:(o.k==2)=false:=by simpa using h2
 have t3:(o.k==3)=false:=by simpa using h3
 have HE2:Hid (R=(x,38)):=by show _=_;rw [← HE.o];unfold doS;rw [if_neg h1,if_neg h2,if_neg h3,if_neg (by omega)]
 clear h1 h2 h3 HE;by_cases hl:o.k<1
 ·have q1:decide (o.k<1)=true:=decide_eq_true hl;clear hl h9;go_wp2_with (first | (with_reducible refine gL ?_;first | (refine wt 34 0 rfl rfl rfl HKs.o.blk ((Vb wi hei M At x.t.length ct m)) rfl underlying34 rfl ?_)) | (with_reducible refine gS ?_;first | (refine wpl_stow 34 _ _ rfl rfl rfl _ 0 rfl ((Vb wi hei M At x.t.length ct m)) rfl (Vf) HKr.o.blk ((Vb wi hei M At x.t.length ct m)) rfl (nE rfl) (by kernel_rfl) rfl ?_;intro w2 HW2 HK2)));rw [HE2.o]
  exact blk_ret2 rfl rfl rfl HK2.o underlying34 rfl (by kernel_rfl) ⟨_,rfl,dsh _ _ _ _ _ _ _,fun e=>absurd (show (38:Int)=0 from e) (by decide),HW2.o.below HB0.o (by omega)⟩
 ·have q1:decide (o.k<1)=false:=decide_eq_false hl;have q2:decide ((8:Int)<o.k)=true:=decide_eq_true (by omega);clear hl h9;go_wp2_with (first | (with_reducible refine gL ?_;first | (refine wt 34 0 rfl rfl rfl HKs.o.blk ((Vb wi hei M At x.t.length ct m)) rfl underlying34 rfl ?_)) | (with_reducible refine gS ?_;first | (refine wpl_stow 34 _ _ rfl rfl rfl _ 0 rfl ((Vb wi hei M At x.t.length ct m)) rfl (Vf) HKr.o.blk ((Vb wi hei M At x.t.length ct m)) rfl (nE rfl) (by kernel_rfl) rfl ?_;intro w2 HW2 HK2)));rw [HE2.o]
  exact blk_ret2 rfl rfl rfl HK2.o underlying34 rfl (by kernel_rfl) ⟨_,rfl,dsh _ _ _ _ _ _ _,fun e=>absurd (show (38:Int)=0 from e) (by decide),HW2.o.below HB0.o (by omega)⟩
theorem ddo_s (o:Op9) (Ao:Option Addr) (co:Nat) (wi hei M:Int) (tv:Value) (x:PSc) (m:Nat) (ok:Ok x.t) (hn:x.t.length<=900) (hg:Good x) (hfx:∀ i,Fit (x.nd i)) (ho:OpOk o) (w:World) (hr:PxR w Ao o.lk.l) (ht:DTree w tv x.t) (hm:DMap w m (has x.t) x.nd) (h4:4<=o.k∧o.k<=8):Calls prog 80 #[.agg #[.int .i64 wi,.int .i64 hei,.int .i64 M,tv,.map (some m)],.agg (o.dcs Ao co).toArray] w (DoDQ wi hei M (doS M x o) w):=by
 have h1:¬ o.k=1:=by omega
 have h2:¬ o.k=2:=by omega
 have h3:¬ o.k=3:=by omega
 obtain ⟨At,ct,rfl,hrt,hy⟩:=ht
 have HT:Hid (DTree w (.slice At x.t.length ct) x.t):=⟨At,ct,rfl,hrt,hy⟩
 have HM0:=Hd hm;have HR:=Hd hr;have HOK:=Hd ok;have HN:=Hd hn;have HG:=Hd hg;have HFX:=Hd hfx;have HO:=Hd ho;unfold DoDQ
 obtain ⟨R,hR⟩:∃ R,doS M x o=R:=⟨_,rfl⟩
 have HE:=Hd hR;rw [hR];clear hR hm hr hrt hy ok hn hg hfx ho;have HB0:Hid (Below w.heap.size w (((w.alloc (.cells (Vb wi hei M At x.t.length ct m).toArray 34)).alloc (.cells (o.dcs Ao co).toArray 193)).alloc (.cells Vf.toArray 34))):=((bR.alloc nR _).alloc (by simp) _).alloc (by simp;omega) _;have HKs:Hid (BlkT (((w.alloc (.cells (Vb wi hei M At x.t.length ct m).toArray 34)).alloc (.cells (o.dcs Ao co).toArray 193)).alloc (.cells Vf.toArray 34)) w.heap.size (Vb wi hei M At x.t.length ct m) 34):=((BlkT.new w (Vb wi hei M At x.t.length ct m) 34).al _).al _
 have HKo:Hid (Blk (((w.alloc (.cells (Vb wi hei M At x.t.length ct m).toArray 34)).alloc (.cells (o.dcs Ao co).toArray 193)).alloc (.cells Vf.toArray 34)) (w.heap.size+1) (o.dcs Ao co)):=(blk_at (w.alloc _) _ (by simp) (o.dcs Ao co) _).alloc _;have HKr:Hid (BlkT (((w.alloc (.cells (Vb wi hei M At x.t.length ct m).toArray 34)).alloc (.cells (o.dcs Ao co).toArray 193)).alloc (.cells Vf.toArray 34)) (w.heap.size+2) Vf 34):=blkT_at ((w.alloc _).alloc _) _ (by simp) Vf 34;go_enter func80,ntmps80
 go_upto_region 1 with (fail)
 generalize (((w.alloc (.cells (Vb wi hei M At x.t.length ct m).toArray 34)).alloc (.cells (o.dcs Ao co).toArray 193)).alloc (.cells Vf.toArray 34))=w0 at *;have c0:=HKo.o.c 0 rfl;have c1:=HKo.o.c 1 rfl;have ci:w.heap.size+1<w0.heap.size:=HKo.o.inside;have s3:w0.cell? ⟨w.heap.size,3,none⟩=some (.slice At x.t.length ct):=HKs.o.blk.cell 3;have s4:w0.cell? ⟨w.heap.size,4,none⟩=some (.map (some m)):=HKs.o.blk.cell 4;have si:w.heap.size<w0.heap.size:=HKs.o.inside;have t1:(o.k==1)=false:=by simpa using h1
 have t2:(o.k==2)=false:=by simpa using h2
 have t3:(o.k==3)=false:=by simpa using h3
 have HE1:Hid (R=setS x o):=by show _=_;rw [← HE.o];unfold doS;rw [if_neg h1,if_neg h2,if_neg h3,if_pos h4]
 have q1:decide (o.k<1)=false:=decide_eq_false (by omega);have q2:decide ((8:Int)<o.k)=false:=decide_eq_false (by omega);clear h1 h2 h3 h4 HE;go_wp2_with (fail);refine (dhas At x.t ct o.i w0 (DTree.srow (HT.o.below HB0.o)) (by have:=HN.o;omega)).mono ?_;rintro e w1 ⟨rfl,hb1⟩;have HB1:=Hd (HB0.o.trans (hb1.mono HB0.o.size));have HKs1:=Hd (BlkT.stays HKs.o ((hb1).block _ HKs.o.inside));have HKr1:=Hd (BlkT.stays HKr.o ((hb1).block _ HKr.o.inside));have HKo1:=Hd (HKo.o.below' hb1);clear hb1 HKs HKo HKr HB0 c0 c1 ci s3 s4 si q1 q2;unfold setS at HE1
 cases hh:has x.t o.i with
 | false=>
  have HE2:Hid (R=(x,30)):=by show _=_;rw [HE1.o,if_pos hh]
  clear HE1;go_wp2_with (first | (with_reducible refine gL ?_;first | (refine wt 34 0 rfl rfl rfl HKs1.o.blk ((Vb wi hei M At x.t.length ct m)) rfl underlying34 rfl ?_)) | (with_reducible refine gS ?_;first | (refine wpl_stow 34 _ _ rfl rfl rfl _ 0 rfl ((Vb wi hei M At x.t.length ct m)) rfl (Vf) HKr1.o.blk ((Vb wi hei M At x.t.length ct m)) rfl (nE rfl) (by kernel_rfl) rfl ?_;intro w2 HW2 HK2)));rw [HE2.o]
  exact blk_ret2 rfl rfl rfl HK2.o underlying34 rfl (by kernel_rfl) ⟨_,rfl,dsh _ _ _ _ _ _ _,fun e=>absurd (show (30:Int)=0 from e) (by decide),HW2.o.below HB1.o (by omega)⟩
 | true=>
  have HHH:Hid (has x.t o.i=true):=hh;rw [if_neg (by rw [hh];decide)] at HE1;clear hh;obtain ⟨An,cn,hrn,hlk⟩:=HM0.o.look HO.o.i HHH.o;have HLK:=Hd hlk;have HRN:=Hd hrn;have hlk1:=hlk w1 HB1.o;clear hlk hrn;have c1:=HKo1.o.c 1 rfl;have ci:w.heap.size+1<w1.heap.size:=HKo1.o.inside;have s4:w1.cell? ⟨w.heap.size,4,none⟩=some (.map (some m)):=HKs1.o.blk.cell 4;have si:w.heap.size<w1.heap.size:=HKs1.o.inside;go_wp2_with (first | (with_reducible refine gL ?_;first | (refine wt 193 0 rfl rfl rfl HKo1.o (o.dcs Ao co) rfl underlying193 rfl ?_)))
  refine (dset_any o Ao co (x.nd o.i) An cn w1).mono ?_;rintro e w2 ⟨rfl,hb2⟩;have HB2:=Hd (HB1.o.trans (hb2.mono HB1.o.size));have HKs2:=Hd (BlkT.stays HKs1.o ((hb2).block _ HKs1.o.inside));have HKr2:=Hd (BlkT.stays HKr1.o ((hb2).block _ HKr1.o.inside));have HKo2:=Hd (HKo1.o.below' hb2);clear hb2 hlk1 HKs1 HKo1 HKr1 c1 ci s4 si;have HSN:Hid ((setN (x.nd o.i) o).chk=(setN Nd.plain o).chk):=chk_set (HG.o o.i) o;have HFN:Hid (Fit (setN (x.nd o.i) o)):=pick_fit ⟨HO.o.fit.p,HO.o.fit.l,HO.o.fit.len⟩ (HFX.o o.i)
  have HRS:Hid (∀ W,Below w.heap.size w W->PxR W (pick7 o Ao An) (setN (x.nd o.i) o).lk.l):=fun W hb=>pick_px (HR.o.below hb) (HRN.o.below hb)
  obtain ⟨A7,hA7⟩:∃ q,pick7 o Ao An=q:=⟨_,rfl⟩
  obtain ⟨c7,hc7⟩:∃ q,pick7 o co cn=q:=⟨_,rfl⟩
  rw [hA7] at HRS;rw [hA7,hc7];clear hA7 hc7
  obtain ⟨N1,hN1⟩:∃ N1,setN (x.nd o.i) o=N1:=⟨_,rfl⟩
  rw [hN1] at HSN HFN HRS HE1 ⊢;clear hN1;rw [← HSN.o] at HE1;have HZ:Hid (Blk (w2.alloc (.cells Va.toArray 54)) w2.heap.size Va):=blk_new w2 Va _;have HBz:Hid (Below w2.heap.size w2 (w2.alloc (.cells Va.toArray 54))):=bR.alloc nR _
  go_upto_region 26 with (first | (with_reducible refine gS ?_;first | (refine wpl_stow 54 _ _ rfl rfl rfl _ 0 rfl (N1.cs A7 c7) rfl (Va) HZ.o (N1.cs A7 c7) rfl (nE rfl) (by kernel_rfl) (Nd.one _ _ _) ?_;intro w3 HW3 HK3)))
  obtain ⟨z,hz⟩:∃ z,w2.heap.size=z:=⟨_,rfl⟩
  have HSZ:Hid (w.heap.size+2<z):=by rw [← hz];exact HKr2.o.inside
  rw [hz] at HW3 HK3 HZ HBz ⊢;have HB3:Hid (Below w.heap.size w w3):=HW3.o.below (HB2.o.trans (HBz.o.mono (by have:=HSZ.o;omega))) (by have:=HSZ.o;omega);have HKs3:Hid (BlkT w3 w.heap.size (Vb wi hei M At x.t.length ct m) 34):=(HKs2.o.stays (HBz.o.block _ (by have:=HSZ.o;omega))).stays (HW3.o.far (by have:=HSZ.o;omega));have HKr3:Hid (BlkT w3 (w.heap.size+2) Vf 34):=(HKr2.o.stays (HBz.o.block _ (by have:=HSZ.o;omega))).stays (HW3.o.far (by have:=HSZ.o;omega))
  have HKo3:Hid (Blk w3 (w.heap.size+1) (o.dcs Ao co)):=HW3.o.blk (show w.heap.size+1≠z by have:=HSZ.o;omega) (HKo2.o.below (HBz.o) (by have:=HSZ.o;omega));clear HKs2 HKr2 HKo2 HB2 HZ HBz HW3 hz;go_wp2_with (first | (with_reducible refine gL ?_;first | (refine wt 54 0 rfl rfl rfl HK3.o (N1.cs A7 c7) rfl underlying54 rfl ?_)));refine (dnode_any N1.m N1.op N1.hi N1.cl N1.r N1.lk.k N1.lk.W N1.lk.H N1.lk.p N1.lk.iw N1.lk.ih A7 N1.lk.l c7 HFN.o.p HFN.o.l (by have:=HFN.o.len;unfold maxLen;omega) w3 (HRS.o w3 HB3.o).row).mono ?_;rintro e w4 ⟨rfl,hb4⟩
  rw [show ndC N1.m N1.op N1.cl N1.r (lkC N1.lk.k N1.lk.W N1.lk.H N1.lk.p N1.lk.iw N1.lk.ih N1.lk.l)=N1.chk from rfl];have HB4:=Hd (HB3.o.trans (hb4.mono HB3.o.size));have HKs4:=Hd (BlkT.stays HKs3.o ((hb4).block _ HKs3.o.inside));have HKr4:=Hd (BlkT.stays HKr3.o ((hb4).block _ HKr3.o.inside));have HKo4:=Hd (HKo3.o.below' hb4);have HK4:=Hd (HK3.o.below' hb4);clear hb4 HKs3 HKr3 HKo3 HK3 HB3
  obtain ⟨e1,he1⟩:∃ e1,N1.chk=e1:=⟨_,rfl⟩
  rw [he1] at HE1 ⊢;clear he1;by_cases he:¬ e1=0
  ·have q:(e1==0)=false:=by simpa using he
   have HE2:Hid (R=(x,e1)):=by show _=_;rw [HE1.o,if_pos he]
   have HNE:=Hd he;clear HE1 he;go_wp2_with (first | (with_reducible refine gL ?_;first | (refine wt 34 0 rfl rfl rfl HKs4.o.blk ((Vb wi hei M At x.t.length ct m)) rfl underlying34 rfl ?_)) | (with_reducible refine gS ?_;first | (refine wpl_stow 34 _ _ rfl rfl rfl _ 0 rfl ((Vb wi hei M At x.t.length ct m)) rfl (Vf) HKr4.o.blk ((Vb wi hei M At x.t.length ct m)) rfl (nE rfl) (by kernel_rfl) rfl ?_;intro w5 HW5 HK5)));rw [HE2.o]
   exact blk_ret2 rfl rfl rfl HK5.o underlying34 rfl (by kernel_rfl) ⟨_,rfl,dsh _ _ _ _ _ _ _,fun e=>absurd e HNE.o,HW5.o.below HB4.o (by omega)⟩
  ·obtain rfl:e1=0:=Decidable.not_not.1 he;clear he;have q:((0:Int)==0)=true:=by decide
   have HE2:Hid (R=(⟨x.t,upd x.nd o.i N1,x.ws⟩,0)):=by show _=_;rw [HE1.o,if_neg (by decide)]
   clear HE1;go_wp2_with (first | (with_reducible refine gL ?_;first | (refine wt 34 0 rfl rfl rfl HKs4.o.blk ((Vb wi hei M At x.t.length ct m)) rfl underlying34 rfl ?_)));refine (dcopied_any wi hei M _ x.t m (has x.t) x.nd HOK.o (by have:=HN.o;omega) w4 (HT.o.below HB4.o) (HM0.o.below HB4.o)).mono ?_;rintro e w5 ⟨m',rfl,hdm,hb5,hmq⟩;have HDM5:=Hd hdm;have HMG:Hid (w.heap.size<=m'):=Nat.le_trans HB4.o.size hmq;have HB5:=Hd (HB4.o.trans (hb5.mono HB4.o.size));have HKs5:=Hd (BlkT.stays HKs4.o ((hb5).block _ HKs4.o.inside))
   have HKr5:=Hd (BlkT.stays HKr4.o ((hb5).block _ HKr4.o.inside));have HKo5:=Hd (HKo4.o.below' hb5);have HK5:=Hd (HK4.o.below' hb5);have HNZ:Hid (z≠w.heap.size):=by have:=HSZ.o;show _≠_;omega
   clear hdm hb5 hmq HKs4 HKr4 HKo4 HK4 HB4
   go_upto_region 30 with (first | (with_reducible refine gS ?_;first | (refine wpl_stow 34 _ _ rfl rfl rfl _ 0 rfl ((Vb wi hei M At x.t.length ct m')) rfl ((Vb wi hei M At x.t.length ct m)) HKs5.o.blk ((Vb wi hei M At x.t.length ct m')) rfl (nE rfl) (by kernel_rfl) rfl ?_;intro w6 HW6 HK6)))
   have HB6:Hid (Below w.heap.size w w6):=HW6.o.below HB5.o nR;have HD6:Hid (DTree w6 (.slice At x.t.length ct) x.t):=HT.o.below HB6.o;have HDM6:Hid (DMap w6 m' (has x.t) (ndH (has x.t) x.nd)):=HDM5.o.wrote HKs5.o.blk (by unfold noPx;simp) HW6.o;have HKr6:Hid (BlkT w6 (w.heap.size+2) Vf 34):=HKr5.o.stays (HW6.o.far (by omega));have HKo6:=Hd (HW6.o.blk (show w.heap.size+1≠w.heap.size by omega) HKo5.o);have HKz6:=Hd (HW6.o.blk HNZ.o HK5.o);have HKs6:=HK6
   obtain ⟨w7,hrun,hdm7,hg7⟩:=HDM6.o.store (t:=x.t) (fun _=>rfl) (by have:=HN.o;omega) HO.o.i HHH.o (v:=.agg (N1.cs A7 c7).toArray) (n:=N1) ⟨A7,c7,rfl,HRS.o w6 HB6.o⟩;have HDM7:=Hd hdm7;have HKs7:Hid (Blk w7 w.heap.size (Vb wi hei M At x.t.length ct m')):=HKs6.o.stays (hg7.block _ HKs6.o.inside fun e=>HDM6.o.not_b HKs6.o (Option.some.inj e));have HKr7:Hid (BlkT w7 (w.heap.size+2) Vf 34):=HKr6.o.stays (hg7.block _ HKr6.o.inside fun e=>HDM6.o.not_b HKr6.o.blk (Option.some.inj e));have HD7:Hid (DTree w7 (.slice At x.t.length ct) x.t):=HD6.o.grown HDM6.o hg7
   have HB7:Hid (Below w.heap.size w w7):=HB6.o.grown hg7 HB6.o.size fun j e=>by cases e;exact HMG.o
   clear hdm7 hg7 HKs5 HKr5 HKo5 HK5 HB5 HW6;have c1:=HKo6.o.c 1 rfl;have ci:w.heap.size+1<w6.heap.size:=HKo6.o.inside;have s4:w6.cell? ⟨w.heap.size,4,none⟩=some (.map (some m')):=HKs6.o.cell 4;have si:w.heap.size<w6.heap.size:=HKs6.o.inside
   go_upto_region 31 with (first | (with_reducible refine gL ?_;first | (refine wt 54 0 rfl rfl rfl HKz6.o (N1.cs A7 c7) rfl underlying54 rfl ?_)))
   clear hrun c1 ci s4 si;go_wp2_with (first | (with_reducible refine gL ?_;first | (refine wt 34 0 rfl rfl rfl HKs7.o ((Vb wi hei M At x.t.length ct m')) rfl underlying34 rfl ?_)) | (with_reducible refine gS ?_;first | (refine wpl_stow 34 _ _ rfl rfl rfl _ 0 rfl ((Vb wi hei M At x.t.length ct m')) rfl (Vf) HKr7.o.blk ((Vb wi hei M At x.t.length ct m')) rfl (nE rfl) (by kernel_rfl) rfl ?_;intro w8 HW8 HK8)));rw [HE2.o]
   exact blk_ret2 rfl rfl rfl HK8.o underlying34 rfl (by kernel_rfl) ⟨_,rfl,dsh _ _ _ _ _ _ _,fun _=>⟨_,m',rfl,HD7.o.wrote HKr7.o (by decide) HW8.o,(HDM7.o.wrote HKr7.o.blk (by unfold noPx;simp) HW8.o).alike (fun _=>rfl) fun j hj=>by
    show upd x.nd o.i N1 j=upd (ndH (has x.t) x.nd) o.i N1 j;by_cases e:j=o.i
    ·rw [e,upd_same,upd_same]
    ·rw [upd_ne _ e,upd_ne _ e]
     exact (if_pos hj).symm⟩,HW8.o.below HB7.o (by omega)⟩
theorem ddo_any (o:Op9) (Ao:Option Addr) (co:Nat) (wi hei M:Int) (tv:Value) (x:PSc) (m:Nat) (ok:Ok x.t) (hn:x.t.length<=900) (hg:Good x) (hfx:∀ i,Fit (x.nd i)) (ho:OpOk o) (w:World) (hr:PxR w Ao o.lk.l) (ht:DTree w tv x.t) (hm:DMap w m (has x.t) x.nd):Calls prog 80 #[.agg #[.int .i64 wi,.int .i64 hei,.int .i64 M,tv,.map (some m)],.agg (o.dcs Ao co).toArray] w (DoDQ wi hei M (doS M x o) w):=by
 by_cases h1:o.k=1
 ·exact ddo_1 o Ao co wi hei M tv x m ok hn hg hfx ho w hr ht hm h1
 by_cases h2:o.k=2
 ·exact ddo_2 o Ao co wi hei M tv x m ok hn hg hfx ho w hr ht hm h2
 by_cases h3:o.k=3
 ·exact ddo_3 o Ao co wi hei M tv x m ok hn hg hfx ho w hr ht hm h3
 by_cases h4:4<=o.k∧o.k<=8
 ·exact ddo_s o Ao co wi hei M tv x m ok hn hg hfx ho w hr ht hm h4
 exact ddo_n o Ao co wi hei M tv x m ok hn hg hfx ho w hr ht hm (by omega)
end
section
open Go.RowKit pxm imm trm Go.Maps
def isBox (o:Obj):Prop:=∃ cs fz,o=.cells cs tDoc fz∧noPx cs.toList
structure DR (B:Nat) (w w':World):Prop where
 bel:Below B w w'
 same:∀ (k:Nat) (o:Obj),w.heap[k]?=some o->¬ isBox o->w'.heap[k]?=some o
theorem DR.refl (B:Nat) (w:World):DR B w w:=⟨bR,fun _ _ h _=>h⟩
theorem DR.trans {B:Nat} {w w1 w2:World} (h:DR B w w1) (k:DR B w1 w2):DR B w w2:=⟨h.bel.trans k.bel,fun j o h1 h2=>k.same j o (h.same j o h1 h2) h2⟩
theorem DR.below {B:Nat} {w w':World} (hb:Below w.heap.size w w') (hB:B<=w.heap.size):DR B w w':=⟨hb.mono hB,fun k _ h _=>(hb.block k (Array.getElem?_eq_some_iff.1 h).1).trans h⟩
theorem DR.wrote {B g:Nat} {w w':World} {cs:List Value} (hb:BlkT w g cs tDoc) (hc:noPx cs) (hW:Wrote g w w') (hB:B<=g):DR B w w':=⟨hW.below bR hB,fun k o h hn=>by
 by_cases e:k=g
 ·refine absurd ⟨cs.toArray,(0,0),?_,by simpa using hc⟩ hn;rw [e] at h;exact Option.some.inj (h.symm.trans hb)
 ·exact (hW.far e).trans h⟩
theorem RTyp.dr {B:Nat} {w w':World} {A:Option Addr} (h:RTyp w A) (hr:DR B w w') {a:Addr} (e:A=some a):w'.heap[a.block]?=w.heap[a.block]?:=by
 obtain ⟨cs,fz,h1⟩:=h a e;rw [h1];refine hr.same _ _ h1 ?_;rintro ⟨cs',fz',e2,_⟩
 injection e2 with _ e3 _
 exact absurd e3 (by decide)
theorem DTree.dr {B:Nat} {w w':World} {v:Value} {t:T} (h:DTree w v t) (hr:DR B w w'):DTree w' v t:=h.stays fun _ _ _ _ hy ea=>hy.dr hr ea
theorem PxR.dr {B:Nat} {w w':World} {A:Option Addr} {l:List Nat} (h:PxR w A l) (hr:DR B w w'):PxR w' A l:=h.stays fun a ea hne=>by
 obtain ⟨cs,fz,h1⟩:=h.typ a ea hne;rw [h1];refine hr.same _ _ h1 ?_;rintro ⟨cs',fz',e2,_⟩
 injection e2 with _ e3 _
 exact absurd e3 (by decide)
theorem DPl.dr {B:Nat} {w w':World} {v:Value} {n:Nd} (h:DPl w v n) (hr:DR B w w'):DPl w' v n:=by
 obtain ⟨A,c,e,h1⟩:=h;exact ⟨A,c,e,h1.dr hr⟩
theorem DMap.dr {B:Nat} {w w':World} {m:Nat} {H:Int->Bool} {nd:Int->Nd} (h:DMap w m H nd) (hr:DR B w w'):DMap w' m H nd:=by
 obtain ⟨es,h1,h2,h3⟩:=h.ex;refine ⟨es,h1.stays ?_,h2,fun i hi=>?_⟩
 ·obtain ⟨es',clock,h4,_⟩:=h1.own;rw [h4];refine hr.same _ _ h4 ?_;rintro ⟨_,_,e,_⟩;cases e
 ·obtain ⟨v,e,hv⟩:=h3 i hi;exact ⟨v,e,hv.dr hr⟩
theorem DocAt.dr {B:Nat} {w w':World} {v:Value} {a b M:Int} {x:PSc} (h:DocAt w v a b M x) (hr:DR B w w'):DocAt w' v a b M x:=by
 obtain ⟨tv,m,e,h1,h2⟩:=h;exact ⟨tv,m,e,h1.dr hr,h2.dr hr⟩
def DP (a b M:Int) (y:PSc) (e:Int) (v:Value) (w:World):Prop:=DSh v∧(e=0->DocAt w v a b M y)
theorem DP.dr {B:Nat} {a b M:Int} {y:PSc} {e:Int} {v:Value} {w w':World} (h:DP a b M y e v w) (hr:DR B w w'):DP a b M y e v w':=⟨h.1,fun k=>(h.2 k).dr hr⟩
theorem BlkT.wrote {w w':World} {g:Nat} {cs cs':List Value} {T:TypeId} (h:BlkT w g cs T) (hW:Wrote g w w') (hB:Blk w' g cs'):BlkT w' g cs' T:=by
 obtain ⟨o,l,rfl⟩:=hW
 have:∀ (l:List Value) (o:Nat) {w:World} {cs:List Value},BlkT w g cs T->∃ c2,BlkT (putBlk g w o l) g c2 T:=by
  intro l
  induction l with
  | nil=>exact fun _ _ cs h=>⟨cs,h⟩
  | cons v l ih=>exact fun o _ _ h=>ih (o+1) (h.set o v)
 obtain ⟨c2,h2⟩:=this l o h;obtain ⟨T',h3⟩:=hB;have e:=h2.symm.trans h3;simp only [Option.some.injEq,Obj.cells.injEq] at e;have e1:c2=cs':=by have:=congrArg Array.toList e.1;simpa using this
 rw [← e1];exact h2
structure VJ (B:Nat) (iA iS:Bool) (vA vC:Value) (w:World):Prop where
 bsz:B<=w.heap.size
 ex:iA=true->∃ g cs,vA=.pointer (some ⟨g,0,none⟩)∧B<=g∧BlkT w g cs tDoc∧noPx cs∧cs.length=5∧(iS=true->vC=.agg cs.toArray)
section
variable {B:Nat} {iA iS:Bool} {vA vC:Value} {w w':World}
theorem VJ.start (h:B<=w.heap.size):VJ B false iS vA vC w:=⟨h,fun e=>nomatch e⟩
theorem VJ.slots {uA uC:Value} (h:VJ B iA iS vA vC w) (e1:uA=vA) (e2:uC=vC):VJ B iA iS uA uC w:=by rw [e1,e2];exact h
theorem VJ.below (h:VJ B iA iS vA vC w) (hb:Below w.heap.size w w'):VJ B iA iS vA vC w':=⟨Nat.le_trans h.bsz hb.size,fun e=>by
 obtain ⟨g,cs,h1,h2,h3,h4⟩:=h.ex e
 exact ⟨g,cs,h1,h2,h3.stays (hb.block _ h3.inside),h4⟩⟩
theorem VJ.told {u uA:Value} (h:VJ B iA iS vA vC w) (eS:iS=false) (e1:uA=vA):VJ B iA iS uA u w:=⟨h.bsz,fun e=>by
 obtain ⟨g,cs,h1,h2,h3,h4,h5,_⟩:=h.ex e
 exact ⟨g,cs,e1.trans h1,h2,h3,h4,h5,fun e=>by rw [eS] at e;cases e⟩⟩
theorem VJ.made {uA uC:Value} (h:VJ B iA iS vA vC w) (eS:iS=false) (e1:uA=.pointer (some ⟨w.heap.size,0,none⟩)):VJ B true iS uA uC (w.alloc (.cells Vf.toArray tDoc)):=
 ⟨Nat.le_trans h.bsz (by simp),fun _=>⟨w.heap.size,_,e1,h.bsz,BlkT.new w Vf tDoc,by unfold noPx;simp,rfl,fun e=>by rw [eS] at e;cases e⟩⟩
theorem VJ.put {cs':List Value} {g:Nat} {cs:List Value} (h:VJ B iA iS vA vC w) (e1:vA=.pointer (some ⟨g,0,none⟩)) (hg:B<=g) (hb:BlkT w g cs tDoc) (hc:noPx cs) (hW:Wrote g w w') (hB:Blk w' g cs') (h2:noPx cs') (hl:cs'.length=5) (ev:vC=.agg cs'.toArray):VJ B iA true vA vC w'∧DR B w w':=
 ⟨⟨by rw [hW.size];exact h.bsz,fun _=>⟨g,cs',e1,hg,hb.wrote hW hB,h2,hl,fun _=>ev⟩⟩,DR.wrote hb hc hW hg⟩
end
def DBlk (w:World) (g:Nat) (a b M:Int) (x:PSc):Prop:=∃ A c m,BlkT w g (Vb a b M A x.t.length c m) tDoc∧DTree w (.slice A x.t.length c) x.t∧DMap w m (has x.t) x.nd
theorem DBlk.below {w w':World} {g:Nat} {a b M:Int} {x:PSc} (h:DBlk w g a b M x) (hb:Below w.heap.size w w'):DBlk w' g a b M x:=by
 obtain ⟨A,c,m,h1,h2,h3⟩:=h;exact ⟨A,c,m,h1.stays (hb.block _ h1.inside),h2.below hb,h3.below hb⟩
theorem DocAt.ex {w:World} {v:Value} {a b M:Int} {x:PSc} (h:DocAt w v a b M x):∃ A c m,v=.agg (Vb a b M A x.t.length c m).toArray∧DTree w (.slice A x.t.length c) x.t∧DMap w m (has x.t) x.nd:=by
 obtain ⟨tv,m,rfl,⟨A,c,rfl,h1⟩,h2⟩:=h;exact ⟨A,c,m,rfl,⟨A,c,rfl,h1⟩,h2⟩
theorem DBlk.doc {w:World} {a b M:Int} {x:PSc} {A:Option Addr} {c m:Nat} (h1:DTree w (.slice A x.t.length c) x.t) (h2:DMap w m (has x.t) x.nd):DocAt w (.agg (Vb a b M A x.t.length c m).toArray) a b M x:=⟨_,m,rfl,h1,h2⟩
theorem dcs_px (a b M:Int) (A:Option Addr) (n c:Nat) (m:Option Nat):noPx [.int .i64 a,.int .i64 b,.int .i64 M,.slice A n c,.map m]:=by unfold noPx;simp
theorem DocAt.like2 {w:World} {v:Value} {a b M:Int} {x y:PSc} (h:DocAt w v a b M x) (h1:likeW y x):DocAt w v a b M y:=h.like h1.1 h1.2
def OpR.dcs (q:OpR):List Value:=q.o.dcs q.A q.c
theorem OpR.dcs_len (q:OpR):q.dcs.length=24:=rfl
structure OpsD (w:World) (A:Option Addr) (l:List OpR):Prop where
 row:SRow 24 OpR.dcs w A l
 px:∀ q∈l,PxR w q.A q.o.lk.l
theorem OpsD.below {w w':World} {A:Option Addr} {l:List OpR} (h:OpsD w A l) (hb:Below w.heap.size w w'):OpsD w' A l:=⟨SRow.below h.row hb,fun q hq=>(h.px q hq).below hb⟩
theorem OpsD.dr {B:Nat} {w w':World} {A:Option Addr} {l:List OpR} (h:OpsD w A l) (hr:DR B w w'):OpsD w' A l:=by
 refine ⟨fun hn=>?_,fun q hq=>(h.px q hq).dr hr⟩;obtain ⟨b,off,e,hc⟩:=h.row hn;refine ⟨b,off,e,fun j hj i v hv=>?_⟩;have h0:=hc 0 hn 20 (.int .u32 ((l[0]).o.lk.p:Nat)) rfl;have hlt:=World.block_lt_of_cell? w ⟨b,_,none⟩ h0;simp only at hlt;have h2:w.heap[b]?=some w.heap[b]:=Array.getElem?_eq_getElem hlt
 have h4:=hr.same _ _ h2 (by
  rintro ⟨cs,fz,e2,hp⟩;unfold World.cell? at h0;rw [h2,e2] at h0;simp only at h0;have h3:cs[off+0*24+20]?=some (.int .u32 ((l[0]).o.lk.p:Nat)):=by simpa using h0
  exact hp _ (List.mem_of_getElem? (by rw [Array.getElem?_toList];exact h3)) _ rfl)
 exact (World.cell?_of_block (a:=⟨b,_,none⟩) (h4.trans h2.symm)).trans (hc j hj i v hv)
end
end Go.Proofs.YthoildbfghfhpaaGreat
