import Derived.Test.YthpifjcddgmjnaaGreatVScP
set_option maxHeartbeats 16000000
set_option maxRecDepth 100000
namespace Go.Proofs.YthpifjcddgmjnaaGreat
open Go.RowKit pxm imm trm Go.Maps
theorem wpl_row {P:Program} {ops:Array Oper} {rest:List Oper} {o:Oper} {a:Act} {Q:Exit→Act→World→Prop} {w:World} (ty:TypeId) (x:Operand) (ho:o.op=.load ty x) (hgd:Region.wanted o (yielded ops a.tmps)=true) (g f:Nat) (hx:a.eval x=.pointer (some ⟨g,f,none⟩)) (ls:List Value) (hr:w.rangeAt g f ls)
  (d:TypeDesc) (hu:P.underlying ty=some d) (hd:d.isRow=true) (hi:(P.info? ty).map (·.size)=some ls.length) (h:wpList P ops Q rest (a.put o.dst (.agg ls.toArray)) w):wpList P ops Q (o :: rest) a w:=by
 unfold wpList
 rw [if_pos hgd]
 refine .inl ?_
 unfold Oper.wp execOp
 simp only [ho,hx,Instr.loadAt,Instr.sureAddr,Sem.run_bind,Sem.run_pure,Result.andThen_ok,run_loadVar_mid w g f ty ls d hr hu hd hi]
 exact h
theorem SRow.off {α:Type} {k:Nat} {enc:α→List Value} {S S':Bset} {w w':World} {A:Option Addr} {l:List α} (h:SRow k enc w A l) (ha:∀ a,A=some a→l≠[]→¬ S a.block) (ht:TurnP S S' w w'):SRow k enc w' A l:=fun hn=>by
 obtain ⟨b,o,e,hc⟩:=h hn
 have hne:l≠[]:=fun e=>by rw [e] at hn; exact absurd hn (by simp)
 refine ⟨b,o,e,fun j hj i u hu=>?_⟩
 have h1:=hc j hj i u hu
 rw [← h1]
 unfold World.cell?
 rw [(ht.far b (World.block_lt_of_cell? w ⟨b,_,none⟩ h1) (ha _ e hne)).2]
section
variable {w:World} {g b m:Nat} {s:Sh} {Z:ZZ} {x:PSc} {t:T} {H:Int→Prop} {nd:Int→Nd} {ws:Int→Mp}
theorem SMid.apart (h:SMid w g b m s Z t H nd ws) {k:Nat} {cu:Array Value} {fr:Nat×Nat} {T:TypeId} (hk:w.heap[k]?=some (.cells cu T fr)) (h1:T≠tTree) (h2:T≠tNode) (h3:T≠tPtr):¬ SFoot b m s t k:=by
 rintro (e | e | e | ⟨i,hi,e | e⟩)
 ·obtain ⟨es,hm,_⟩:=h.map
  obtain ⟨es',clock,h4,_⟩:=hm.own
  rw [e,h4] at hk
  cases hk
 ·have h4:w.heap[b]?=_:=h.tree.raw.blk
  rw [e] at hk
  have:=hk.symm.trans h4
  simp only [Option.some.injEq,Obj.cells.injEq] at this
  exact h1 this.2.1
 ·obtain ⟨es,hm,_⟩:=h.tree.raw.map
  obtain ⟨es',clock,h4,_⟩:=hm.own
  rw [e,h4] at hk
  cases hk
 ·have h4:w.heap[s.g i]?=_:=(h.tree.raw.node i hi).blk
  rw [e] at hk
  have:=hk.symm.trans h4
  simp only [Option.some.injEq,Obj.cells.injEq] at this
  exact h2 this.2.1
 ·obtain ⟨cur,fr',h4⟩:=(h.tree.raw.node i hi).own.typed e
  have:=hk.symm.trans h4
  simp only [Option.some.injEq,Obj.cells.injEq] at this
  exact h3 this.2.1
theorem remove_undo {f:S3} {k1:Nat} {l:List Sp} {A:Option Addr} {c:Nat} (h:SMid w g b m s Z (gone (trm.walk t f.1) t) (fun z=>has (gone (trm.walk t f.1) t) z=true) nd ws) (hn:t.length≤1000) (ok:Ok t) (hf:f.1∈ids t) (hp0:f.2.1=par t f.1) (hq0:f.2.2=idx (trm.kids t (par t f.1)) f.1)
  (hbq:BQ t f k1 (l.map (·.e))) (hk1:l.length≤k1) {kb kl:Nat} (hb:Blk w kb [.pointer (some ⟨g,0,none⟩)]) (hl:Blk w kl [.slice A l.length c]) (hr:SRow 29 Sp.cs w A l) (h1:¬ SFoot b m s (gone (trm.walk t f.1) t) kb) (h3:∀ a,A=some a→l≠[]→¬ SFoot b m s (gone (trm.walk t f.1) t) a.block)
  (hq:∀ q∈l,q.n=nd q.e.1∧q.u=ws q.e.1∧NdOff Z.3 (SFoot b m s (gone (trm.walk t f.1) t)) w q.n q.A) :
  Calls Tryz.prog 211 #[.pointer (some ⟨kl,0,none⟩),.pointer (some ⟨kb,0,none⟩)] w fun e w'=>(∃ r,e=.returned r)∧∃ s' u,SMid w' g b m s' Z u (fun z=>has u z=true) nd ws∧TurnP (SFoot b m s (gone (trm.walk t f.1) t)) (SFoot b m s' u) w w'∧∀ q,trm.kids u q=trm.kids t q:=by
 have HBK0:Hid (trm.Back t (trm.walk t f.1) (l.map (·.e)) 0 (gone (trm.walk t f.1) t)):=trm.Back.start ok hf _
 obtain ⟨G,hG⟩:∃ G,gone (trm.walk t f.1) t=G:=⟨_,rfl⟩
 rw [hG] at h h1 h3 hq HBK0
 rw [hG]
 have HS:=Hd h
 have HN:=Hd hn
 have HOK:=Hd ok
 have HNX:=Hd (fun (j:Nat) (u:T) (hb:trm.Back t (trm.walk t f.1) (l.map (·.e)) j u) (hj:j < (l.map (·.e)).length)=>trm.Back.next ok hf hp0 hq0 hbq (by rw [List.length_map]; exact hk1) hb hj)
 have HEN:=Hd (fun (u:T) (hb:trm.Back t (trm.walk t f.1) (l.map (·.e)) (l.map (·.e)).length u)=>trm.Back.end_ ok hf hbq (by rw [List.length_map]; exact hk1) hb)
 have HBB:=Hd hb
 have HR:=Hd hr
 have HNB:=Hd h1
 have HNR:=Hd h3
 have HQ:=Hd hq
 have HLL:Hid (l.length≤1001):=by
  have:=hbq.len
  rw [List.length_map] at this
  show _≤_
  omega
 have c0:w.cell? ⟨kl,0,none⟩=some (.slice A l.length c):=hl.cell 0
 have i0:=hl.inside
 have hD:∃ D,trm.walk t f.1=D:=⟨_,rfl⟩
 clear h hn ok hf hp0 hq0 hbq hk1 hb hl hr h1 h3 hq hG
 obtain ⟨D,hD⟩:=hD
 rw [hD] at HBK0 HNX HEN
 clear hD
 go_enter Tryz.func211,Tryz.ntmps211
 go_wp2_with (fail)
 clear c0 i0
 go_loopw [6] (fun x6 wr=>∃ (j:Nat) (sj:Sh) (u:T),j≤l.length∧x6=.int .i64 j∧Hid (SMid wr g b m sj Z u (fun z=>has u z=true) nd ws)∧Hid (TurnP (SFoot b m s G) (SFoot b m sj u) w wr)∧Hid (trm.Back t D (l.map (·.e)) j u)) (fun x6 _=>l.length - (intOf x6).toNat)
 case atStart=>exact ⟨0,s,G,Nat.zero_le _,rfl,HS.out,TurnP.refl _ _,HBK0.out⟩
 case round=>
  obtain ⟨j,sj,u,hj,rfl,HM,HT,HBK⟩:=hrel
  generalize wr=wA at *
  have hjb:(j:Int)≤100000:=by have:=HLL.out; omega
  by_cases hlt:j < l.length
  ·have t1:decide (j < l.length)=true:=by simpa using hlt
   have HLT:=Hd hlt
   have hrw:=HR.out.off HNR.out HT.out
   obtain ⟨lb,lo,eA,hcell⟩:=hrw (by omega)
   subst eA
   have hnx:=HNX.out j u HBK.out (by rw [List.length_map]; exact hlt)
   simp only [List.getElem_map] at hnx
   obtain ⟨q,hq⟩:∃ q,q=l[j]'hlt:=⟨_,rfl⟩
   have HRG:Hid (wA.rangeAt lb (lo + j * 29) q.cs):=by
    rw [hq]
    exact fun i v hv=>hcell j hlt i v hv
   have HQQ:Hid (q.n=nd q.e.1∧q.u=ws q.e.1∧NdOff Z.3 (SFoot b m s G) w q.n q.A):=by
    rw [hq]
    exact HQ.out _ (List.getElem_mem hlt)
   have hnx:addS u q.e.1 q.e.2.1 q.e.2.2=((addS u q.e.1 q.e.2.1 q.e.2.2).1,0)∧trm.Back t D (l.map (·.e)) (j + 1) (addS u q.e.1 q.e.2.1 q.e.2.2).1∧q.e.1∈ids t∧q.e.2.1=par t q.e.1:=by
    rw [hq]
    exact hnx
   obtain ⟨u2,hu2⟩:∃ u2,(addS u q.e.1 q.e.2.1 q.e.2.2).1=u2:=⟨_,rfl⟩
   rw [hu2] at hnx
   have HAD:Hid (addS u q.e.1 q.e.2.1 q.e.2.2=(u2,0)):=hnx.1
   have HBK2:=Hd hnx.2.1
   have HI1:Hid (I64 q.e.1):=has_64 HOK.out (has_iff.2 (.inr hnx.2.2.1))
   have HI2:Hid (I64 q.e.2.1):=by rw [hnx.2.2.2]; exact par_64 HOK.out _
   have HAB:Hid (∀ z,has u2 z=true↔z=q.e.1∨has u z=true):=(addS_back HM.out.tree.ok HAD.out).2.2.2.1
   have HLU:Hid (u.length≤1000):=by show _≤_; have:=HBK.out.len; have:=HN.out; omega
   have HLU2:Hid (u2.length≤100000):=by show _≤_; have:=HBK2.out.len; have:=HN.out; omega
   have HZ2:Hid (Blk (wA.alloc (.cells #[.int .i64 0,.int .i64 0,.int .i64 0,.int .i64 0,.int .i64 0,.int .i64 0,.int .i64 0,.int .i64 0,.int .i64 0,.int .i64 0,.bool false,.bool false,.int .i64 0,.int .i64 0,.int .i64 0,.int .i64 0,.int .i64 0,.int .i64 0,.int .i64 0,.int .u32 0,.int .i64 0,.int .i64 0,.slice none 0 0,.int .i64 0,.int .i64 0,.int .i64 0,.int .i64 0,.int .i64 0,.int .i64 0] 328)) wA.heap.size [.int .i64 0,.int .i64 0,.int .i64 0,.int .i64 0,.int .i64 0,.int .i64 0,.int .i64 0,.int .i64 0,.int .i64 0,.int .i64 0,.bool false,.bool false,.int .i64 0,.int .i64 0,.int .i64 0,.int .i64 0,.int .i64 0,.int .i64 0,.int .i64 0,.int .u32 0,.int .i64 0,.int .i64 0,.slice none 0 0,.int .i64 0,.int .i64 0,.int .i64 0,.int .i64 0,.int .i64 0,.int .i64 0]):=blk_new wA [.int .i64 0,.int .i64 0,.int .i64 0,.int .i64 0,.int .i64 0,.int .i64 0,.int .i64 0,.int .i64 0,.int .i64 0,.int .i64 0,.bool false,.bool false,.int .i64 0,.int .i64 0,.int .i64 0,.int .i64 0,.int .i64 0,.int .i64 0,.int .i64 0,.int .u32 0,.int .i64 0,.int .i64 0,.slice none 0 0,.int .i64 0,.int .i64 0,.int .i64 0,.int .i64 0,.int .i64 0,.int .i64 0] _
   have HBa:Hid (Below wA.heap.size wA (wA.alloc (.cells #[.int .i64 0,.int .i64 0,.int .i64 0,.int .i64 0,.int .i64 0,.int .i64 0,.int .i64 0,.int .i64 0,.int .i64 0,.int .i64 0,.bool false,.bool false,.int .i64 0,.int .i64 0,.int .i64 0,.int .i64 0,.int .i64 0,.int .i64 0,.int .i64 0,.int .u32 0,.int .i64 0,.int .i64 0,.slice none 0 0,.int .i64 0,.int .i64 0,.int .i64 0,.int .i64 0,.int .i64 0,.int .i64 0] 328))):=(Below.refl _ _).alloc (Nat.le_refl _) _
   clear hrw hcell hnx hq hu2
   go_upto_region 3 with (first | ((with_reducible show wpList _ _ _ (Oper.mk _ (Op.load _ _) _ _ _ _ :: _) _ _); refine wpl_row 328 _ rfl rfl _ _ rfl (q.cs) HRG.out _ Tryz.underlying328 rfl (by kernel_rfl) ?_) | ((with_reducible show wpList _ _ _ (Oper.mk _ (Op.store _ _ _) _ _ _ _ :: _) _ _); refine wpl_stow 328 _ _ rfl rfl rfl _ 0 rfl (q.cs) rfl ([.int .i64 0,.int .i64 0,.int .i64 0,.int .i64 0,.int .i64 0,.int .i64 0,.int .i64 0,.int .i64 0,.int .i64 0,.int .i64 0,.bool false,.bool false,.int .i64 0,.int .i64 0,.int .i64 0,.int .i64 0,.int .i64 0,.int .i64 0,.int .i64 0,.int .u32 0,.int .i64 0,.int .i64 0,.slice none 0 0,.int .i64 0,.int .i64 0,.int .i64 0,.int .i64 0,.int .i64 0,.int .i64 0]) HZ2.out (q.cs) rfl (Nat.le_of_ble_eq_true rfl) (by kernel_rfl) (spcs_one _ _ _ _ _ _ _) ?_; intro w3 HW3 HK3))
   have HB3:Hid (Below wA.heap.size wA w3):=HW3.out.below HBa.out (Nat.le_refl _)
   have HM3:=Hd (HM.out.below HB3.out)
   have HT3:Hid (TurnP (SFoot b m s G) (SFoot b m sj u) w w3):=HT.out.trans (TurnP.below HB3.out)
   have HBB3:Hid (Blk w3 kb [.pointer (some ⟨g,0,none⟩)]):=HBB.out.off HNB.out HT3.out
   have HNB3:Hid (¬ SFoot b m sj u kb):=(HT3.out.far kb HBB.out.inside HNB.out).1
   obtain ⟨kv,hkv⟩:∃ kv,wA.heap.size=kv:=⟨_,rfl⟩
   have HNV3:Hid (¬ SFoot b m sj u kv):=fun e=>by have:=HM.out.inside _ e; omega
   rw [hkv] at HK3 ⊢
   have HVB3:Hid (Blk w3 kv q.cs):=HK3.out
   have HGT3:=Hd HM3.out.blk
   have HNG3:=Hd HM3.out.gfar
   clear HZ2 HBa HW3 HB3 HM HT HK3 HRG hkv
   refine regs.wp_region_put (TurnP (SFoot b m sj u) (SFoot b m sj u)) (fun L wx=>MidJ w3 g b m sj Z u (fun z=>has u z=true) nd ws u2 (L 10) wx) [10,11,12,13,14,15,16,17,18,19,20] (by kernel_rfl) (by kernel_rfl) (fun _=>TurnP.refl _ _) (fun _ _ _ h k=>h.trans k) (fun i=>(match i with
    | 0=>regs.Say.val _ (.pointer (some ⟨g,0,none⟩))
    | 1=>regs.Say.val _ (.pointer (some ⟨g,0,none⟩))
    | 2=>regs.Say.val _ (.pointer (some ⟨g,1,none⟩))
    | 3=>regs.Say.val _ (.pointer (some ⟨b,0,none⟩))
    | 4=>regs.Say.val _ (.pointer (some ⟨kv,0,none⟩))
    | 5=>regs.Say.val _ (.int .i64 q.e.1)
    | 6=>regs.Say.val _ (.pointer (some ⟨kv,1,none⟩))
    | 7=>regs.Say.val _ (.int .i64 q.e.2.1)
    | 8=>regs.Say.val _ (.pointer (some ⟨kv,2,none⟩))
    | 9=>regs.Say.val _ (.int .i64 q.e.2.2)
    | 10=>regs.Say.any _
    | _=>regs.Say.any _:regs.Say (TurnP (SFoot b m sj u) (SFoot b m sj u))).p) (fun _=>regs.Say.mono _) (by kernel_rfl) (TurnP.below (Below.refl _ _).drew) (⟨fun _=>HM3.out.below (Below.refl _ _).drew,(fun e=>nomatch e)⟩) ⟨?_,?_,?_,?_,?_,?_,?_,?_,?_,?_,?_,trivial⟩ ?_
   ·refine regs.StepOK.plain rfl fun L a w1 hh=>?_
    have h1:a.tmps[1]?.getD undef=.pointer (some ⟨kb,0,none⟩):=rq (hh.old 1 rfl)
    have hB:=Hd (HBB3.out.off HNB3.out hh.rel)
    have c0:w1.cell? ⟨kb,0,none⟩=some (.pointer (some ⟨g,0,none⟩)):=hB.out.cell 0
    have i0:=hB.out.inside
    have hJ:=Hd hh.st; clear hh; go_simp; exact ⟨_,rfl,TurnP.refl _ _,rfl,hJ.out⟩
   ·refine regs.StepOK.plain rfl fun L a w1 hh=>?_
    have h10:=rq (hh.dep 0 10 (by kernel_rfl) (by kernel_rfl))
    have hJ:=Hd hh.st; clear hh; go_simp; exact ⟨_,rfl,TurnP.refl _ _,rfl,hJ.out⟩
   ·refine regs.StepOK.plain rfl fun L a w1 hh=>?_
    have h11:=rq (hh.dep 1 11 (by kernel_rfl) (by kernel_rfl))
    have i0:=((BlkT.off HGT3.out HNG3.out hh.rel).blk).inside
    have hJ:=Hd hh.st; clear hh; go_simp; exact ⟨_,rfl,TurnP.refl _ _,rfl,hJ.out⟩
   ·refine regs.StepOK.plain rfl fun L a w1 hh=>?_
    have h12:=rq (hh.dep 2 12 (by kernel_rfl) (by kernel_rfl))
    have hB:=Hd ((BlkT.off HGT3.out HNG3.out hh.rel).blk)
    have c0:w1.cell? ⟨g,1,none⟩=some (.pointer (some ⟨b,0,none⟩)):=hB.out.cell 1
    have i0:=hB.out.inside
    have hJ:=Hd hh.st; clear hh; go_simp; exact ⟨_,rfl,TurnP.refl _ _,rfl,hJ.out⟩
   ·refine regs.StepOK.plain rfl fun L a w1 hh=>?_
    have h3:a.tmps[3]?.getD undef=.pointer (some ⟨kv,0,none⟩):=rq (hh.old 3 rfl)
    have i0:=(HVB3.out.off HNV3.out hh.rel).inside
    have hJ:=Hd hh.st; clear hh; go_simp; exact ⟨_,rfl,TurnP.refl _ _,rfl,hJ.out⟩
   ·refine regs.StepOK.plain rfl fun L a w1 hh=>?_
    have h14:=rq (hh.dep 4 14 (by kernel_rfl) (by kernel_rfl))
    have hB:=Hd (HVB3.out.off HNV3.out hh.rel)
    have c0:w1.cell? ⟨kv,0,none⟩=some (.int .i64 q.e.1):=hB.out.cell 0
    have i0:=hB.out.inside
    have hJ:=Hd hh.st; clear hh; go_simp; exact ⟨_,rfl,TurnP.refl _ _,rfl,hJ.out⟩
   ·refine regs.StepOK.plain rfl fun L a w1 hh=>?_
    have h3:a.tmps[3]?.getD undef=.pointer (some ⟨kv,0,none⟩):=rq (hh.old 3 rfl)
    have i0:=(HVB3.out.off HNV3.out hh.rel).inside
    have hJ:=Hd hh.st; clear hh; go_simp; exact ⟨_,rfl,TurnP.refl _ _,rfl,hJ.out⟩
   ·refine regs.StepOK.plain rfl fun L a w1 hh=>?_
    have h16:=rq (hh.dep 6 16 (by kernel_rfl) (by kernel_rfl))
    have hB:=Hd (HVB3.out.off HNV3.out hh.rel)
    have c0:w1.cell? ⟨kv,1,none⟩=some (.int .i64 q.e.2.1):=hB.out.cell 1
    have i0:=hB.out.inside
    have hJ:=Hd hh.st; clear hh; go_simp; exact ⟨_,rfl,TurnP.refl _ _,rfl,hJ.out⟩
   ·refine regs.StepOK.plain rfl fun L a w1 hh=>?_
    have h3:a.tmps[3]?.getD undef=.pointer (some ⟨kv,0,none⟩):=rq (hh.old 3 rfl)
    have i0:=(HVB3.out.off HNV3.out hh.rel).inside
    have hJ:=Hd hh.st; clear hh; go_simp; exact ⟨_,rfl,TurnP.refl _ _,rfl,hJ.out⟩
   ·refine regs.StepOK.plain rfl fun L a w1 hh=>?_
    have h18:=rq (hh.dep 8 18 (by kernel_rfl) (by kernel_rfl))
    have hB:=Hd (HVB3.out.off HNV3.out hh.rel)
    have c0:w1.cell? ⟨kv,2,none⟩=some (.int .i64 q.e.2.2):=hB.out.cell 2
    have i0:=hB.out.inside
    have hJ:=Hd hh.st; clear hh; go_simp; exact ⟨_,rfl,TurnP.refl _ _,rfl,hJ.out⟩
   ·refine regs.StepOK.plain rfl fun L a w1 hh=>?_
    have h13:=rq (hh.dep 3 13 (by kernel_rfl) (by kernel_rfl))
    have h15:=rq (hh.dep 5 15 (by kernel_rfl) (by kernel_rfl))
    have h17:=rq (hh.dep 7 17 (by kernel_rfl) (by kernel_rfl))
    have h19:=rq (hh.dep 9 19 (by kernel_rfl) (by kernel_rfl))
    have hS:=Hd (hh.st.no hh.un)
    have hR:=Hd (show TurnP (SFoot b m sj u) (SFoot b m sj u) w3 w1 from hh.rel)
    have hB:=Hd (show ∀ wq,regs.bl w1 wq→True from fun _ _=>trivial)
    clear hh hB
    go_simp
    refine (tadd hS.out.tree HLU.out q.e.1 q.e.2.1 q.e.2.2 HI1.out HI2.out).mono ?_
    rw [HAD.out]
    rintro e w9 ⟨s9,rfl,ht9,hu9⟩
    have hm:=hS.out.step ht9 hu9
    exact ⟨_,rfl,hm.2.wide (fun _ k=>k),trivial,⟨(fun e=>nomatch e),fun _=>⟨_,hm.1,hR.out.trans hm.2⟩⟩⟩
   intro L w4 val hL hJ hR hv
   have HR4:=Hd hR
   obtain ⟨sk,hmq,htq⟩:=hJ.yes (hL 10 (by decide))
   have HM4:=Hd hmq
   have HT4:=Hd htq
   clear hv hL hJ hR hmq htq
   simp only [regs.putAll,List.map_cons,List.map_nil]
   simp only [Act.put,List.setIfInBounds_toArray,List.set_cons_zero,List.set_cons_succ]
   generalize val 10=v10,val 11=v11,val 12=v12,val 13=v13,val 14=v14,val 15=v15,val 16=v16,val 17=v17,val 18=v18,val 19=v19,val 20=v20 at *
   have HBB4:Hid (Blk w4 kb [.pointer (some ⟨g,0,none⟩)]):=HBB3.out.off HNB3.out HT4.out
   have HNB4:Hid (¬ SFoot b m sk u2 kb):=(HT4.out.far kb HBB3.out.inside HNB3.out).1
   have HVB4:Hid (Blk w4 kv q.cs):=HVB3.out.off HNV3.out HT4.out
   have HNV4:Hid (¬ SFoot b m sk u2 kv):=(HT4.out.far kv HVB3.out.inside HNV3.out).1
   have HGT4:=Hd HM4.out.blk
   have HNG4:=Hd HM4.out.gfar
   have HT5:Hid (TurnP (SFoot b m s G) (SFoot b m sk u2) w w4):=HT3.out.trans HT4.out
   have HQ4:Hid (NdOff Z.3 (SFoot b m sk u2) w4 q.n q.A):=HQQ.out.2.2.turn HT5.out
   go_upto_region 4 with (fail)
   refine regs.wp_region_put (TurnP (SFoot b m sk u2) (SFoot b m sk u2)) (fun L wx=>MapJ g b m sk Z u2 ((fun z=>has u z=true)) nd ws ((fun z=>z=q.e.1∨has u z=true)) ((upd nd q.e.1 q.n)) ((upd ws q.e.1 q.u)) (L 8) wx) [21,22,23,24,25,26,27,28] (by kernel_rfl) (by kernel_rfl) (fun _=>TurnP.refl _ _) (fun _ _ _ h k=>h.trans k) (fun i=>(match i with
    | 0=>regs.Say.val _ (.pointer (some ⟨g,0,none⟩))
    | 1=>regs.Say.val _ (.pointer (some ⟨g,0,none⟩))
    | 2=>regs.Say.val _ (.pointer (some ⟨g,5,none⟩))
    | 3=>regs.Say.val _ (.map (some m))
    | 4=>regs.Say.val _ (.pointer (some ⟨kv,0,none⟩))
    | 5=>regs.Say.val _ (.int .i64 q.e.1)
    | 6=>regs.Say.val _ (.pointer (some ⟨kv,3,none⟩))
    | 7=>regs.Say.val _ (.agg (plcs q.n q.A q.c q.u).toArray)
    | 8=>regs.Say.any _
    | _=>regs.Say.any _:regs.Say (TurnP (SFoot b m sk u2) (SFoot b m sk u2))).p) (fun _=>regs.Say.mono _) (by kernel_rfl) (TurnP.below (Below.refl _ _).drew) (⟨fun _=>HM4.out.below (Below.refl _ _).drew,(fun e=>nomatch e)⟩) ⟨?_,?_,?_,?_,?_,?_,?_,?_,?_,trivial⟩ ?_
   ·refine regs.StepOK.plain rfl fun L a w1 hh=>?_
    have h1:a.tmps[1]?.getD undef=.pointer (some ⟨kb,0,none⟩):=rq (hh.old 1 rfl)
    have hB:=Hd (HBB4.out.off HNB4.out hh.rel)
    have c0:w1.cell? ⟨kb,0,none⟩=some (.pointer (some ⟨g,0,none⟩)):=hB.out.cell 0
    have i0:=hB.out.inside
    have hJ:=Hd hh.st; clear hh; go_simp; exact ⟨_,rfl,TurnP.refl _ _,rfl,hJ.out⟩
   ·refine regs.StepOK.plain rfl fun L a w1 hh=>?_
    have h21:=rq (hh.dep 0 21 (by kernel_rfl) (by kernel_rfl))
    have hJ:=Hd hh.st; clear hh; go_simp; exact ⟨_,rfl,TurnP.refl _ _,rfl,hJ.out⟩
   ·refine regs.StepOK.plain rfl fun L a w1 hh=>?_
    have h22:=rq (hh.dep 1 22 (by kernel_rfl) (by kernel_rfl))
    have i0:=((BlkT.off HGT4.out HNG4.out hh.rel).blk).inside
    have hJ:=Hd hh.st; clear hh; go_simp; exact ⟨_,rfl,TurnP.refl _ _,rfl,hJ.out⟩
   ·refine regs.StepOK.plain rfl fun L a w1 hh=>?_
    have h23:=rq (hh.dep 2 23 (by kernel_rfl) (by kernel_rfl))
    have hB:=Hd ((BlkT.off HGT4.out HNG4.out hh.rel).blk)
    have c0:w1.cell? ⟨g,5,none⟩=some (.map (some m)):=hB.out.cell 5
    have i0:=hB.out.inside
    have hJ:=Hd hh.st; clear hh; go_simp; exact ⟨_,rfl,TurnP.refl _ _,rfl,hJ.out⟩
   ·refine regs.StepOK.plain rfl fun L a w1 hh=>?_
    have h3:a.tmps[3]?.getD undef=.pointer (some ⟨kv,0,none⟩):=rq (hh.old 3 rfl)
    have i0:=(HVB4.out.off HNV4.out hh.rel).inside
    have hJ:=Hd hh.st; clear hh; go_simp; exact ⟨_,rfl,TurnP.refl _ _,rfl,hJ.out⟩
   ·refine regs.StepOK.plain rfl fun L a w1 hh=>?_
    have h25:=rq (hh.dep 4 25 (by kernel_rfl) (by kernel_rfl))
    have hB:=Hd (HVB4.out.off HNV4.out hh.rel)
    have c0:w1.cell? ⟨kv,0,none⟩=some (.int .i64 q.e.1):=hB.out.cell 0
    have i0:=hB.out.inside
    have hJ:=Hd hh.st; clear hh; go_simp; exact ⟨_,rfl,TurnP.refl _ _,rfl,hJ.out⟩
   ·refine regs.StepOK.plain rfl fun L a w1 hh=>?_
    have h3:a.tmps[3]?.getD undef=.pointer (some ⟨kv,0,none⟩):=rq (hh.old 3 rfl)
    have i0:=(HVB4.out.off HNV4.out hh.rel).inside
    have hJ:=Hd hh.st; clear hh; go_simp; exact ⟨_,rfl,TurnP.refl _ _,rfl,hJ.out⟩
   ·refine regs.StepOK.plain rfl fun L a w1 hh=>?_
    have h27:=rq (hh.dep 6 27 (by kernel_rfl) (by kernel_rfl))
    have hB:=Hd (HVB4.out.off HNV4.out hh.rel)
    have hJ:=Hd hh.st
    exact wp_take 143 _ rfl kv 3 (by simpa [go_sem] using h27) _ hB.out (plcs q.n q.A q.c q.u) rfl _ Tryz.underlying143 rfl (by kernel_rfl) ⟨_,rfl,TurnP.refl _ _,rfl,hJ.out⟩
   ·refine regs.StepOK.plain rfl fun L a w1 hh=>?_
    have h24:=rq (hh.dep 3 24 (by kernel_rfl) (by kernel_rfl))
    have h26:=rq (hh.dep 5 26 (by kernel_rfl) (by kernel_rfl))
    have h28:=rq (hh.dep 7 28 (by kernel_rfl) (by kernel_rfl))
    obtain ⟨w9,hrun,hs9,ht9⟩:=(hh.st.no hh.un).store HLU2.out (fun z hz=>(HAB.out z).2 (.inr hz)) HI1.out (show PlAt Z.3 (SFoot b m sk u2) w1 (.agg (plcs q.n q.A q.c q.u).toArray) q.n q.u from ⟨_,_,rfl,HQ4.out.turn hh.rel⟩)
    have hS9:=Hd hs9
    have hT9:=Hd ht9
    clear hh hs9 ht9
    go_simp
    exact ⟨hT9.out,⟨undef,trivial⟩,(fun e=>nomatch e),fun _=>hS9.out⟩
   intro L w6 val hL hJ hR hv
   have HR6:=Hd hR
   have HM6:=Hd (hJ.yes (hL 8 (by decide)))
   clear hv hL hJ hR
   simp only [regs.putAll,List.map_cons,List.map_nil]
   simp only [Act.put,List.setIfInBounds_toArray,List.set_cons_zero,List.set_cons_succ]
   generalize val 21=v21,val 22=v22,val 23=v23,val 24=v24,val 25=v25,val 26=v26,val 27=v27,val 28=v28 at *
   have HM7:Hid (SMid w6 g b m sk Z u2 (fun z=>has u2 z=true) nd ws):=by
    have h1:=HM6.out.alike HAB.out
    rw [HQQ.out.1,HQQ.out.2.1,upd_self,upd_self] at h1
    exact h1
   have HT7:Hid (TurnP (SFoot b m s G) (SFoot b m sk u2) w w6):=HT5.out.trans HR6.out
   clear HM6 HT5 HM3 HT3 HM4 HT4
   go_wp2_with (fail)
   go_roundw
   case rel=>exact ⟨j + 1,sk,u2,HLT.out,by go_num,HM7,HT7,HBK2⟩
   case measure=>have:=HLT.out; simp [intOf]; omega
  ·obtain rfl:j=l.length:=by omega
   have t1:decide (l.length < l.length)=false:=by simp
   have HFI:=Hd (HEN.out u (by rw [List.length_map]; exact HBK.out))
   clear HNX HEN
   go_wp2_with (fail)
   go_end0
   exact ⟨⟨_,rfl⟩,sj,u,HM.out,HT.out,HFI.out⟩
def removeS (x:PSc) (i:Int):PSc×Int:=if (remS x.t i).2.2≠0 then (x,(remS x.t i).2.2) else (⟨(remS x.t i).1,x.nd,x.ws⟩,0)
theorem remS_not {t:T} {i:Int} (h:(remS t i).2.2≠0):(remS t i).1=t:=by
 unfold remS at h ⊢
 by_cases h1:i=0
 ·rw [if_pos h1]
 rw [if_neg h1] at h ⊢
 by_cases h2:has t i=false
 ·rw [if_pos h2]
 rw [if_neg h2] at h
 exact absurd rfl h
theorem remS_yes {t:T} {i:Int} (h:(remS t i).2.2=0):i∈ids t∧remS t i=(gone (trm.walk t i) t,trm.walk t i,0):=by
 unfold remS at h ⊢
 by_cases h1:i=0
 ·rw [if_pos h1] at h; cases h
 rw [if_neg h1] at h ⊢
 by_cases h2:has t i=false
 ·rw [if_pos h2] at h; cases h
 rw [if_neg h2]
 exact ⟨(has_iff.1 (by simpa using h2)).resolve_left h1,rfl⟩
theorem has_gone {t:T} (ok:Ok t) {i z:Int} (hi:i∈ids t):has (gone (trm.walk t i) t) z=true↔z∉trm.walk t i∧has t z=true:=by
 rw [has_iff,has_iff,ids_gone]
 constructor
 ·rintro (h | ⟨h1,h2⟩)
  ·subst h
   refine ⟨fun hw=>?_,.inl rfl⟩
   rcases (walk_mem ok (.inr hi)).1 hw with e | e
   ·exact ok.ne0 hi e.symm
   ·exact ok.ne0 (within_has e).1 rfl
  ·exact ⟨h2,.inr h1⟩
 ·rintro ⟨h1,h2 | h2⟩
  ·exact .inl h2
  ·exact .inr ⟨h2,h1⟩
theorem enters_remove1:Enters Tryz.prog 211:=enters_of Tryz.func211 (by kernel_rfl) rfl
theorem remove_any (h:SceneAt w g b m s Z x) (hn:x.t.length≤900) (ci:Int) (hi:I64 ci) :
  Calls Tryz.prog 172 #[.pointer (some ⟨g,0,none⟩),.int .i64 ci] w (OpQ g b m Z s x (removeS x ci) w):=by
 obtain ⟨w1,hw1⟩:∃ w1,w1=w.alloc (.cells #[.pointer (some ⟨g,0,none⟩)] 25):=⟨_,rfl⟩
 have hb1:Below w.heap.size w w1:=by rw [hw1]; exact (Below.refl _ _).alloc (Nat.le_refl _) _
 have HB1:=Hd hb1
 have HK1:Hid (Blk w1 w.heap.size [.pointer (some ⟨g,0,none⟩)]):=by rw [hw1]; exact blk_new w [.pointer (some ⟨g,0,none⟩)] _
 have hs1:=h.below hb1
 have HS1:=Hd hs1
 have HSI:Hid (∀ k,SFoot b m s x.t k→k < w.heap.size):=h.inside
 have HOE:Hid (∀ k,Z.3 k→k < w.heap.size):=fun k hk=>(h.old k hk).1
 have HN:Hid (x.t.length≤1000):=by show _≤_; omega
 have HI:=Hd hi
 have HOK:=Hd h.tree.ok
 have HSP:=Hd (spots_any hs1 HN.out ci hi)
 unfold SpotsQ at HSP
 have HW1:=Hd hw1
 obtain ⟨R,hR⟩:∃ R,removeS x ci=R:=⟨_,rfl⟩
 have HR:=Hd hR
 rw [hR]
 have c0:w1.cell? ⟨w.heap.size,0,none⟩=some (.pointer (some ⟨g,0,none⟩)):=HK1.out.cell 0
 have i0:=HK1.out.inside
 rw [hw1] at c0 i0 HSP
 clear h hn hi hb1 hs1 hR hw1
 go_enter Tryz.func172,Tryz.ntmps172
 go_wp2_with (fail)
 refine HSP.out.mono ?_
 rintro e w2 ⟨v,l,rfl,ho,hb2,hbi,hok⟩
 rw [← HW1.out] at ho hb2
 clear c0 i0 HSP
 obtain ⟨A,c,rfl,hlc,hcm,hrow⟩:=SOwn.row ho Sp.cs_len
 obtain ⟨w3,hw3⟩:∃ w3,w3=w2.alloc (.cells #[.slice A l.length c] 325):=⟨_,rfl⟩
 have hb3:Below w2.heap.size w2 w3:=by rw [hw3]; exact (Below.refl _ _).alloc (Nat.le_refl _) _
 have HB3:Hid (Below w1.heap.size w1 w3):=hb2.trans (hb3.mono hb2.size)
 have HL3:Hid (Blk w3 w2.heap.size [.slice A l.length c]):=by rw [hw3]; exact blk_new w2 [.slice A l.length c] _
 have HK3:=Hd (HK1.out.below' HB3.out)
 have hs3:=HS1.out.below HB3.out
 have HS3:=Hd hs3
 have HRW:Hid (SRow 29 Sp.cs w3 A l):=SRow.below hrow hb3
 have HOW:Hid (∀ a,A=some a→l≠[]→¬ SFoot b m s x.t a.block∧a.block < w3.heap.size):=fun a ea hne=>by
  have h1:=SOwn.block ho (show (Value.slice A l.length c).ownBlock=some a.block by rw [ea]; rfl)
  have h2:=HB1.out.size
  have h3:=hb3.size
  exact ⟨fun e=>by have:=HSI.out _ e; omega,by omega⟩
 have HOWE:Hid (∀ a,A=some a→l≠[]→¬ Z.3 a.block):=fun a ea hne e=>by
  have h1:=SOwn.block ho (show (Value.slice A l.length c).ownBlock=some a.block by rw [ea]; rfl)
  have h2:=HB1.out.size
  have h3:=HOE.out _ e
  omega
 have HOKS:Hid (∀ q∈l,SpOk Z.3 x (SFoot b m s x.t) w3 q):=fun q hq=>(hok q hq).turn (TurnP.below hb3)
 have HBI:=Hd hbi
 have hkl:w.heap.size < w2.heap.size:=Nat.lt_of_lt_of_le HK1.out.inside hb2.size
 obtain ⟨kl,hkl2⟩:∃ kl,w2.heap.size=kl:=⟨_,rfl⟩
 have HTR:=Hd (tremove hs3.tree HN.out ci HI.out)
 unfold RmQ at HTR
 have c0:w3.cell? ⟨w.heap.size,0,none⟩=some (.pointer (some ⟨g,0,none⟩)):=HK3.out.cell 0
 have i0:=HK3.out.inside
 obtain ⟨⟨-,c1,-,-,-,-⟩,i1⟩:=hs3.top
 have HNK:Hid (¬ SFoot b m s x.t w.heap.size):=fun e=>by have:=HSI.out _ e; omega
 have HNL:Hid (¬ SFoot b m s x.t kl):=fun e=>by have:=HSI.out _ e; omega
 have HEK:Hid (¬ Z.3 w.heap.size):=fun e=>by have:=HOE.out _ e; omega
 have HEL:Hid (¬ Z.3 kl):=fun e=>by have:=HOE.out _ e; omega
 have HW3:=Hd hw3
 rw [hkl2] at HL3
 rw [hw3] at c0 i0 c1 i1 HTR
 clear ho hb2 hbi hok hlc hcm hrow hb3 hs3 hkl hw3 HK1 HS1
 go_wp2_with (fail)
 refine HTR.out.mono ?_
 rintro e w4 ⟨s4,v4,rfl,ht4,ho4,hu4⟩
 rw [← HW3.out] at ho4 hu4
 clear c0 i0 c1 i1 HTR hkl2
 have hm4:=HS3.out.mid.step ht4 hu4
 have HM4:=Hd hm4.1
 have HT4:=Hd hm4.2
 clear hm4 ht4 hu4
 by_cases h0:¬ (remS x.t ci).2.2=0
 ·have HT1:Hid ((remS x.t ci).1=x.t):=remS_not h0
  obtain ⟨e0,he0⟩:∃ e0,(remS x.t ci).2.2=e0:=⟨_,rfl⟩
  have HE2:Hid (R=(x,e0)):=by show _=_; rw [← HR.out]; unfold removeS; rw [if_pos h0,he0]
  rw [he0] at h0 ⊢
  have t5:(e0 == 0)=false:=by simpa using h0
  have HNZ:=Hd h0
  clear h0 HR he0 ho4
  go_wp2_with (fail)
  go_ret2
  rw [HE2.out]
  rw [HT1.out] at HM4 HT4
  exact ⟨_,s4,rfl,HM4.out.scene fun _=>Iff.rfl,((TurnP.below HB1.out).trans (TurnP.below HB3.out)).trans HT4.out,fun e=>absurd e HNZ.out⟩
 have h00:(remS x.t ci).2.2=0:=by simpa using h0
 obtain ⟨hci,hrm⟩:=remS_yes h00
 have HE2:Hid (R=(⟨gone (trm.walk x.t ci) x.t,x.nd,x.ws⟩,0)):=by show _=_; rw [← HR.out]; unfold removeS; rw [hrm]; rfl
 have HCI:=Hd hci
 rw [hrm] at HM4 HT4 ho4
 rw [h00]
 simp only at HM4 HT4 ho4
 have HWL:Hid ((trm.walk x.t ci).length≤1001):=by have:=walk_le HOK.out (.inr hci); have:=HN.out; show _≤_; omega
 have HHG:Hid (∀ z,has (gone (trm.walk x.t ci) x.t) z=true↔z∉trm.walk x.t ci∧has x.t z=true):=fun z=>has_gone HOK.out hci
 have HW64:Hid (∀ z∈trm.walk x.t ci,I64 z):=fun z hz=>by
  refine has_64 HOK.out ?_
  rcases (walk_mem HOK.out (.inr hci)).1 hz with e | e
  ·rw [e]; exact has_iff.2 (.inr hci)
  ·exact has_iff.2 (.inr (within_has e).1)
 have HBQ:Hid (∃ k,BQ x.t (ci,par x.t ci,idx (kids x.t (par x.t ci)) ci) k (l.map (·.e))∧l.length≤k):=by
  obtain ⟨k,h1,h2⟩:=HBI.out
  rcases h1 with ⟨-,h3⟩ | ⟨h3,-⟩
  ·exact ⟨k,h3,h2⟩
  ·rw [has_iff.2 (.inr hci)] at h3; cases h3
 obtain ⟨G,hG⟩:∃ G,gone (trm.walk x.t ci) x.t=G:=⟨_,rfl⟩
 have HG:=Hd hG
 rw [hG] at HM4 HT4 HE2 HHG
 obtain ⟨Wk,hWk⟩:∃ Wk,trm.walk x.t ci=Wk:=⟨_,rfl⟩
 rw [hWk] at HWL HHG HW64 ho4
 obtain ⟨GA,GC,rfl,-,-,-⟩:=IOwn.irow ho4
 have HO4:=Hd ho4
 clear h0 h00 hrm hci hG hWk HBI HR ho4
 go_wp2_with (fail)
 go_loopw [28] (fun x28 wr=>∃ j:Nat,j≤Wk.length∧x28=.int .i64 j∧Hid (SMid wr g b m s4 Z G (fun z=>z∉Wk.take j∧has x.t z=true) x.nd x.ws)∧Hid (TurnP (SFoot b m s4 G) (SFoot b m s4 G) w4 wr)) (fun x28 _=>Wk.length - (intOf x28).toNat)
 case atStart=>exact ⟨0,Nat.zero_le _,rfl,HM4.out.alike fun z=>⟨fun h=>h.2,fun h=>⟨by simp,h⟩⟩,TurnP.refl _ _⟩
 case round=>
  obtain ⟨j,hj,rfl,HM,HT⟩:=hrel
  generalize wr=wA at *
  have hjb:(j:Int)≤100000:=by have:=HWL.out; omega
  by_cases hlt:j < Wk.length
  ·have t1:decide (j < Wk.length)=true:=by simpa using hlt
   have HLT:=Hd hlt
   have hown:IOwn wA w3.heap.size (.slice GA Wk.length GC) Wk:=SOwn.stays HO4.out fun e he=>by
    obtain ⟨cu,fr,h3⟩:=SOwn.typed2 HO4.out he
    exact (HT.out.far e (SOwn.block HO4.out he).2 (HM4.out.apart h3 (by decide) (by decide) (by decide))).2
   obtain ⟨A',c',ev,-,-,hrow⟩:=IOwn.irow hown
   obtain ⟨kb,ko,eA,k1⟩:=hrow.at_ hlt
   have ec:A'=GA:=by injection ev with e1 _ _; exact e1.symm
   subst ec
   subst eA
   unfold eI at k1
   have HTK:Hid (∀ z,(z∉Wk.take (j + 1)∧has x.t z=true)↔(z≠Wk[j]∧(z∉Wk.take j∧has x.t z=true))):=fun z=>by
    rw [List.take_succ_eq_append_getElem hlt,List.mem_append,List.mem_singleton]
    constructor
    ·rintro ⟨h1,h2⟩
     exact ⟨fun e=>h1 (.inr e),fun e=>h1 (.inl e),h2⟩
    ·rintro ⟨h1,h2,h3⟩
     exact ⟨fun e=>e.elim h2 h1,h3⟩
   have hz64:=HW64.out _ (List.getElem_mem hlt)
   clear hown ev hrow
   generalize Wk[j]=z at *
   obtain ⟨w5,hrun,hm5,ht5⟩:=HM.out.drop hz64 0
   have HM5:=Hd (hm5.alike HTK.out)
   have HT5:Hid (TurnP (SFoot b m s4 G) (SFoot b m s4 G) w4 w5):=HT.out.trans ht5
   have c0:wA.cell? ⟨w.heap.size,0,none⟩=some (.pointer (some ⟨g,0,none⟩)):=(HK3.out.off HNK.out (HT4.out.trans HT.out)).cell 0
   have i0:=(HK3.out.off HNK.out (HT4.out.trans HT.out)).inside
   have c5:wA.cell? ⟨g,5,none⟩=some (.map (some m)):=HM.out.blk.blk.cell 5
   have i5:=HM.out.blk.inside
   clear hm5 ht5 HTK hz64 HM HT hlt
   go_wp2_with (fail)
   go_roundw
   case rel=>exact ⟨j + 1,HLT.out,by go_num,HM5,HT5⟩
   case measure=>have:=HLT.out; simp [intOf]; omega
  ·obtain rfl:j=Wk.length:=by omega
   have t1:decide (Wk.length < Wk.length)=false:=by simp
   have HM6:Hid (SMid wA g b m s4 Z G (fun z=>has G z=true) x.nd x.ws):=HM.out.alike fun z=>by rw [HHG.out,List.take_length]
   have HT6:Hid (TurnP (SFoot b m s x.t) (SFoot b m s4 G) w3 wA):=HT4.out.trans HT.out
   clear HM HT HO4 hlt
   go_wp2_with (fail)
   go_ret2
   rw [HE2.out]
   refine ⟨_,s4,rfl,HM6.out.scene fun _=>Iff.rfl,((TurnP.below HB1.out).trans (TurnP.below HB3.out)).trans HT6.out,fun _=>⟨fun k=>(k=w.heap.size∨k=kl)∨(∃ a,A=some a∧l≠[]∧k=a.block)∨∃ q∈l,∃ a,q.A=some a∧q.n.lk.l≠[]∧k=a.block,_,_,rfl,enters_remove1,?_,?_⟩⟩
   ·have key:∀ k,k < w3.heap.size→¬ SFoot b m s x.t k→¬ Z.3 k→k < wA.heap.size∧¬ Sor b m s4 G Z.3 k:=fun k h1 h2 h3=>⟨Nat.lt_of_lt_of_le h1 HT6.out.size,fun e=>e.elim (HT6.out.far k h1 h2).1 h3⟩
    rintro k ((rfl | rfl) | ⟨a,ea,hne,rfl⟩ | ⟨q,hq,a,ea,hne,rfl⟩)
    ·exact key _ HK3.out.inside HNK.out HEK.out
    ·exact key _ HL3.out.inside HNL.out HEL.out
    ·exact key _ (HOW.out a ea hne).2 (HOW.out a ea hne).1 (HOWE.out a ea hne)
    ·have h1:=(HOKS.out q hq).off
     exact key _ (Row.lt h1.1 ea hne) (h1.2 a ea hne) (h1.3 a ea hne)
   ·intro W s1 E hK hs
    have key:∀ k,k < w3.heap.size→¬ SFoot b m s x.t k→W.heap[k]?=wA.heap[k]?→W.heap[k]?=w3.heap[k]?:=fun k h1 h2 h3=>h3.trans (HT6.out.far k h1 h2).2
    obtain ⟨k1,hbq,hk1⟩:=HBQ.out
    have hrow:SRow 29 Sp.cs W A l:=fun hn=>by
     obtain ⟨b9,o9,e9,hc9⟩:=HRW.out hn
     have hne:l≠[]:=fun e=>by rw [e] at hn; exact absurd hn (by simp)
     refine ⟨b9,o9,e9,fun j hj i u hu=>?_⟩
     have h1:=hc9 j hj i u hu
     rw [← h1]
     unfold World.cell?
     rw [key b9 (World.block_lt_of_cell? w3 ⟨b9,_,none⟩ h1) (HOW.out _ e9 hne).1 (hK b9 (.inr (.inl ⟨_,e9,hne,rfl⟩))).1]
    have hmid:SMid W g b m s1 ⟨Z.1,Z.2,E⟩ (gone (trm.walk x.t ci) x.t) (fun z=>has (gone (trm.walk x.t ci) x.t) z=true) x.nd x.ws:=by rw [HG.out]; exact hs.mid
    have hof:∀ k,¬ SFoot b m s1 G k→¬ SFoot b m s1 (gone (trm.walk x.t ci) x.t) k:=fun k hk=>by rw [HG.out]; exact hk
    refine (remove_undo (f:=(ci,par x.t ci,idx (kids x.t (par x.t ci)) ci)) hmid HN.out HOK.out HCI.out rfl rfl hbq hk1 (HK3.out.stays (key _ HK3.out.inside HNK.out (hK _ (.inl (.inl rfl))).1)) (HL3.out.stays (key _ HL3.out.inside HNL.out (hK _ (.inl (.inr rfl))).1)) hrow (hof _ (hK _ (.inl (.inl rfl))).2.1)
     (fun a ea hne=>hof _ (hK _ (.inr (.inl ⟨a,ea,hne,rfl⟩))).2.1) fun q hq=>?_).mono ?_
    ·have h1:=HOKS.out q hq
     have hh:has x.t q.e.1=true:=(hbq.deep _ (List.mem_map_of_mem hq)).2
     exact ⟨h1.n.trans (if_pos hh),h1.u.trans (if_pos hh),Row.stays h1.off.1 fun a ea hne=>key _ (Row.lt h1.off.1 ea hne) (h1.off.2 a ea hne) (hK _ (.inr (.inr ⟨q,hq,a,ea,hne,rfl⟩))).1,fun a ea hne=>hof _ (hK _ (.inr (.inr ⟨q,hq,a,ea,hne,rfl⟩))).2.1,fun a ea hne=>(hK _ (.inr (.inr ⟨q,hq,a,ea,hne,rfl⟩))).2.2⟩
    ·rintro e W' ⟨he,s2,u,h5,h6,hal⟩
     have h7:=h5.scene (fun _=>Iff.rfl)
     rw [SFoot.alike hal,HG.out] at h6
     exact ⟨he,s2,h7.like ⟨HOK.out,hal,fun _ _=>rfl,fun _ _=>rfl⟩,h6⟩
end
end Go.Proofs.YthpifjcddgmjnaaGreat
namespace Go.Proofs.YthpifjcddgmjnaaGreat
open Go.RowKit pxm imm trm Go.Maps
def doS (most:Int) (x:PSc) (o:Op9):PSc×Int:=
 if o.k=1 then createS most x o.i o.p o.n else if o.k=2 then removeS x o.i else if o.k=3 then moveS x o.i o.p o.n else if 4≤o.k∧o.k≤8 then setS x o else (x,38)
structure OpOk (o:Op9):Prop where
 i:I64 o.i
 p:I64 o.p
 fit:Fit { Nd.plain with lk:=o.lk }
theorem OpQ.under {g b m:Nat} {Z:ZZ} {s:Sh} {x:PSc} {r:PSc×Int} {w w1 w':World} {e:Ending} (h:OpQ g b m Z s x r w1 e w') (hb:Below w.heap.size w w1):OpQ g b m Z s x r w e w':=by
 obtain ⟨fv,s',h1,h2,h3,h4⟩:=h
 exact ⟨fv,s',h1,h2,(TurnP.below hb).trans h3,h4⟩
section
variable {w:World} {g b m:Nat} {s:Sh} {Z:ZZ} {x:PSc}
theorem do_any (h:SceneAt w g b m s Z x) (hn:x.t.length≤900) (o:Op9) (Ao:Option Addr) (co:Nat) (hr:Row eW w Ao o.lk.l) (ho:OpOk o) (hfx:∀ i,has x.t i=true→Fit (x.nd i)) :
  Calls Tryz.prog 121 #[.pointer (some ⟨g,0,none⟩),o.v Ao co] w (OpQ g b m Z s x (doS Z.2.2 x o) w):=by
 have HB:Hid (Below w.heap.size w (w.alloc (.cells (o.cs Ao co).toArray 77))):=(Below.refl _ _).alloc (Nat.le_refl _) _
 have HK:Hid (Blk (w.alloc (.cells (o.cs Ao co).toArray 77)) w.heap.size (o.cs Ao co)):=blk_new w (o.cs Ao co) _
 have HS:Hid (SceneAt (w.alloc (.cells (o.cs Ao co).toArray 77)) g b m s Z x):=h.below HB.out
 have HR:Hid (Row eW (w.alloc (.cells (o.cs Ao co).toArray 77)) Ao o.lk.l):=Row.below hr HB.out
 have HN:=Hd hn
 have HO:=Hd ho
 have HFX:=Hd hfx
 obtain ⟨R,hR⟩:∃ R,doS Z.2.2 x o=R:=⟨_,rfl⟩
 have HE:=Hd hR
 rw [hR]
 clear hR h hn hr ho hfx
 unfold Op9.v
 go_enter Tryz.func121,Tryz.ntmps121
 go_upto_region 1 with (fail)
 generalize (w.alloc (.cells (o.cs Ao co).toArray 77))=w0 at *
 have c0:w0.cell? ⟨w.heap.size,0,none⟩=some (.int .i64 o.k):=HK.out.cell 0
 have c1:w0.cell? ⟨w.heap.size,1,none⟩=some (.int .i64 o.i):=HK.out.cell 1
 have c2:w0.cell? ⟨w.heap.size,2,none⟩=some (.int .i64 o.p):=HK.out.cell 2
 have c3:w0.cell? ⟨w.heap.size,3,none⟩=some (.int .i64 o.n):=HK.out.cell 3
 have i0:w.heap.size < w0.heap.size:=HK.out.inside
 by_cases h1:o.k=1
 ·skip
  have t1:(o.k == 1)=true:=by simpa using h1
  have HE2:Hid (R=createS Z.2.2 x o.i o.p o.n):=by show _=_; rw [← HE.out]; unfold doS; rw [if_pos h1]
  clear h1 HE
  have HC:=Hd (create_any HS.out HN.out o.i o.p o.n HO.out.i HO.out.p)
  go_wp2_with (fail)
  refine HC.out.mono ?_
  rw [← HE2.out]
  rintro e w1 ⟨fv,s1,rfl,h2,h3,h4⟩
  have H2:=Hd h2
  have H3:=Hd h3
  have H4:=Hd h4
  clear h2 h3 h4
  go_wp2_with (fail)
  go_ret2
  exact ⟨_,s1,rfl,H2.out,(TurnP.below HB.out).trans H3.out,H4.out⟩
 by_cases h2:o.k=2
 ·skip
  have t1:(o.k == 1)=false:=by simpa using h1
  have t2:(o.k == 2)=true:=by simpa using h2
  have HE2:Hid (R=removeS x o.i):=by show _=_; rw [← HE.out]; unfold doS; rw [if_neg h1,if_pos h2]
  clear h1 h2 HE
  have HC:=Hd (remove_any HS.out HN.out o.i HO.out.i)
  go_wp2_with (fail)
  refine HC.out.mono ?_
  rw [← HE2.out]
  rintro e w1 ⟨fv,s1,rfl,h2,h3,h4⟩
  have H2:=Hd h2
  have H3:=Hd h3
  have H4:=Hd h4
  clear h2 h3 h4
  go_wp2_with (fail)
  go_ret2
  exact ⟨_,s1,rfl,H2.out,(TurnP.below HB.out).trans H3.out,H4.out⟩
 by_cases h3:o.k=3
 ·skip
  have t1:(o.k == 1)=false:=by simpa using h1
  have t2:(o.k == 2)=false:=by simpa using h2
  have t3:(o.k == 3)=true:=by simpa using h3
  have HE2:Hid (R=moveS x o.i o.p o.n):=by show _=_; rw [← HE.out]; unfold doS; rw [if_neg h1,if_neg h2,if_pos h3]
  clear h1 h2 h3 HE
  have HC:=Hd (move_any HS.out HN.out o.i o.p o.n HO.out.i HO.out.p)
  go_wp2_with (fail)
  refine HC.out.mono ?_
  rw [← HE2.out]
  rintro e w1 ⟨fv,s1,rfl,h2,h3,h4⟩
  have H2:=Hd h2
  have H3:=Hd h3
  have H4:=Hd h4
  clear h2 h3 h4
  go_wp2_with (fail)
  go_ret2
  exact ⟨_,s1,rfl,H2.out,(TurnP.below HB.out).trans H3.out,H4.out⟩
 by_cases h4:o.k=4
 ·skip
  have t1:(o.k == 1)=false:=by simpa using h1
  have t2:(o.k == 2)=false:=by simpa using h2
  have t3:(o.k == 3)=false:=by simpa using h3
  have t4:(o.k == 4)=true:=by simpa using h4
  have HE2:Hid (R=setS x o):=by show _=_; rw [← HE.out]; unfold doS; rw [if_neg h1,if_neg h2,if_neg h3,if_pos (by omega)]
  clear h1 h2 h3 h4 HE
  have HC:=Hd (set_any HS.out (by have:=HN.out; omega) o Ao co HR.out HO.out.fit HFX.out HO.out.i)
  go_wp2_with (first | (with_reducible show wpList _ _ _ (Oper.mk _ (Op.load _ _) _ _ _ _ :: _) _ _; first | (refine wpl_take 77 _ rfl rfl _ 0 rfl (o.cs Ao co) HK.out (o.cs Ao co) rfl _ Tryz.underlying77 rfl (by kernel_rfl) ?_)))
  refine HC.out.mono ?_
  rw [← HE2.out]
  rintro e w1 ⟨fv,s1,rfl,h2,h3,h4⟩
  have H2:=Hd h2
  have H3:=Hd h3
  have H4:=Hd h4
  clear h2 h3 h4
  go_wp2_with (fail)
  go_ret2
  exact ⟨_,s1,rfl,H2.out,(TurnP.below HB.out).trans H3.out,H4.out⟩
 by_cases h5:o.k=5
 ·skip
  have t1:(o.k == 1)=false:=by simpa using h1
  have t2:(o.k == 2)=false:=by simpa using h2
  have t3:(o.k == 3)=false:=by simpa using h3
  have t4:(o.k == 4)=false:=by simpa using h4
  have t5:(o.k == 5)=true:=by simpa using h5
  have HE2:Hid (R=setS x o):=by show _=_; rw [← HE.out]; unfold doS; rw [if_neg h1,if_neg h2,if_neg h3,if_pos (by omega)]
  clear h1 h2 h3 h4 h5 HE
  have HC:=Hd (set_any HS.out (by have:=HN.out; omega) o Ao co HR.out HO.out.fit HFX.out HO.out.i)
  go_wp2_with (first | (with_reducible show wpList _ _ _ (Oper.mk _ (Op.load _ _) _ _ _ _ :: _) _ _; first | (refine wpl_take 77 _ rfl rfl _ 0 rfl (o.cs Ao co) HK.out (o.cs Ao co) rfl _ Tryz.underlying77 rfl (by kernel_rfl) ?_)))
  refine HC.out.mono ?_
  rw [← HE2.out]
  rintro e w1 ⟨fv,s1,rfl,h2,h3,h4⟩
  have H2:=Hd h2
  have H3:=Hd h3
  have H4:=Hd h4
  clear h2 h3 h4
  go_wp2_with (fail)
  go_ret2
  exact ⟨_,s1,rfl,H2.out,(TurnP.below HB.out).trans H3.out,H4.out⟩
 by_cases h6:o.k=6
 ·skip
  have t1:(o.k == 1)=false:=by simpa using h1
  have t2:(o.k == 2)=false:=by simpa using h2
  have t3:(o.k == 3)=false:=by simpa using h3
  have t4:(o.k == 4)=false:=by simpa using h4
  have t5:(o.k == 5)=false:=by simpa using h5
  have t6:(o.k == 6)=true:=by simpa using h6
  have HE2:Hid (R=setS x o):=by show _=_; rw [← HE.out]; unfold doS; rw [if_neg h1,if_neg h2,if_neg h3,if_pos (by omega)]
  clear h1 h2 h3 h4 h5 h6 HE
  have HC:=Hd (set_any HS.out (by have:=HN.out; omega) o Ao co HR.out HO.out.fit HFX.out HO.out.i)
  go_wp2_with (first | (with_reducible show wpList _ _ _ (Oper.mk _ (Op.load _ _) _ _ _ _ :: _) _ _; first | (refine wpl_take 77 _ rfl rfl _ 0 rfl (o.cs Ao co) HK.out (o.cs Ao co) rfl _ Tryz.underlying77 rfl (by kernel_rfl) ?_)))
  refine HC.out.mono ?_
  rw [← HE2.out]
  rintro e w1 ⟨fv,s1,rfl,h2,h3,h4⟩
  have H2:=Hd h2
  have H3:=Hd h3
  have H4:=Hd h4
  clear h2 h3 h4
  go_wp2_with (fail)
  go_ret2
  exact ⟨_,s1,rfl,H2.out,(TurnP.below HB.out).trans H3.out,H4.out⟩
 by_cases h7:o.k=7
 ·skip
  have t1:(o.k == 1)=false:=by simpa using h1
  have t2:(o.k == 2)=false:=by simpa using h2
  have t3:(o.k == 3)=false:=by simpa using h3
  have t4:(o.k == 4)=false:=by simpa using h4
  have t5:(o.k == 5)=false:=by simpa using h5
  have t6:(o.k == 6)=false:=by simpa using h6
  have t7:(o.k == 7)=true:=by simpa using h7
  have HE2:Hid (R=setS x o):=by show _=_; rw [← HE.out]; unfold doS; rw [if_neg h1,if_neg h2,if_neg h3,if_pos (by omega)]
  clear h1 h2 h3 h4 h5 h6 h7 HE
  have HC:=Hd (set_any HS.out (by have:=HN.out; omega) o Ao co HR.out HO.out.fit HFX.out HO.out.i)
  go_wp2_with (first | (with_reducible show wpList _ _ _ (Oper.mk _ (Op.load _ _) _ _ _ _ :: _) _ _; first | (refine wpl_take 77 _ rfl rfl _ 0 rfl (o.cs Ao co) HK.out (o.cs Ao co) rfl _ Tryz.underlying77 rfl (by kernel_rfl) ?_)))
  refine HC.out.mono ?_
  rw [← HE2.out]
  rintro e w1 ⟨fv,s1,rfl,h2,h3,h4⟩
  have H2:=Hd h2
  have H3:=Hd h3
  have H4:=Hd h4
  clear h2 h3 h4
  go_wp2_with (fail)
  go_ret2
  exact ⟨_,s1,rfl,H2.out,(TurnP.below HB.out).trans H3.out,H4.out⟩
 by_cases h8:o.k=8
 ·skip
  have t1:(o.k == 1)=false:=by simpa using h1
  have t2:(o.k == 2)=false:=by simpa using h2
  have t3:(o.k == 3)=false:=by simpa using h3
  have t4:(o.k == 4)=false:=by simpa using h4
  have t5:(o.k == 5)=false:=by simpa using h5
  have t6:(o.k == 6)=false:=by simpa using h6
  have t7:(o.k == 7)=false:=by simpa using h7
  have t8:(o.k == 8)=true:=by simpa using h8
  have HE2:Hid (R=setS x o):=by show _=_; rw [← HE.out]; unfold doS; rw [if_neg h1,if_neg h2,if_neg h3,if_pos (by omega)]
  clear h1 h2 h3 h4 h5 h6 h7 h8 HE
  have HC:=Hd (set_any HS.out (by have:=HN.out; omega) o Ao co HR.out HO.out.fit HFX.out HO.out.i)
  go_wp2_with (first | (with_reducible show wpList _ _ _ (Oper.mk _ (Op.load _ _) _ _ _ _ :: _) _ _; first | (refine wpl_take 77 _ rfl rfl _ 0 rfl (o.cs Ao co) HK.out (o.cs Ao co) rfl _ Tryz.underlying77 rfl (by kernel_rfl) ?_)))
  refine HC.out.mono ?_
  rw [← HE2.out]
  rintro e w1 ⟨fv,s1,rfl,h2,h3,h4⟩
  have H2:=Hd h2
  have H3:=Hd h3
  have H4:=Hd h4
  clear h2 h3 h4
  go_wp2_with (fail)
  go_ret2
  exact ⟨_,s1,rfl,H2.out,(TurnP.below HB.out).trans H3.out,H4.out⟩
 ·skip
  have t1:(o.k == 1)=false:=by simpa using h1
  have t2:(o.k == 2)=false:=by simpa using h2
  have t3:(o.k == 3)=false:=by simpa using h3
  have t4:(o.k == 4)=false:=by simpa using h4
  have t5:(o.k == 5)=false:=by simpa using h5
  have t6:(o.k == 6)=false:=by simpa using h6
  have t7:(o.k == 7)=false:=by simpa using h7
  have t8:(o.k == 8)=false:=by simpa using h8
  have HE2:Hid (R=(x,38)):=by show _=_; rw [← HE.out]; unfold doS; rw [if_neg h1,if_neg h2,if_neg h3,if_neg (by omega)]
  clear h1 h2 h3 h4 h5 h6 h7 h8 HE
  go_wp2_with (fail)
  go_ret2
  rw [HE2.out]
  exact ⟨_,s,rfl,HS.out,TurnP.below HB.out,fun e=>nomatch e⟩
end
end Go.Proofs.YthpifjcddgmjnaaGreat
