import Derived.Test.YthmegninhpihkaaGreatVScP
set_option maxHeartbeats 16000000
set_option maxRecDepth 100000
open Go.Proofs.Tryz
namespace Go.Proofs.YthmegninhpihkaaGreat
section
open Go.RowKit fG gm aF Go.Maps
theorem qp{P:Program}{ops:Array Oper}{rest:List Oper}{o:Oper}{a:Act}{Q:Exit->Act->World->Prop}{w:World}(ty:TypeId)(x:Operand)(ho:o.op=.load ty x)(hgd:Region.wanted o (yielded ops a.tmps)=true)(g f:Nat)(hx:a.eval x=.pointer (some ⟨g,f,none⟩))(ls:List Value)(hr:w.rangeAt g f ls)
  (d:TypeDesc) (hu:P.underlying ty=some d) (hd:d.isRow=true) (hi:(P.info? ty).map (·.size)=some ls.length) (h:wpList P ops Q rest (a.put o.dst (.agg ls.toArray)) w):wpList P ops Q (o::rest) a w:=by
 unfold wpList;rw[if_pos hgd];refine .inl ?_;unfold Oper.wp execOp;simp only[ho,hx,Instr.loadAt,Instr.sureAddr,Sem.run_bind,Sem.run_pure,Result.andThen_ok,run_loadVar_mid w g f ty ls d hr hu hd hi];exact h
theorem aV.off{α:Type}{k:Nat}{enc:α->List Value}{S S':bF}{w w':World}{A:Option Addr}{l:List α}(h:aV k enc w A l)(ha:∀a,A=some a->l≠[]->¬S a.block)(ht:ae S S' w w'):aV k enc w' A l:=fun hn=>by
 obtain⟨b,o,e,hc⟩:=h hn;have hne:l≠[]:=fun e=>by rw[e]at hn;exact absurd hn (by simp)
 refine⟨b,o,e,fun j hj i u hu=>?_⟩;have h1:=hc j hj i u hu;rw[←h1];unfold World.cell?;rw[(ht.far b (World.block_lt_of_cell? w ⟨b,_,none⟩ h1) (ha _ e hne)).2]
section
variable {w:World}{g b m:Nat}{s:Sh}{Z:ZZ}{x:aJ}{t:T}{H:Int->Prop}{nd:Int->Nd}{ws:Int->Mp}
theorem gY.apart(h:gY w g b m s Z t H nd ws){k:Nat}{cu:Array Value}{fr:Nat×Nat}{T:TypeId}(hk:w.heap[k]?=some (.cells cu T fr))(h1:T≠yL)(h2:T≠mG)(h3:T≠jg):¬af b m s t k:=by
 rintro(e|e|e|⟨i,hi,e|e⟩)
 ·obtain⟨es,hm,_⟩:=h.map;obtain⟨es',clock,h4,_⟩:=hm.own;rw[e,h4]at hk;cases hk
 ·have h4:w.heap[b]?=_:=h.tree.raw.blk;rw[e]at hk;have:=hk.symm.trans h4;simp only[Option.some.injEq,Obj.cells.injEq]at this;exact h1 this.2.1
 ·obtain⟨es,hm,_⟩:=h.tree.raw.map;obtain⟨es',clock,h4,_⟩:=hm.own;rw[e,h4]at hk;cases hk
 ·have h4:w.heap[s.g i]?=_:=(h.tree.raw.node i hi).blk;rw[e]at hk;have:=hk.symm.trans h4;simp only[Option.some.injEq,Obj.cells.injEq]at this;exact h2 this.2.1
 ·obtain⟨cur,fr',h4⟩:=(h.tree.raw.node i hi).own.typed e;have:=hk.symm.trans h4;simp only[Option.some.injEq,Obj.cells.injEq]at this;exact h3 this.2.1
theorem FZ{f:S3}{k1:Nat}{l:List Sp}{A:Option Addr}{c:Nat}(h:gY w g b m s Z (gone (aF.walk t f.1) t) (fun z=>has (gone (aF.walk t f.1) t) z=true) nd ws)(hn:t.length<=1000)(ok:Ok t)(hf:f.1∈ids t)(hp0:f.2.1=par t f.1)(hq0:f.2.2=idx (aF.kids t (par t f.1)) f.1)
  (hbq:BQ t f k1 (l.map (·.e))) (hk1:l.length<=k1) {kb kl:Nat} (hb:az w kb [.pointer (some ⟨g,0,none⟩)]) (hl:az w kl [.slice A l.length c]) (hr:aV 29 Sp.cs w A l) (h1:¬af b m s (gone (aF.walk t f.1) t) kb) (h3:∀a,A=some a->l≠[]->¬af b m s (gone (aF.walk t f.1) t) a.block)
  (hq:∀q∈l,q.n=nd q.e.1∧q.u=ws q.e.1∧dD Z.3 (af b m s (gone (aF.walk t f.1) t)) w q.n q.A) :
  Calls prog 120 #[.pointer (some ⟨kl,0,none⟩),.pointer (some ⟨kb,0,none⟩)] w fun e w'=>(∃r,e=.returned r)∧∃s' u,gY w' g b m s' Z u (fun z=>has u z=true) nd ws∧ae (af b m s (gone (aF.walk t f.1) t)) (af b m s' u) w w'∧∀q,aF.kids u q=aF.kids t q:=by
 have a1d:Hid (aF.Back t (aF.walk t f.1) (l.map (·.e)) 0 (gone (aF.walk t f.1) t)):=aF.Back.start ok hf _
 obtain⟨G,hG⟩:=aC (gone (aF.walk t f.1) t)
 rw[hG]at h h1 h3 hq a1d;rw[hG];have HS:=Hd h;have HN:=Hd hn;have dY:=Hd ok;have UZ:=Hd (fun(j:Nat) (u:T) (hb:aF.Back t (aF.walk t f.1) (l.map (·.e)) j u) (hj:j<(l.map (·.e)).length)=>aF.Back.next ok hf hp0 hq0 hbq (by rw[List.length_map];exact hk1) hb hj);have HEN:=Hd (fun(u:T) (hb:aF.Back t (aF.walk t f.1) (l.map (·.e)) (l.map (·.e)).length u)=>aF.Back.end_ ok hf hbq (by rw[List.length_map];exact hk1) hb);have IV:=Hd hb;have HR:=Hd hr;have sJ:=Hd h1;have HNR:=Hd h3;have HQ:=Hd hq
 have ql:Hid (l.length<=1001):=by
  have:=hbq.len;rw[List.length_map]at this;show _<=_;omega
 have c0:=hl.c 0 rfl;have i0:=hl.inside
 have hD:∃D,aF.walk t f.1=D:=⟨_,rfl⟩
 clear h hn ok hf hp0 hq0 hbq hk1 hb hl hr h1 h3 hq hG;obtain⟨D,hD⟩:=hD;rw[hD]at a1d UZ HEN;clear hD;go_enter func120,ntmps120;go_wp2_with (fail);clear c0 i0
 go_loopw [6] (fun x6 wr=>∃(j:Nat) (sj:Sh) (u:T),j<=l.length∧x6=.int .i64 j∧Hid (gY wr g b m sj Z u (fun z=>has u z=true) nd ws)∧Hid (ae (af b m s G) (af b m sj u) w wr)∧Hid (aF.Back t D (l.map (·.e)) j u)) (fun x6 _=>l.length - (intOf x6).toNat)
 case atStart=>exact⟨0,s,G,Nat.zero_le _,rfl,HS.o,ae.refl _ _,a1d.o⟩
 case round=>
  obtain⟨j,sj,u,hj,rfl,HM,HT,yD⟩:=hrel;generalize wr=wA at*;have hjb:(j:Int)<=100000:=by have:=ql.o;omega
  by_cases hlt:j<l.length
  ·have t1:decide (j<l.length)=true:=by simpa using hlt
   have gQ:=Hd hlt;have hrw:=HR.o.off HNR.o HT.o;obtain⟨lb,lo,eA,hcell⟩:=hrw (by omega);subst eA;have hnx:=UZ.o j u yD.o (by rw[List.length_map];exact hlt);simp only[List.getElem_map]at hnx
   obtain⟨q,hq⟩:∃q,q=l[j]'hlt:=⟨_,rfl⟩
   have oZ:Hid (wA.rangeAt lb (lo+j*29) q.cs):=by
    rw[hq];exact fun i v hv=>hcell j hlt i v hv
   have HQQ:Hid (q.n=nd q.e.1∧q.u=ws q.e.1∧dD Z.3 (af b m s G) w q.n q.A):=by
    rw[hq];exact HQ.o _ (List.getElem_mem hlt)
   have hnx:gJ u q.e.1 q.e.2.1 q.e.2.2=((gJ u q.e.1 q.e.2.1 q.e.2.2).1,0)∧aF.Back t D (l.map (·.e)) (j+1) (gJ u q.e.1 q.e.2.1 q.e.2.2).1∧q.e.1∈ids t∧q.e.2.1=par t q.e.1:=by
    rw[hq];exact hnx
   obtain⟨u2,hu2⟩:=aC ((gJ u q.e.1 q.e.2.1 q.e.2.2).1)
   rw[hu2]at hnx;have HAD:Hid (gJ u q.e.1 q.e.2.1 q.e.2.2=(u2,0)):=hnx.1;have LC:=Hd hnx.2.1;have HI1:Hid (I64 q.e.1):=mX dY.o (ah.2 (.inr hnx.2.2.1));have HI2:Hid (I64 q.e.2.1):=by rw[hnx.2.2.2];exact DX dY.o _
   have HAB:Hid (∀z,has u2 z=true↔z=q.e.1∨has u z=true):=(qN HM.o.tree.ok HAD.o).2.2.2.1;have HLU:Hid (u.length<=1000):=by show _<=_;have:=yD.o.len;have:=HN.o;omega
   have a4x:Hid (u2.length<=100000):=by show _<=_;have:=LC.o.len;have:=HN.o;omega
   have HZ2:Hid (az (wA.alloc (.cells Ve.toArray 246)) wA.heap.size Ve):=aA wA Ve _;have iO:Hid (Below wA.heap.size wA (wA.alloc (.cells Ve.toArray 246))):=bR.alloc nR _;clear hrw hcell hnx hq hu2
   go_upto_region 3 with(first|((with_reducible refine gL ?_);refine qp 246 _ rfl rfl _ _ rfl (q.cs) oZ.o _ underlying246 rfl ag ?_)|((with_reducible refine gS ?_);refine ay 246 _ _ rfl rfl rfl _ 0 rfl (q.cs) rfl (Ve) HZ2.o (q.cs) rfl (nE rfl) ag (yQ _ _ _ _ _ _ _) ?_;intro w3 HW3 dM))
   have HB3:Hid (Below wA.heap.size wA w3):=HW3.o.below iO.o nR;have sK:=Hd (HM.o.below HB3.o);have HT3:Hid (ae (af b m s G) (af b m sj u) w w3):=HT.o.trans (ae.below HB3.o);have a1e:Hid (az w3 kb [.pointer (some ⟨g,0,none⟩)]):=IV.o.off sJ.o HT3.o;have a0S:Hid (¬af b m sj u kb):=(HT3.o.far kb IV.o.inside sJ.o).1
   obtain⟨kv,hkv⟩:=aC wA.heap.size
   have IB:Hid (¬af b m sj u kv):=fun e=>by have:=HM.o.inside _ e;omega
   rw[hkv]at dM ⊢;have Iq:Hid (az w3 kv q.cs):=dM.o;have a3l:=Hd sK.o.blk;have a2I:=Hd sK.o.jh;clear HZ2 iO HW3 HB3 HM HT dM oZ hkv
   refine wR (ae (af b m sj u) (af b m sj u)) (fun L wx=>Qm w3 g b m sj Z u (fun z=>has u z=true) nd ws u2 (L 10) wx) [10,11,12,13,14,15,16,17,18,19,20] (fun _=>ae.refl _ _) (fun _ _ _ h k=>h.trans k) (fun i=>match i with
    |0|1=>rp g 0
    |2=>rp g 1
    |3=>rp b 0
    |4=>rp kv 0
    |5=>rV (.int .i64 q.e.1)
    |6=>rp kv 1
    |7=>rV (.int .i64 q.e.2.1)
    |8=>rp kv 2
    |9=>rV (.int .i64 q.e.2.2)
    |_=>ra) (ae.below bR.drew) (⟨fun _=>sK.o.below bR.drew,nofun⟩) ⟨?_,?_,?_,?_,?_,?_,?_,?_,?_,?_,?_,trivial⟩ ?_
   any_goals (first|refine zp fun L a w1 hh=>?_|fail)
   have h1:=hh.p 1 kb 0;have ⟨c0,i0⟩:=(a1e.o.off a0S.o hh.rel).ci 0 rfl;rotate_left;have h10:=rq (hh.d 0 10);rotate_left;have h11:=rq (hh.d 1 11);have i0:=((au.off a3l.o a2I.o hh.rel).blk).inside;rotate_left;have h12:=rq (hh.d 2 12);have ⟨c0,i0⟩:=((au.off a3l.o a2I.o hh.rel).blk).ci 1 rfl;rotate_left;have h3:=hh.p 3 kv 0;have i0:=(Iq.o.off IB.o hh.rel).inside;rotate_left;have xI:=rq (hh.d 4 14);have ⟨c0,i0⟩:=(Iq.o.off IB.o hh.rel).ci 0 rfl;rotate_left;have h3:=hh.p 3 kv 0;have i0:=(Iq.o.off IB.o hh.rel).inside;rotate_left;have h16:=rq (hh.d 6 16)
   have ⟨c0,i0⟩:=(Iq.o.off IB.o hh.rel).ci 1 rfl;rotate_left;have h3:=hh.p 3 kv 0;have i0:=(Iq.o.off IB.o hh.rel).inside;rotate_left;have h18:=rq (hh.d 8 18);have ⟨c0,i0⟩:=(Iq.o.off IB.o hh.rel).ci 2 rfl;rotate_left
   ·have h13:=rq (hh.d 3 13);have h15:=rq (hh.d 5 15);have h17:=rq (hh.d 7 17);have h19:=rq (hh.d 9 19);have hS:=Hd (hh.st.no hh.un);have hR:=Hd (show ae (af b m sj u) (af b m sj u) w3 w1 from hh.rel);have hB:=Hd (show ∀wq,regs.bl w1 wq->True from fun _ _=>trivial);clear hh hB;go_simp;refine(a1r hS.o.tree HLU.o q.e.1 q.e.2.1 q.e.2.2 HI1.o HI2.o).mono ?_;rw[HAD.o];rintro e w9 ⟨s9,rfl,lu,QE⟩;have hm:=hS.o.step lu QE;exact⟨_,rfl,hm.2.wide (fun _ k=>k),trivial,⟨nofun,fun _=>⟨_,hm.1,hR.o.trans hm.2⟩⟩⟩
   any_goals (have hJ:=hh.j;clear hh;go_simp;exact⟨_,rfl,ae.refl _ _,rfl,hJ.o⟩)
   intro L w4 val hL hJ hR hv;have HR4:=Hd hR;obtain⟨sk,xn,GK⟩:=hJ.yes (hL 10 (by decide));have gZ:=Hd xn;have HT4:=Hd GK;clear hv hL hJ hR xn GK;simp only[regs.aG,List.map_cons,List.map_nil];simp only[Act.put,List.setIfInBounds_toArray,List.set_cons_zero,List.set_cons_succ]
   skip
   have a4R:Hid (az w4 kb [.pointer (some ⟨g,0,none⟩)]):=a1e.o.off a0S.o HT4.o;have Qv:Hid (¬af b m sk u2 kb):=(HT4.o.far kb a1e.o.inside a0S.o).1;have XN:Hid (az w4 kv q.cs):=Iq.o.off IB.o HT4.o;have X7:Hid (¬af b m sk u2 kv):=(HT4.o.far kv Iq.o.inside IB.o).1;have a3k:=Hd gZ.o.blk;have a2H:=Hd gZ.o.jh;have UK:Hid (ae (af b m s G) (af b m sk u2) w w4):=HT3.o.trans HT4.o;have qj:Hid (dD Z.3 (af b m sk u2) w4 q.n q.A):=HQQ.o.2.2.turn UK.o
   go_upto_region 4 with(fail)
   refine wR (ae (af b m sk u2) (af b m sk u2)) (fun L wx=>Qn g b m sk Z u2 ((fun z=>has u z=true)) nd ws ((fun z=>z=q.e.1∨has u z=true)) ((upd nd q.e.1 q.n)) ((upd ws q.e.1 q.u)) (L 8) wx) [21,22,23,24,25,26,27,28] (fun _=>ae.refl _ _) (fun _ _ _ h k=>h.trans k) (fun i=>match i with
    |0|1=>rp g 0
    |2=>rp g 5
    |3=>rV (.map (some m))
    |4=>rp kv 0
    |5=>rV (.int .i64 q.e.1)
    |6=>rp kv 3
    |7=>rV (.agg (dZ q.n q.A q.c q.u).toArray)
    |_=>ra) (ae.below bR.drew) (⟨fun _=>gZ.o.below bR.drew,nofun⟩) ⟨?_,?_,?_,?_,?_,?_,?_,?_,?_,trivial⟩ ?_
   any_goals (first|refine zp fun L a w1 hh=>?_|fail)
   have h1:=hh.p 1 kb 0;have ⟨c0,i0⟩:=(a4R.o.off Qv.o hh.rel).ci 0 rfl;rotate_left;have h21:=rq (hh.d 0 21);rotate_left;have h22:=rq (hh.d 1 22);have i0:=((au.off a3k.o a2H.o hh.rel).blk).inside;rotate_left;have h23:=rq (hh.d 2 23);have ⟨c0,i0⟩:=((au.off a3k.o a2H.o hh.rel).blk).ci 5 rfl;rotate_left;have h3:=hh.p 3 kv 0;have i0:=(XN.o.off X7.o hh.rel).inside;rotate_left;have pO:=rq (hh.d 4 25);have ⟨c0,i0⟩:=(XN.o.off X7.o hh.rel).ci 0 rfl;rotate_left;have h3:=hh.p 3 kv 0;have i0:=(XN.o.off X7.o hh.rel).inside;rotate_left
   ·have h27:=rq (hh.d 6 27);have hB:=Hd (XN.o.off X7.o hh.rel);have hJ:=Hd hh.st;exact aK 137 _ rfl kv 3 (by simpa[go_sem]using h27) _ hB.o (dZ q.n q.A q.c q.u) rfl _ underlying137 rfl ag ⟨_,rfl,ae.refl _ _,rfl,hJ.o⟩
   ·have CX:=rq (hh.d 3 24);have IX:=rq (hh.d 5 26);have h28:=rq (hh.d 7 28);obtain⟨w9,hrun,hs9,lu⟩:=(hh.st.no hh.un).store a4x.o (fun z hz=>(HAB.o z).2 (.inr hz)) HI1.o (show wH Z.3 (af b m sk u2) w1 (.agg (dZ q.n q.A q.c q.u).toArray) q.n q.u from⟨_,_,rfl,qj.o.turn hh.rel⟩);have Pn:=Hd hs9;have Pm:=Hd lu;clear hh hs9 lu;go_simp;exact⟨Pm.o,⟨undef,trivial⟩,nofun,fun _=>Pn.o⟩
   any_goals (have hJ:=hh.j;clear hh;go_simp;exact⟨_,rfl,ae.refl _ _,rfl,hJ.o⟩)
   intro L w6 val hL hJ hR hv;have Qs:=Hd hR;have yB:=Hd (hJ.yes (hL 8 (by decide)));clear hv hL hJ hR;simp only[regs.aG,List.map_cons,List.map_nil];simp only[Act.put,List.setIfInBounds_toArray,List.set_cons_zero,List.set_cons_succ]
   skip
   have IE:Hid (gY w6 g b m sk Z u2 (fun z=>has u2 z=true) nd ws):=by
    have h1:=yB.o.alike HAB.o;rw[HQQ.o.1,HQQ.o.2.1,jy,jy]at h1;exact h1
   have QQ:Hid (ae (af b m s G) (af b m sk u2) w w6):=UK.o.trans Qs.o;clear yB UK sK HT3 gZ HT4;go_wp2_with (fail)
   go_roundw
   case rel=>exact⟨j+1,sk,u2,gQ.o,by go_num,IE,QQ,LC⟩
   case measure=>have:=gQ.o;simp[intOf];omega
  ·obtain rfl:j=l.length:=by omega
   have t1:decide (l.length<l.length)=false:=by simp
   have HFI:=Hd (HEN.o u (by rw[List.length_map];exact yD.o));clear UZ HEN;go_wp2_with (fail)
   go_end0
   exact⟨⟨_,rfl⟩,sj,u,HM.o,HT.o,HFI.o⟩
def fJ(x:aJ)(i:Int):aJ×Int:=if (jF x.t i).2.2≠0 then (x,(jF x.t i).2.2) else (⟨(jF x.t i).1,x.nd,x.ws⟩,0)
theorem RF{t:T}{i:Int}(h:(jF t i).2.2≠0):(jF t i).1=t:=by
 unfold jF at h ⊢;by_cases h1:i=0
 ·rw[if_pos h1]
 rw[if_neg h1]at h ⊢;by_cases h2:has t i=false
 ·rw[if_pos h2]
 rw[if_neg h2]at h;exact absurd rfl h
theorem yS{t:T}{i:Int}(h:(jF t i).2.2=0):i∈ids t∧jF t i=(gone (aF.walk t i) t,aF.walk t i,0):=by
 unfold jF at h ⊢;by_cases h1:i=0
 ·rw[if_pos h1]at h;cases h
 rw[if_neg h1]at h ⊢;by_cases h2:has t i=false
 ·rw[if_pos h2]at h;cases h
 rw[if_neg h2];exact⟨(ah.1 (by simpa using h2)).resolve_left h1,rfl⟩
theorem zH{t:T}(ok:Ok t){i z:Int}(hi:i∈ids t):has (gone (aF.walk t i) t) z=true↔z∉aF.walk t i∧has t z=true:=by
 rw[ah,ah,pJ];constructor
 ·rintro(h|⟨h1,h2⟩)
  ·subst h;refine⟨fun hw=>?_,.inl rfl⟩;rcases(dI ok (.inr hi)).1 hw with e|e
   ·exact ok.uK hi e.symm
   ·exact ok.uK (bH e).1 rfl
  ·exact⟨h2,.inr h1⟩
 ·rintro⟨h1,h2|h2⟩
  ·exact .inl h2
  ·exact .inr ⟨h2,h1⟩
theorem zS:Enters prog 120:=enters_of func120 ag rfl
theorem Jl(h:ak w g b m s Z x)(hn:x.t.length<=900)(ci:Int)(hi:I64 ci) :
  Calls prog 96 #[.pointer (some ⟨g,0,none⟩),.int .i64 ci] w (VX g b m Z s x (fJ x ci) w):=by
 obtain⟨w1,hw1⟩:∃w1,w1=w.alloc (.cells #[.pointer (some ⟨g,0,none⟩)] 25):=⟨_,rfl⟩
 have hb1:bz w w1:=by rw[hw1];exact bR.alloc nR _
 have HB1:=Hd hb1;have og:Hid (az w1 w.heap.size [.pointer (some ⟨g,0,none⟩)]):=by rw[hw1];exact aA w [.pointer (some ⟨g,0,none⟩)] _
 have hs1:=h.below hb1;have kH:=Hd hs1;have kG:Hid (∀k,af b m s x.t k->k<w.heap.size):=h.inside;have IA:Hid (∀k,Z.3 k->k<w.heap.size):=fun k hk=>(h.old k hk).1;have HN:Hid (x.t.length<=1000):=by show _<=_;omega
 have HI:=Hd hi;have dY:=Hd h.tree.ok;have EE:=Hd (Oi hs1 HN.o ci hi);unfold Uz at EE;have HW1:=Hd hw1
 obtain⟨R,hR⟩:=aC (fJ x ci)
 have HR:=Hd hR;rw[hR];have c0:=og.o.c 0 rfl;have i0:=og.o.inside;rw[hw1]at c0 i0 EE;clear h hn hi hb1 hs1 hR hw1;go_enter func96,ntmps96;go_wp2_with (fail);refine EE.o.mono ?_;rintro e w2 ⟨v,l,rfl,ho,hb2,hbi,hok⟩;rw[←HW1.o]at ho hb2;clear c0 i0 EE;obtain⟨A,c,rfl,hlc,hcm,hrow⟩:=ax.row ho Sp.bZ
 obtain⟨w3,hw3⟩:∃w3,w3=w2.alloc (.cells #[.slice A l.length c] 243):=⟨_,rfl⟩
 have hb3:Below w2.heap.size w2 w3:=by rw[hw3];exact bR.alloc nR _
 have HB3:Hid (bz w1 w3):=hb2.trans (hb3.mono hb2.size);have HL3:Hid (az w3 w2.heap.size [.slice A l.length c]):=by rw[hw3];exact aA w2 [.slice A l.length c] _
 have dM:=Hd (og.o.below' HB3.o);have hs3:=kH.o.below HB3.o;have qO:=Hd hs3;have HRW:Hid (aV 29 Sp.cs w3 A l):=aV.below hrow hb3
 have HOW:Hid (∀a,A=some a->l≠[]->¬af b m s x.t a.block∧a.block<w3.heap.size):=fun a ea hne=>by
  have h1:=ax.block ho (show(Value.slice A l.length c).ownBlock=some a.block by rw[ea];rfl);have h2:=HB1.o.size;have h3:=hb3.size;exact⟨fun e=>by have:=kG.o _ e;omega,by omega⟩
 have a4q:Hid (∀a,A=some a->l≠[]->¬Z.3 a.block):=fun a ea hne e=>by
  have h1:=ax.block ho (show(Value.slice A l.length c).ownBlock=some a.block by rw[ea];rfl);have h2:=HB1.o.size;have h3:=IA.o _ e;omega
 have X5:Hid (∀q∈l,Ey Z.3 x (af b m s x.t) w3 q):=fun q hq=>(hok q hq).turn (ae.below hb3);have Fa:=Hd hbi;have hkl:w.heap.size<w2.heap.size:=Nat.lt_of_lt_of_le og.o.inside hb2.size
 obtain⟨kl,hkl2⟩:=aC w2.heap.size
 have HTR:=Hd (DF hs3.tree HN.o ci HI.o);unfold RmQ at HTR;have c0:=dM.o.c 0 rfl;have i0:=dM.o.inside;obtain⟨⟨-,c1,-,-,-,-⟩,i1⟩:=hs3.top;have Zo:Hid (¬af b m s x.t w.heap.size):=fun e=>by have:=kG.o _ e;omega
 have U0:Hid (¬af b m s x.t kl):=fun e=>by have:=kG.o _ e;omega
 have HEK:Hid (¬Z.3 w.heap.size):=fun e=>by have:=IA.o _ e;omega
 have HEL:Hid (¬Z.3 kl):=fun e=>by have:=IA.o _ e;omega
 have HW3:=Hd hw3;rw[hkl2]at HL3;rw[hw3]at c0 i0 c1 i1 HTR;clear ho hb2 hbi hok hlc hcm hrow hb3 hs3 hkl hw3 og kH;go_wp2_with (fail);refine HTR.o.mono ?_;rintro e w4 ⟨s4,v4,rfl,ht4,YU,hu4⟩;rw[←HW3.o]at YU hu4;clear c0 i0 c1 i1 HTR hkl2;have hm4:=qO.o.mid.step ht4 hu4;have gZ:=Hd hm4.1;have HT4:=Hd hm4.2;clear hm4 ht4 hu4;by_cases h0:¬(jF x.t ci).2.2=0
 ·have HT1:Hid ((jF x.t ci).1=x.t):=RF h0
  obtain⟨e0,he0⟩:=aC ((jF x.t ci).2.2)
  have HE2:Hid (R=(x,e0)):=by show _=_;rw[←HR.o];unfold fJ;rw[if_pos h0,he0]
  rw[he0]at h0 ⊢;have t5:(e0==0)=false:=by simpa using h0
  have Qu:=Hd h0;clear h0 HR he0 YU;go_wp2_with (fail);go_ret2;rw[HE2.o];rw[HT1.o]at gZ HT4;exact⟨_,s4,rfl,gZ.o.oV fun _=>Iff.rfl,((ae.below HB1.o).trans (ae.below HB3.o)).trans HT4.o,fun e=>absurd e Qu.o⟩
 have h00:(jF x.t ci).2.2=0:=by simpa using h0
 obtain⟨hci,hrm⟩:=yS h00;have HE2:Hid (R=(⟨gone (aF.walk x.t ci) x.t,x.nd,x.ws⟩,0)):=by show _=_;rw[←HR.o];unfold fJ;rw[hrm];rfl
 have HCI:=Hd hci;rw[hrm]at gZ HT4 YU;rw[h00];simp only at gZ HT4 YU;have HWL:Hid ((aF.walk x.t ci).length<=1001):=by have:=kN dY.o (.inr hci);have:=HN.o;show _<=_;omega
 have HHG:Hid (∀z,has (gone (aF.walk x.t ci) x.t) z=true↔z∉aF.walk x.t ci∧has x.t z=true):=fun z=>zH dY.o hci
 have a2u:Hid (∀z∈aF.walk x.t ci,I64 z):=fun z hz=>by
  refine mX dY.o ?_;rcases(dI dY.o (.inr hci)).1 hz with e|e
  ·rw[e];exact ah.2 (.inr hci)
  ·exact ah.2 (.inr (bH e).1)
 have HBQ:Hid (∃k,BQ x.t (ci,par x.t ci,idx (kids x.t (par x.t ci)) ci) k (l.map (·.e))∧l.length<=k):=by
  obtain⟨k,h1,h2⟩:=Fa.o;rcases h1 with ⟨-,h3⟩|⟨h3,-⟩
  ·exact⟨k,h3,h2⟩
  ·rw[ah.2 (.inr hci)]at h3;cases h3
 obtain⟨G,hG⟩:=aC (gone (aF.walk x.t ci) x.t)
 have HG:=Hd hG;rw[hG]at gZ HT4 HE2 HHG
 obtain⟨Wk,hWk⟩:=aC (aF.walk x.t ci)
 rw[hWk]at HWL HHG a2u YU;obtain⟨GA,GC,rfl,-,-,-⟩:=aU.lM YU;have HO4:=Hd YU;clear h0 h00 hrm hci hG hWk Fa HR YU;go_wp2_with (fail)
 go_loopw [28] (fun x28 wr=>∃j:Nat,j<=Wk.length∧x28=.int .i64 j∧Hid (gY wr g b m s4 Z G (fun z=>z∉Wk.take j∧has x.t z=true) x.nd x.ws)∧Hid (ae (af b m s4 G) (af b m s4 G) w4 wr)) (fun x28 _=>Wk.length - (intOf x28).toNat)
 case atStart=>exact⟨0,Nat.zero_le _,rfl,gZ.o.alike fun z=>⟨fun h=>h.2,fun h=>⟨by simp,h⟩⟩,ae.refl _ _⟩
 case round=>
  obtain⟨j,hj,rfl,HM,HT⟩:=hrel;generalize wr=wA at*;have hjb:(j:Int)<=100000:=by have:=HWL.o;omega
  by_cases hlt:j<Wk.length
  ·have t1:decide (j<Wk.length)=true:=by simpa using hlt
   have gQ:=Hd hlt
   have hown:aU wA w3.heap.size (.slice GA Wk.length GC) Wk:=ax.stays HO4.o fun e he=>by
    obtain⟨cu,fr,h3⟩:=ax.uY HO4.o he;exact(HT.o.far e (ax.block HO4.o he).2 (gZ.o.apart h3 (by decide) (by decide) (by decide))).2
   obtain⟨A',c',ev,-,-,hrow⟩:=aU.lM hown;obtain⟨kb,ko,eA,k1⟩:=hrow.at_ hlt;have ec:A'=GA:=by injection ev with e1 _ _;exact e1.symm
   subst ec;subst eA;unfold eI at k1
   have uO:Hid (∀z,(z∉Wk.take (j+1)∧has x.t z=true)↔(z≠Wk[j]∧(z∉Wk.take j∧has x.t z=true))):=fun z=>by
    rw[List.take_succ_eq_append_getElem hlt,List.mem_append,List.mem_singleton];constructor
    ·rintro⟨h1,h2⟩;exact⟨fun e=>h1 (.inr e),fun e=>h1 (.inl e),h2⟩
    ·rintro⟨h1,h2,h3⟩;exact⟨fun e=>e.elim h2 h1,h3⟩
   have a1O:=a2u.o _ (List.getElem_mem hlt);clear hown ev hrow;generalize Wk[j]=z at*;obtain⟨w5,hrun,MX,yj⟩:=HM.o.drop a1O 0;have o8:=Hd (MX.alike uO.o);have UK:Hid (ae (af b m s4 G) (af b m s4 G) w4 w5):=HT.o.trans yj;have c0:=(dM.o.off Zo.o (HT4.o.trans HT.o)).c 0 rfl;have i0:=(dM.o.off Zo.o (HT4.o.trans HT.o)).inside;have c5:=HM.o.blk.blk.c 5 rfl;have i5:=HM.o.blk.inside;clear MX yj uO a1O HM HT hlt;go_wp2_with (fail)
   go_roundw
   case rel=>exact⟨j+1,gQ.o,by go_num,o8,UK⟩
   case measure=>have:=gQ.o;simp[intOf];omega
  ·obtain rfl:j=Wk.length:=by omega
   have t1:decide (Wk.length<Wk.length)=false:=by simp
   have yB:Hid (gY wA g b m s4 Z G (fun z=>has G z=true) x.nd x.ws):=HM.o.alike fun z=>by rw[HHG.o,List.take_length]
   have V3:Hid (ae (af b m s x.t) (af b m s4 G) w3 wA):=HT4.o.trans HT.o;clear HM HT HO4 hlt;go_wp2_with (fail);go_ret2;rw[HE2.o];refine⟨_,s4,rfl,yB.o.oV fun _=>Iff.rfl,((ae.below HB1.o).trans (ae.below HB3.o)).trans V3.o,fun _=>⟨fun k=>(k=w.heap.size∨k=kl)∨(∃a,A=some a∧l≠[]∧k=a.block)∨∃q∈l,∃a,q.A=some a∧q.n.lk.l≠[]∧k=a.block,_,_,rfl,zS,?_,?_⟩⟩
   ·have key:∀k,k<w3.heap.size->¬af b m s x.t k->¬Z.3 k->k<wA.heap.size∧¬IY b m s4 G Z.3 k:=fun k h1 h2 h3=>⟨Nat.lt_of_lt_of_le h1 V3.o.size,fun e=>e.elim (V3.o.far k h1 h2).1 h3⟩
    rintro k ((rfl|rfl)|⟨a,ea,hne,rfl⟩|⟨q,hq,a,ea,hne,rfl⟩)
    ·exact key _ dM.o.inside Zo.o HEK.o
    ·exact key _ HL3.o.inside U0.o HEL.o
    ·exact key _ (HOW.o a ea hne).2 (HOW.o a ea hne).1 (a4q.o a ea hne)
    ·have h1:=(X5.o q hq).off;exact key _ (Row.lt h1.1 ea hne) (h1.2 a ea hne) (h1.3 a ea hne)
   ·intro W s1 E hK hs;have key:∀k,k<w3.heap.size->¬af b m s x.t k->W.heap[k]?=wA.heap[k]?->W.heap[k]?=w3.heap[k]?:=fun k h1 h2 h3=>h3.trans (V3.o.far k h1 h2).2;obtain⟨k1,hbq,hk1⟩:=HBQ.o
    have hrow:aV 29 Sp.cs W A l:=fun hn=>by
     obtain⟨b9,o9,e9,GR⟩:=HRW.o hn;have hne:l≠[]:=fun e=>by rw[e]at hn;exact absurd hn (by simp)
     refine⟨b9,o9,e9,fun j hj i u hu=>?_⟩;have h1:=GR j hj i u hu;rw[←h1];unfold World.cell?;rw[key b9 (World.block_lt_of_cell? w3 ⟨b9,_,none⟩ h1) (HOW.o _ e9 hne).1 (hK b9 (.inr (.inl ⟨_,e9,hne,rfl⟩))).1]
    have hmid:gY W g b m s1 ⟨Z.1,Z.2,E⟩ (gone (aF.walk x.t ci) x.t) (fun z=>has (gone (aF.walk x.t ci) x.t) z=true) x.nd x.ws:=by rw[HG.o];exact hs.mid
    have hof:∀k,¬af b m s1 G k->¬af b m s1 (gone (aF.walk x.t ci) x.t) k:=fun k hk=>by rw[HG.o];exact hk
    refine(FZ (f:=(ci,par x.t ci,idx (kids x.t (par x.t ci)) ci)) hmid HN.o dY.o HCI.o rfl rfl hbq hk1 (dM.o.stays (key _ dM.o.inside Zo.o (hK _ (.inl (.inl rfl))).1)) (HL3.o.stays (key _ HL3.o.inside U0.o (hK _ (.inl (.inr rfl))).1)) hrow (hof _ (hK _ (.inl (.inl rfl))).2.1)
     (fun a ea hne=>hof _ (hK _ (.inr (.inl ⟨a,ea,hne,rfl⟩))).2.1) fun q hq=>?_).mono ?_
    ·have h1:=X5.o q hq;have hh:has x.t q.e.1=true:=(hbq.deep _ (List.mem_map_of_mem hq)).2;exact⟨h1.n.trans (if_pos hh),h1.u.trans (if_pos hh),Row.stays h1.off.1 fun a ea hne=>key _ (Row.lt h1.off.1 ea hne) (h1.off.2 a ea hne) (hK _ (.inr (.inr ⟨q,hq,a,ea,hne,rfl⟩))).1,fun a ea hne=>hof _ (hK _ (.inr (.inr ⟨q,hq,a,ea,hne,rfl⟩))).2.1,fun a ea hne=>(hK _ (.inr (.inr ⟨q,hq,a,ea,hne,rfl⟩))).2.2⟩
    ·rintro e W' ⟨he,s2,u,h5,h6,hal⟩;have h7:=h5.oV (fun _=>Iff.rfl);rw[af.alike hal,HG.o]at h6;exact⟨he,s2,h7.like ⟨dY.o,hal,fun _ _=>rfl,fun _ _=>rfl⟩,h6⟩
end
end
section
open Go.RowKit fG gm aF Go.Maps
def eU(most:Int)(x:aJ)(o:dH):aJ×Int:=
 if o.k=1 then dV most x o.i o.p o.n else if o.k=2 then fJ x o.i else if o.k=3 then lK x o.i o.p o.n else if 4<=o.k∧o.k<=8 then kQ x o else (x,38)
structure kK(o:dH):Prop where
 i:I64 o.i
 p:I64 o.p
 fit:Fit { Nd.plain with lk:=o.lk }
theorem VX.under{g b m:Nat}{Z:ZZ}{s:Sh}{x:aJ}{r:aJ×Int}{w w1 w':World}{e:Ending}(h:VX g b m Z s x r w1 e w')(hb:bz w w1):VX g b m Z s x r w e w':=by
 obtain⟨fv,s',h1,h2,h3,h4⟩:=h;exact⟨fv,s',h1,h2,(ae.below hb).trans h3,h4⟩
section
variable {w:World}{g b m:Nat}{s:Sh}{Z:ZZ}{x:aJ}
theorem a0s(h:ak w g b m s Z x)(hn:x.t.length<=900)(o:dH)(Ao:Option Addr)(co:Nat)(hr:Row eW w Ao o.lk.l)(ho:kK o)(hfx:∀i,has x.t i=true->Fit (x.nd i)) :
  Calls prog 74 #[.pointer (some ⟨g,0,none⟩),o.v Ao co] w (VX g b m Z s x (eU Z.2.2 x o) w):=by
 have HB:Hid (bz w (w.alloc (.cells (o.cs Ao co).toArray 85))):=bR.alloc nR _;have HK:Hid (az (w.alloc (.cells (o.cs Ao co).toArray 85)) w.heap.size (o.cs Ao co)):=aA w (o.cs Ao co) _;have HS:Hid (ak (w.alloc (.cells (o.cs Ao co).toArray 85)) g b m s Z x):=h.below HB.o;have HR:Hid (Row eW (w.alloc (.cells (o.cs Ao co).toArray 85)) Ao o.lk.l):=Row.below hr HB.o;have HN:=Hd hn;have HO:=Hd ho;have Ja:=Hd hfx
 obtain⟨R,hR⟩:=aC (eU Z.2.2 x o)
 have HE:=Hd hR;rw[hR];clear hR h hn hr ho hfx;unfold dH.v;go_enter func74,ntmps74
 go_upto_region 1 with(fail)
 generalize (w.alloc (.cells (o.cs Ao co).toArray 85))=w0 at*;have c0:=HK.o.c 0 rfl;have c1:=HK.o.c 1 rfl;have c2:=HK.o.c 2 rfl;have c3:=HK.o.c 3 rfl;have i0:w.heap.size<w0.heap.size:=HK.o.inside;by_cases h1:o.k=1
 ·skip
  have t1:(o.k==1)=true:=by simpa using h1
  have HE2:Hid (R=dV Z.2.2 x o.i o.p o.n):=by show _=_;rw[←HE.o];unfold eU;rw[if_pos h1]
  clear h1 HE;have HC:=Hd (J6 HS.o HN.o o.i o.p o.n HO.o.i HO.o.p);go_wp2_with (fail);refine HC.o.mono ?_;rw[←HE2.o];rintro e w1 ⟨fv,s1,rfl,h2,h3,h4⟩;have H2:=Hd h2;have H3:=Hd h3;have H4:=Hd h4;clear h2 h3 h4;go_wp2_with (fail);go_ret2;exact⟨_,s1,rfl,H2.o,(ae.below HB.o).trans H3.o,H4.o⟩
 by_cases h2:o.k=2
 ·skip
  have t1:(o.k==1)=false:=by simpa using h1
  have t2:(o.k==2)=true:=by simpa using h2
  have HE2:Hid (R=fJ x o.i):=by show _=_;rw[←HE.o];unfold eU;rw[if_neg h1,if_pos h2]
  clear h1 h2 HE;have HC:=Hd (Jl HS.o HN.o o.i HO.o.i);go_wp2_with (fail);refine HC.o.mono ?_;rw[←HE2.o];rintro e w1 ⟨fv,s1,rfl,h2,h3,h4⟩;have H2:=Hd h2;have H3:=Hd h3;have H4:=Hd h4;clear h2 h3 h4;go_wp2_with (fail);go_ret2;exact⟨_,s1,rfl,H2.o,(ae.below HB.o).trans H3.o,H4.o⟩
 by_cases h3:o.k=3
 ·skip
  have t1:(o.k==1)=false:=by simpa using h1
  have t2:(o.k==2)=false:=by simpa using h2
  have t3:(o.k==3)=true:=by simpa using h3
  have HE2:Hid (R=lK x o.i o.p o.n):=by show _=_;rw[←HE.o];unfold eU;rw[if_neg h1,if_neg h2,if_pos h3]
  clear h1 h2 h3 HE;have HC:=Hd (move_any HS.o HN.o o.i o.p o.n HO.o.i HO.o.p);go_wp2_with (fail);refine HC.o.mono ?_;rw[←HE2.o];rintro e w1 ⟨fv,s1,rfl,h2,h3,h4⟩;have H2:=Hd h2;have H3:=Hd h3;have H4:=Hd h4;clear h2 h3 h4;go_wp2_with (fail);go_ret2;exact⟨_,s1,rfl,H2.o,(ae.below HB.o).trans H3.o,H4.o⟩
 by_cases h4:o.k=4
 ·skip
  have t1:(o.k==1)=false:=by simpa using h1
  have t2:(o.k==2)=false:=by simpa using h2
  have t3:(o.k==3)=false:=by simpa using h3
  have t4:(o.k==4)=true:=by simpa using h4
  have HE2:Hid (R=kQ x o):=by show _=_;rw[←HE.o];unfold eU;rw[if_neg h1,if_neg h2,if_neg h3,if_pos (by omega)]
  clear h1 h2 h3 h4 HE;have HC:=Hd (set_any HS.o (by have:=HN.o;omega) o Ao co HR.o HO.o.fit Ja.o HO.o.i);go_wp2_with (first|(with_reducible refine gL ?_;first|(refine wt 85 0 rfl rfl rfl HK.o (o.cs Ao co) rfl underlying85 rfl ?_)));refine HC.o.mono ?_;rw[←HE2.o];rintro e w1 ⟨fv,s1,rfl,h2,h3,h4⟩;have H2:=Hd h2;have H3:=Hd h3;have H4:=Hd h4;clear h2 h3 h4;go_wp2_with (fail);go_ret2;exact⟨_,s1,rfl,H2.o,(ae.below HB.o).trans H3.o,H4.o⟩
 by_cases h5:o.k=5
 ·skip
  have t1:(o.k==1)=false:=by simpa using h1
  have t2:(o.k==2)=false:=by simpa using h2
  have t3:(o.k==3)=false:=by simpa using h3
  have t4:(o.k==4)=false:=by simpa using h4
  have t5:(o.k==5)=true:=by simpa using h5
  have HE2:Hid (R=kQ x o):=by show _=_;rw[←HE.o];unfold eU;rw[if_neg h1,if_neg h2,if_neg h3,if_pos (by omega)]
  clear h1 h2 h3 h4 h5 HE;have HC:=Hd (set_any HS.o (by have:=HN.o;omega) o Ao co HR.o HO.o.fit Ja.o HO.o.i);go_wp2_with (first|(with_reducible refine gL ?_;first|(refine wt 85 0 rfl rfl rfl HK.o (o.cs Ao co) rfl underlying85 rfl ?_)));refine HC.o.mono ?_;rw[←HE2.o];rintro e w1 ⟨fv,s1,rfl,h2,h3,h4⟩;have H2:=Hd h2;have H3:=Hd h3;have H4:=Hd h4;clear h2 h3 h4;go_wp2_with (fail);go_ret2;exact⟨_,s1,rfl,H2.o,(ae.below HB.o).trans H3.o,H4.o⟩
 by_cases h6:o.k=6
 ·skip
  have t1:(o.k==1)=false:=by simpa using h1
  have t2:(o.k==2)=false:=by simpa using h2
  have t3:(o.k==3)=false:=by simpa using h3
  have t4:(o.k==4)=false:=by simpa using h4
  have t5:(o.k==5)=false:=by simpa using h5
  have t6:(o.k==6)=true:=by simpa using h6
  have HE2:Hid (R=kQ x o):=by show _=_;rw[←HE.o];unfold eU;rw[if_neg h1,if_neg h2,if_neg h3,if_pos (by omega)]
  clear h1 h2 h3 h4 h5 h6 HE;have HC:=Hd (set_any HS.o (by have:=HN.o;omega) o Ao co HR.o HO.o.fit Ja.o HO.o.i);go_wp2_with (first|(with_reducible refine gL ?_;first|(refine wt 85 0 rfl rfl rfl HK.o (o.cs Ao co) rfl underlying85 rfl ?_)));refine HC.o.mono ?_;rw[←HE2.o];rintro e w1 ⟨fv,s1,rfl,h2,h3,h4⟩;have H2:=Hd h2;have H3:=Hd h3;have H4:=Hd h4;clear h2 h3 h4;go_wp2_with (fail);go_ret2;exact⟨_,s1,rfl,H2.o,(ae.below HB.o).trans H3.o,H4.o⟩
 by_cases h7:o.k=7
 ·skip
  have t1:(o.k==1)=false:=by simpa using h1
  have t2:(o.k==2)=false:=by simpa using h2
  have t3:(o.k==3)=false:=by simpa using h3
  have t4:(o.k==4)=false:=by simpa using h4
  have t5:(o.k==5)=false:=by simpa using h5
  have t6:(o.k==6)=false:=by simpa using h6
  have t7:(o.k==7)=true:=by simpa using h7
  have HE2:Hid (R=kQ x o):=by show _=_;rw[←HE.o];unfold eU;rw[if_neg h1,if_neg h2,if_neg h3,if_pos (by omega)]
  clear h1 h2 h3 h4 h5 h6 h7 HE;have HC:=Hd (set_any HS.o (by have:=HN.o;omega) o Ao co HR.o HO.o.fit Ja.o HO.o.i);go_wp2_with (first|(with_reducible refine gL ?_;first|(refine wt 85 0 rfl rfl rfl HK.o (o.cs Ao co) rfl underlying85 rfl ?_)));refine HC.o.mono ?_;rw[←HE2.o];rintro e w1 ⟨fv,s1,rfl,h2,h3,h4⟩;have H2:=Hd h2;have H3:=Hd h3;have H4:=Hd h4;clear h2 h3 h4;go_wp2_with (fail);go_ret2;exact⟨_,s1,rfl,H2.o,(ae.below HB.o).trans H3.o,H4.o⟩
 by_cases h8:o.k=8
 ·skip
  have t1:(o.k==1)=false:=by simpa using h1
  have t2:(o.k==2)=false:=by simpa using h2
  have t3:(o.k==3)=false:=by simpa using h3
  have t4:(o.k==4)=false:=by simpa using h4
  have t5:(o.k==5)=false:=by simpa using h5
  have t6:(o.k==6)=false:=by simpa using h6
  have t7:(o.k==7)=false:=by simpa using h7
  have t8:(o.k==8)=true:=by simpa using h8
  have HE2:Hid (R=kQ x o):=by show _=_;rw[←HE.o];unfold eU;rw[if_neg h1,if_neg h2,if_neg h3,if_pos (by omega)]
  clear h1 h2 h3 h4 h5 h6 h7 h8 HE;have HC:=Hd (set_any HS.o (by have:=HN.o;omega) o Ao co HR.o HO.o.fit Ja.o HO.o.i);go_wp2_with (first|(with_reducible refine gL ?_;first|(refine wt 85 0 rfl rfl rfl HK.o (o.cs Ao co) rfl underlying85 rfl ?_)));refine HC.o.mono ?_;rw[←HE2.o];rintro e w1 ⟨fv,s1,rfl,h2,h3,h4⟩;have H2:=Hd h2;have H3:=Hd h3;have H4:=Hd h4;clear h2 h3 h4;go_wp2_with (fail);go_ret2;exact⟨_,s1,rfl,H2.o,(ae.below HB.o).trans H3.o,H4.o⟩
 ·skip
  have t1:(o.k==1)=false:=by simpa using h1
  have t2:(o.k==2)=false:=by simpa using h2
  have t3:(o.k==3)=false:=by simpa using h3
  have t4:(o.k==4)=false:=by simpa using h4
  have t5:(o.k==5)=false:=by simpa using h5
  have t6:(o.k==6)=false:=by simpa using h6
  have t7:(o.k==7)=false:=by simpa using h7
  have t8:(o.k==8)=false:=by simpa using h8
  have HE2:Hid (R=(x,38)):=by show _=_;rw[←HE.o];unfold eU;rw[if_neg h1,if_neg h2,if_neg h3,if_neg (by omega)]
  clear h1 h2 h3 h4 h5 h6 h7 h8 HE;go_wp2_with (fail);go_ret2;rw[HE2.o];exact⟨_,s,rfl,HS.o,ae.below HB.o,fun e=>nomatch e⟩
end
end
section
open Go.RowKit fG gm aF Go.Maps
abbrev Cc:TypeId:=1
def Y2(q:Nat×Array Value):List Value:=[.func (.func q.1) #[] q.2]
theorem yu(q:Nat×Array Value):(Y2 q).length=1:=rfl
theorem PG(q:Nat×Array Value):∀u∈Y2 q,u.oneCell'=true:=by
 intro u hu;rw[List.mem_singleton.1 hu];rfl
theorem O8:(prog.info? Cc).map (fun i=>(i.zero,i.size,i.bytes))=some (some .nilFunc,1,8):=by kernel_rfl
abbrev Ba(w:World)(base:Nat)(v:Value)(l:List (Nat×Array Value)):Prop:=ax Cc 1 Y2 w base v l
def Jb(g b m:Nat)(Z:ZZ)(w:World)(S:bF):List (Nat×Array Value)->aJ->aJ->Prop
 |[],x',x=>x'=x
 |q::r,x',x=>∃y,uD g b m Z (.func (.func q.1) #[] q.2) w S x' y∧Jb g b m Z w S r y x
theorem Jb.turn{g b m:Nat}{Z:ZZ}{w w':World}{S S':bF}(ht:ae S S' w w'):∀{l:List (Nat×Array Value)} {x' x:aJ},Jb g b m Z w S l x' x->Jb g b m Z w' S' l x' x
 |[],_,_,h=>h
 |_::_,_,_,⟨y,h1,h2⟩=>⟨y,h1.turn ht,Jb.turn ht h2⟩
structure iK where
 o:dH
 A:Option Addr
 c:Nat
def iK.cs(q:iK):List Value:=q.o.cs q.A q.c
theorem iK.bZ(q:iK):q.cs.length=23:=rfl
structure pY(S:bF)(w:World)(A:Option Addr)(l:List iK):Prop where
 row:aV 23 iK.cs w A l
 off:∀a,A=some a->l≠[]->¬S a.block
 px:∀q∈l,Row eW w q.A q.o.lk.l∧∀a,q.A=some a->q.o.lk.l≠[]->¬S a.block
theorem aV.blt{α:Type}{k:Nat}{enc:α->List Value}{w:World}{A:Option Addr}{l:List α}(h:aV k enc w A l)(he:∀q,∃v r,enc q=v::r){a:Addr}(e:A=some a)(hne:l≠[]):a.block<w.heap.size:=by
 have hn:0<l.length:=List.length_pos_iff.2 hne;obtain⟨b,off,e2,hc⟩:=h hn;rw[e]at e2;obtain rfl:=Option.some.inj e2;obtain⟨v,r,hv⟩:=he l[0];exact World.block_lt_of_cell? w ⟨b,off+0*k+0,none⟩ (hc 0 hn 0 v (by rw[hv];rfl))
theorem pY.turn{S S':bF}{w w':World}{A:Option Addr}{l:List iK}(h:pY S w A l)(ht:ae S S' w w'):pY S' w' A l:=
 ⟨h.row.off h.off ht,fun a e hne=>(ht.far _ (h.row.blt (fun _=>⟨_,_,rfl⟩) e hne) (h.off a e hne)).1,fun q hq=>
  ⟨Row.stays (h.px q hq).1 fun a e hne=>(ht.far _ (Row.lt (h.px q hq).1 e hne) ((h.px q hq).2 a e hne)).2,fun a e hne=>(ht.far _ (Row.lt (h.px q hq).1 e hne) ((h.px q hq).2 a e hne)).1⟩⟩
def aO(most:Int)(x:aJ):List dH->aJ×Nat×Int
 |[]=>(x,0,0)
 |o::l=>if (eU most x o).2≠0 then (x,0,(eU most x o).2) else ((aO most (eU most x o).1 l).1,(aO most (eU most x o).1 l).2.1+1,(aO most (eU most x o).1 l).2.2)
theorem bW(M:Int)(x:aJ)(o:dH)(l:List dH):aO M x (o::l)=if (eU M x o).2≠0 then (x,0,(eU M x o).2) else ((aO M (eU M x o).1 l).1,(aO M (eU M x o).1 l).2.1+1,(aO M (eU M x o).1 l).2.2):=rfl
theorem Ro{x:aJ}{o:dH}(h:(kQ x o).2≠0):(kQ x o).1=x:=by
 unfold kQ at h ⊢;by_cases h1:has x.t o.i=false
 ·rw[if_pos h1]
 rw[if_neg h1]at h ⊢;by_cases h2:(bT Nd.plain o).chk≠0
 ·rw[if_pos h2]
 ·rw[if_neg h2]at h;exact absurd rfl h
theorem Hu{M:Int}{x:aJ}{i p n:Int}(h:(dV M x i p n).2≠0):(dV M x i p n).1=x:=by
 unfold dV at h ⊢;by_cases h1:(gJ x.t i p n).2≠0
 ·rw[if_pos h1]
 rw[if_neg h1]at h ⊢;by_cases h2:M<((x.t.length+2:Nat):Int)
 ·rw[if_pos h2]
 ·rw[if_neg h2]at h;exact absurd rfl h
theorem uq{M:Int}{x:aJ}{o:dH}(h:(eU M x o).2≠0):(eU M x o).1=x:=by
 unfold eU at h ⊢;by_cases h1:o.k=1
 ·rw[if_pos h1]at h ⊢;exact Hu h
 rw[if_neg h1]at h ⊢;by_cases h2:o.k=2
 ·rw[if_pos h2]at h ⊢;unfold fJ at h ⊢;by_cases h3:(jF x.t o.i).2.2≠0
  ·rw[if_pos h3]
  ·rw[if_neg h3]at h;exact absurd rfl h
 rw[if_neg h2]at h ⊢;by_cases h3:o.k=3
 ·rw[if_pos h3]at h ⊢;unfold lK at h ⊢;by_cases h4:(jT x.t o.i o.p o.n).2≠0
  ·rw[if_pos h4]
  ·rw[if_neg h4]at h;exact absurd rfl h
 rw[if_neg h3]at h ⊢;by_cases h4:4<=o.k∧o.k<=8
 ·rw[if_pos h4]at h ⊢;exact Ro h
 ·rw[if_neg h4]
theorem Eo{M:Int}{x:aJ}(ok:Ok x.t)(o:dH):(eU M x o).1.t.length<=x.t.length+1:=by
 by_cases h:(eU M x o).2≠0
 ·rw[uq h];omega
 unfold eU;by_cases h1:o.k=1
 ·rw[if_pos h1];unfold dV;have:=(qM ok o.i o.p o.n).2;split
  ·simp
  ·split
   ·simp
   ·exact this
 rw[if_neg h1];by_cases h2:o.k=2
 ·rw[if_pos h2];unfold fJ;have:=(sW ok o.i).2;split
  ·simp
  ·exact Nat.le_succ_of_le this
 rw[if_neg h2];by_cases h3:o.k=3
 ·rw[if_pos h3];unfold lK;have:=(qE ok o.i o.p o.n).2;split
  ·simp
  ·exact Nat.le_succ_of_le (Nat.le_of_eq this)
 rw[if_neg h3];by_cases h4:4<=o.k∧o.k<=8
 ·rw[if_pos h4];unfold kQ;split
  ·simp
  ·split<;>simp
 ·rw[if_neg h4];simp
theorem Xu{M:Int}{x:aJ}(ok:Ok x.t)(o:dH):Ok (eU M x o).1.t:=by
 unfold eU;split
 ·unfold dV;split
  ·exact ok
  ·split
   ·exact ok
   ·exact(qM ok _ _ _).1
 split
 ·unfold fJ;split
  ·exact ok
  ·exact(sW ok _).1
 split
 ·unfold lK;split
  ·exact ok
  ·exact(qE ok _ _ _).1
 split
 ·unfold kQ;split
  ·exact ok
  ·split<;>exact ok
 ·exact ok
theorem Hq{M:Int}{x:aJ}(ok:Ok x.t)(o:dH):(eU M x o).1.t.length<=x.t.length∨((eU M x o).1.t.length+1:Nat)<=M:=by
 have h9:=Eo (M:=M) ok o;by_cases h:(eU M x o).2≠0
 ·rw[uq h];exact .inl nR
 by_cases h1:o.k=1
 ·have e:eU M x o=dV M x o.i o.p o.n:=by unfold eU;rw[if_pos h1]
  rw[e]at h9 h ⊢;unfold dV at h9 h ⊢;by_cases e1:(gJ x.t o.i o.p o.n).2≠0
  ·rw[if_pos e1];exact .inl nR
  rw[if_neg e1]at h9 h ⊢;by_cases e2:M<((x.t.length+2:Nat):Int)
  ·rw[if_pos e2];exact .inl nR
  rw[if_neg e2]at h9 ⊢;right;simp only at h9 ⊢;omega
 left;unfold eU;rw[if_neg h1];by_cases h2:o.k=2
 ·rw[if_pos h2];unfold fJ;have:=(sW ok o.i).2;split
  ·exact nR
  ·exact this
 rw[if_neg h2];by_cases h3:o.k=3
 ·rw[if_pos h3];unfold lK;have:=(qE ok o.i o.p o.n).2;split
  ·exact nR
  ·exact Nat.le_of_eq this
 rw[if_neg h3];by_cases h4:4<=o.k∧o.k<=8
 ·rw[if_pos h4];unfold kQ;split
  ·exact nR
  ·split<;>exact nR
 ·rw[if_neg h4];exact nR
def Room(M:Int)(x:aJ)(n:Nat):Prop:=n<=1024∧(x.t.length+n<=900∨(x.t.length<=900∧M<=900))
theorem wo{M:Int}:∀(l:List dH) {x:aJ},Ok x.t->(aO M x l).1.t.length<=x.t.length∨(((aO M x l).1.t.length+1:Nat):Int)<=M
 |[],_,_=>.inl nR
 |o::l,x,ok=>by
  rw[bW];split
  ·exact .inl nR
  ·have ok2:Ok (eU M x o).1.t:=Xu ok o;rcases wo l ok2 with h|h
   ·rcases Hq (M:=M) ok o with h2|h2
    ·exact .inl (Nat.le_trans h h2)
    ·right;simp only at h ⊢;omega
   ·exact .inr h
theorem xX{α:Type}{P:α->Prop}{f:Int->α}{i:Int}{y:α}(h:∀j,P (f j))(hy:P y):∀j,P (upd f i y j):=fun j=>by
 unfold upd;split
 ·exact hy
 ·exact h j
theorem Nl{M:Int}{x:aJ}{o:dH}(h:∀i,Fit (x.nd i))(ho:kK o):∀i,Fit ((eU M x o).1.nd i):=by
 by_cases hz:(eU M x o).2≠0
 ·rw[uq hz];exact h
 unfold eU;by_cases h1:o.k=1
 ·rw[if_pos h1];unfold dV;split
  ·exact h
  ·split
   ·exact h
   ·exact xX h vU
 rw[if_neg h1];by_cases h2:o.k=2
 ·rw[if_pos h2];unfold fJ;split<;>exact h
 rw[if_neg h2];by_cases h3:o.k=3
 ·rw[if_pos h3];unfold lK;split<;>exact h
 rw[if_neg h3];by_cases h4:4<=o.k∧o.k<=8
 ·rw[if_pos h4];unfold kQ;split
  ·exact h
  ·split
   ·exact h
   ·exact xX h (tC ⟨ho.fit.p,ho.fit.l,ho.fit.len⟩ (h _))
 ·rw[if_neg h4];exact h
def EO(Z:ZZ)(v:Value):bF:=fun k=>Z.3 k∨v.ownBlock=some k
theorem ae.own{S S':bF}{w w4 w5:World}{v:Value}(h:ae S S' w w4)(h5:ae (Ow v) (Ow v) w4 w5)(ho:∀k,v.ownBlock=some k->w.heap.size<=k):ae S S' w w5:=
 ⟨h5.os.trans h.os,h5.tape.trans h.tape,h5.output.trans h.output,Nat.le_trans h.size h5.size,fun k hk hn=>by
  have h1:=h.far k hk hn
  exact⟨h1.1,(h5.far k (Nat.lt_of_lt_of_le hk h.size) fun e=>by have:=ho k e;omega).2.trans h1.2⟩⟩
theorem dD.part{E E' S:bF}{w w':World}{n:Nd}{A:Option Addr}(h:dD E S w n A)(hsame:∀k,k<w.heap.size->¬E k->w'.heap[k]?=w.heap[k]?)(hE:∀k,E' k->E k∨w.heap.size<=k):dD E' S w' n A:=
 ⟨Row.stays h.1 fun a e hne=>hsame _ (Row.lt h.1 e hne) (h.3 a e hne),h.2,fun a e hne k=>(hE _ k).elim (h.3 a e hne) fun h2=>by have:=Row.lt h.1 e hne;omega⟩
theorem ak.part{w w':World}{g b m:Nat}{s:Sh}{Z:ZZ}{x:aJ}{E':bF}(h:ak w g b m s Z x)(hsame:∀k,k<w.heap.size->¬Z.3 k->w'.heap[k]?=w.heap[k]?)(hE:∀k,E' k->k<w'.heap.size∧(Z.3 k∨w.heap.size<=k)):ak w' g b m s ⟨Z.1,Z.2,E'⟩ x:=by
 obtain⟨es,hm,h1,h2⟩:=h.map;have hin:∀k,af b m s x.t k->w'.heap[k]?=w.heap[k]?:=fun k hk=>hsame k (h.inside k hk) fun e=>(h.old k e).2.1 hk;refine⟨h.blk.stays (hsame g h.blk.inside fun e=>(h.old g e).2.2 rfl),h.tree.stays fun k hk=>hin k (.inr hk),⟨es,hm.stays (hin m (.inl rfl)),h1,fun i hi=>?_⟩,h.jh,h.qQ,fun k hk=>⟨(hE k hk).1,?_⟩⟩
 ·obtain⟨v,e,A,c,e2,hv⟩:=h2 i hi;exact⟨v,e,A,c,e2,hv.part hsame fun k hk=>(hE k hk).2⟩
 ·rcases(hE k hk).2 with e|e
  ·exact(h.old k e).2
  ·exact⟨fun e2=>by have:=h.inside k e2;omega,fun e2=>by have:=h.blk.inside;omega⟩
theorem uD.part{g b m:Nat}{Z:ZZ}{v:Value}{w w':World}{s:Sh}{t:T}{E E':bF}{x' x:aJ}(h:uD g b m Z v w (IY b m s t E) x' x)(hsz:w.heap.size<=w'.heap.size)(hsame:∀k,k<w.heap.size->¬E k->w'.heap[k]?=w.heap[k]?)(hE:∀k,E' k->E k∨w.heap.size<=k):uD g b m Z v w' (IY b m s t E') x' x:=by
 obtain⟨K,f,cs,e,he,hk,hc⟩:=h;refine⟨K,f,cs,e,he,fun k hK=>⟨Nat.lt_of_lt_of_le (hk k hK).1 hsz,fun h2=>?_⟩,fun W s1 E1 hW hs=>hc W s1 E1 (fun k hK=>⟨(hW k hK).1.trans (hsame k (hk k hK).1 fun h2=>(hk k hK).2 (.inr h2)),(hW k hK).2⟩) hs⟩;rcases h2 with h2|h2
 ·exact(hk k hK).2 (.inl h2)
 ·rcases hE k h2 with h3|h3
  ·exact(hk k hK).2 (.inr h3)
  ·have:=(hk k hK).1;omega
theorem Jb.part{g b m:Nat}{Z:ZZ}{w w':World}{s:Sh}{t:T}{E E':bF}(hsz:w.heap.size<=w'.heap.size)(hsame:∀k,k<w.heap.size->¬E k->w'.heap[k]?=w.heap[k]?)(hE:∀k,E' k->E k∨w.heap.size<=k):∀{l:List (Nat×Array Value)} {x' x:aJ},Jb g b m Z w (IY b m s t E) l x' x->Jb g b m Z w' (IY b m s t E') l x' x
 |[],_,_,h=>h
 |_::_,_,_,⟨y,h1,h2⟩=>⟨y,h1.part hsz hsame hE,Jb.part hsz hsame hE h2⟩
theorem ae.sor{b m:Nat}{s s':Sh}{t t':T}{w w':World}(h:ae (af b m s t) (af b m s' t') w w')(E:bF):ae (IY b m s t E) (IY b m s' t' E) w w':=
 ⟨h.os,h.tape,h.output,h.size,fun k hk hn=>⟨fun e=>e.elim (h.far k hk fun e=>hn (.inl e)).1 fun e=>hn (.inr e),(h.far k hk fun e=>hn (.inl e)).2⟩⟩
def a3D(g b m:Nat)(Z:ZZ)(s:Sh)(x:aJ)(r:aJ×Nat×Int)(w:World)(e:Ending)(w':World):Prop:=
 ∃(U:Option Addr) (uc:Nat) (vs:List (Nat×Array Value)) (s':Sh),e=.returned (.tuple #[.slice U vs.length uc,.int .i64 r.2.2])∧vs.length=r.2.1∧Ba w' w.heap.size (.slice U vs.length uc) vs ∧
  ak w' g b m s' ⟨Z.1,Z.2,EO Z (.slice U vs.length uc)⟩ r.1∧ae (af b m s x.t) (af b m s' r.1.t) w w'∧Jb g b m Z w' (IY b m s' r.1.t (EO Z (.slice U vs.length uc))) vs.reverse r.1 x
theorem XD(q:Nat×Array Value)(w:World):(Instr.buildSlice 140 1 #[(0,.func (.func q.1) #[] q.2)]).run prog w=.ok (.slice (some ⟨w.heap.size,0,none⟩) 1 1) (w.alloc (.cells (Y2 q).toArray Cc)):=by kernel_rfl
theorem a0G{n0:Nat}{w:World}{v:Value}{l:List (Nat×Array Value)}(h:Ba w n0 v l)(hb:n0<=w.heap.size)(q:Nat×Array Value){c:Nat}(hn:l.length<=900000000) :
  ∃v' w',(Builtin.append_ #[140,140] 140 #[v,.slice (some ⟨w.heap.size,0,none⟩) 1 c]).run prog (w.alloc (.cells (Y2 q).toArray Cc))=.ok v' w'∧Ba w' n0 v' (l++[q]) ∧
   (w.alloc (.cells (Y2 q).toArray Cc)).grownBy w' v.ownBlock∧(v'.ownBlock=v.ownBlock∨v'.ownBlock=some (w.heap.size+1)):=by
 obtain⟨v',w',h1,h2,h3,h4⟩:=ax.app (P:=prog) (xs:=[q]) (c:=c) (g:=w.heap.size) (o:=0) underlying140 O8 rfl (by decide) (by decide) yu PG
  (h.below (bR.alloc nR (.cells (Y2 q).toArray Cc))) (fun _=>jA (enc:=Y2) yu w [q] _ (by simp)) (by simp;omega) (by simp;omega)
 refine⟨v',w',h1,h2,h3,?_⟩
 simpa using h4
section
variable {w:World}{g b m:Nat}{s:Sh}{Z:ZZ}{x:aJ}
theorem XI(h:ak w g b m s Z x)(l:List iK)(A:Option Addr)(c:Nat)(ho:pY (af b m s x.t) w A l)(hok:∀q∈l,kK q.o)(hfx:∀i,Fit (x.nd i))(hn:Room Z.2.2 x l.length) :
  Calls prog 47 #[.pointer (some ⟨g,0,none⟩),.slice A l.length c] w (a3D g b m Z s x (aO Z.2.2 x (l.map (·.o))) w):=by
 have HS:=Hd h;have HO:=Hd ho;have dY:=Hd hok;have Ja:=Hd hfx;have HN:=Hd hn
 obtain⟨R,hR⟩:=aC (aO Z.2.2 x (l.map (·.o)))
 have HE:=Hd hR;rw[hR];have hlb:(l.length:Int)<=1024:=by have:=hn.1;omega
 clear hR h ho hok hfx hn;go_enter func47,ntmps47;go_wp2_with (fail)
 go_loopw [13,6] (fun x13 x6 wr=>∃(j:Nat) (U:Option Addr) (uc:Nat) (vs:List (Nat×Array Value)) (s1:Sh) (y:aJ),j<=l.length∧x13=.int .i64 j∧x6=.slice U vs.length uc∧Hid (vs.length=j)∧Hid (Ba wr w.heap.size (.slice U vs.length uc) vs)∧Hid (ak wr g b m s1 ⟨Z.1,Z.2,EO Z (.slice U vs.length uc)⟩ y)∧Hid (ae (af b m s x.t) (af b m s1 y.t) w wr)∧Hid (Jb g b m Z wr (IY b m s1 y.t (EO Z (.slice U vs.length uc))) vs.reverse y x)∧Hid (R=((aO Z.2.2 y ((l.map (·.o)).drop j)).1,(aO Z.2.2 y ((l.map (·.o)).drop j)).2.1+j,(aO Z.2.2 y ((l.map (·.o)).drop j)).2.2))∧Hid (∀i,Fit (y.nd i))∧Hid (y.t.length<=x.t.length+j∧(y.t.length<=x.t.length∨((y.t.length+1:Nat):Int)<=Z.2.2))) (fun x13 _ _=>l.length - (intOf x13).toNat)
 case atStart=>exact⟨0,none,0,[],s,x,Nat.zero_le _,rfl,rfl,rfl,ax.nil _ _,HS.o.part (fun _ _ _=>rfl) (fun k e=>⟨e.elim (fun e=>(HS.o.old k e).1) nofun,e.imp_right nofun⟩),ae.refl _ _,rfl,(by show R=_;rw[←HE.o];rfl),Ja.o,⟨nR,.inl nR⟩⟩
 case round=>
  obtain⟨j,U,uc,vs,s1,y,hj,rfl,rfl,Zg,HU,HY,HT,HCH,Qq,HFY,VY⟩:=hrel;generalize wr=wA at*;have iL:=Hd HT.o.size;by_cases hlt:j<l.length
  ·have t1:decide (j<l.length)=true:=by simpa using hlt
   have gQ:=Hd hlt;have HOA:=Hd (HO.o.turn HT.o);obtain⟨lb,lo,eA,hcell⟩:=HOA.o.row (by omega);subst eA
   obtain⟨q,hq⟩:∃q,q=l[j]'hlt:=⟨_,rfl⟩
   have BK:Hid (q∈l):=by rw[hq];exact List.getElem_mem hlt
   have oZ:Hid (wA.rangeAt lb (lo+j*23) q.cs):=by
    rw[hq];exact fun i v hv=>hcell j hlt i v hv
   have hdrop:(l.map (·.o)).drop j=q.o::(l.map (·.o)).drop (j+1):=by
    rw[List.drop_eq_getElem_cons (by rw[List.length_map];exact hlt),hq];simp only[List.getElem_map]
   have HPX:=Hd (HOA.o.px q BK.o);have V6:=Hd (dY.o q BK.o);rw[hdrop]at Qq;clear hdrop hq hcell;have HZ2:Hid (az (wA.alloc (.cells Vg.toArray 85)) wA.heap.size Vg):=aA wA Vg _;have iO:Hid (bz wA (wA.alloc (.cells Vg.toArray 85))):=bR.alloc nR _;have c0:=oZ.o 0 (.int .i64 q.o.k) rfl;have i0:lb<wA.heap.size:=World.block_lt_of_cell? wA ⟨lb,_,none⟩ c0;clear c0
   go_upto_region 5 with(first|((with_reducible refine gL ?_);refine qp 85 _ rfl rfl _ _ rfl (q.cs) oZ.o _ underlying85 rfl ag ?_)|((with_reducible refine gS ?_);refine ay 85 _ _ rfl rfl rfl _ 0 rfl (q.cs) rfl (Vg) HZ2.o (q.cs) rfl (nE rfl) ag (dH.one _ _ _) ?_;intro w3 HW3 dM))
   have HB3:Hid (bz wA w3):=HW3.o.below iO.o nR;have HT3:Hid (ae (af b m s1 y.t) (af b m s1 y.t) wA w3):=ae.below HB3.o;have HC:Hid (Calls prog 74 #[.pointer (some ⟨g,0,none⟩),.agg q.cs.toArray] w3 (VX g b m ⟨Z.1,Z.2,EO Z (.slice U vs.length uc)⟩ s1 y (eU Z.2.2 y q.o) w3)):=a0s (HY.o.below HB3.o) (by obtain⟨h1,h2⟩:=VY.o;have:=gQ.o;obtain⟨h3,h4⟩:=HN.o;omega) q.o q.A q.c (Row.below HPX.o.1 HB3.o) V6.o (fun i _=>HFY.o i)
   have Wj:Hid ((eU Z.2.2 y q.o).1.t.length<=y.t.length+1∧((eU Z.2.2 y q.o).1.t.length<=y.t.length∨(((eU Z.2.2 y q.o).1.t.length+1:Nat):Int)<=Z.2.2)):=⟨Eo HY.o.tree.ok q.o,Hq HY.o.tree.ok q.o⟩
   have Zw:Hid (∀i,Fit ((eU Z.2.2 y q.o).1.nd i)):=Nl HFY.o V6.o;clear HZ2 iO HW3 oZ HPX i0 hlt;go_wp2_with ((with_reducible refine gL ?_);refine wt 85 0 rfl rfl rfl dM.o (q.cs) rfl underlying85 rfl ?_);refine HC.o.mono ?_;unfold VX
   obtain⟨D,hD⟩:=aC (eU Z.2.2 y q.o)
   have HD:=Hd hD;rw[hD]at Wj Zw ⊢;obtain⟨y2,d⟩:=D;rintro e w4 ⟨fv,s2,rfl,h2,h3,h4⟩;simp only at h2 h3 h4;have HY4:=Hd h2;have HT4:Hid (ae (af b m s1 y.t) (af b m s2 y2.t) wA w4):=HT3.o.trans h3;have HV4:=Hd h4;have HUF:Hid (∀k,(Value.slice U vs.length uc).ownBlock=some k->¬af b m s1 y.t k):=fun k hk=>(HY.o.old k (.inr hk)).2.1;have I7:Hid (Ba w4 w.heap.size (.slice U vs.length uc) vs):=HU.o.stays fun k hk=>(HT4.o.far k (HU.o.block hk).2 (HUF.o k hk)).2;have HTT:Hid (ae (af b m s x.t) (af b m s2 y2.t) w w4):=HT.o.trans HT4.o
   have Yr:Hid (Jb g b m Z w4 (IY b m s2 y2.t (EO Z (.slice U vs.length uc))) vs.reverse y x):=HCH.o.turn (HT4.o.sor _);clear h2 h3 h4 hD HC HT3 HB3 dM HU HUF HCH HT HY
   dsimp only
   by_cases hd:d=0
   ·subst hd;obtain⟨K,f,cs,rfl,hen,hK,hcl⟩:=HV4.o rfl
    have HV:Hid (uD g b m Z (.func (.func f) #[] cs) w4 (IY b m s2 y2.t (EO Z (.slice U vs.length uc))) y2 y):=⟨K,f,cs,rfl,hen,hK,hcl⟩
    clear hen hK hcl HV4;obtain⟨v5,w5,hrun,hown5,hg5,hn5⟩:=a0G I7.o (by have:=HTT.o.size;omega) (f,cs) (c:=1) (by have:=Zg.o;have:=gQ.o;omega);have yj:ae (Ow (.slice U vs.length uc)) (Ow (.slice U vs.length uc)) w4 w5:=(ae.below (bR.alloc nR _)).trans (ae.grown hg5 fun k hk=>hk);have hsame:∀k,k<w4.heap.size->¬EO Z (.slice U vs.length uc) k->w5.heap[k]?=w4.heap[k]?:=fun k h1 h2=>(yj.far k h1 fun e=>h2 (.inr e)).2
    have hE5:∀k,EO Z v5 k->EO Z (.slice U vs.length uc) k∨w4.heap.size<=k:=fun k e=>by
     rcases e with e|e
     ·exact .inl (.inl e)
     ·rcases hn5 with e5|e5
      ·exact .inl (.inr (e5 ▸ e))
      ·have:=Option.some.inj (e5.symm.trans e);exact .inr (by omega)
    have HY5:Hid (ak w5 g b m s2 ⟨Z.1,Z.2,EO Z v5⟩ y2):=HY4.o.part hsame fun k e=>⟨by
     rcases e with e|e
     ·have:=(HY4.o.old k (.inl e)).1;have:=yj.size;omega
     ·exact(hown5.block e).2,hE5 k e⟩
    have Yq:Hid (Jb g b m Z w5 (IY b m s2 y2.t (EO Z v5)) (vs++[(f,cs)]).reverse y2 x):=by
     rw[List.reverse_append];exact⟨y,HV.o.part yj.size hsame hE5,Yr.o.part yj.size hsame hE5⟩
    have UK:Hid (ae (af b m s x.t) (af b m s2 y2.t) w w5):=HTT.o.own yj fun k hk=>(I7.o.block hk).1;obtain⟨U5,uc5,ev5,-,-,-⟩:=ax.row hown5 yu;subst ev5;have BH:=Hd hown5
    have UU:Hid (R=((aO Z.2.2 y2 ((l.map (·.o)).drop (j+1))).1,(aO Z.2.2 y2 ((l.map (·.o)).drop (j+1))).2.1+(j+1),(aO Z.2.2 y2 ((l.map (·.o)).drop (j+1))).2.2)):=by
     have h1:=Qq.o;show _=_;rw[h1];rw[bW,if_neg (by rw[HD.o];simp),HD.o];simp only[Nat.add_assoc,Nat.add_comm 1 j]
    have a4d:Hid (y2.t.length<=x.t.length+(j+1)∧(y2.t.length<=x.t.length∨((y2.t.length+1:Nat):Int)<=Z.2.2)):=by
     obtain⟨h1,h2⟩:=Wj.o;obtain⟨h3,h4⟩:=VY.o;simp only at h1 h2;refine⟨by omega,?_⟩;rcases h2 with h2|h2
     ·rcases h4 with h4|h4
      ·exact .inl (Nat.le_trans h2 h4)
      ·right;omega
     ·exact .inr h2
    have a0K:Hid ((vs++[(f,cs)]).length=j+1):=by show _=_;rw[List.length_append,Zg.o];rfl
    have a4N:Hid (∀i,Fit (y2.nd i)):=Zw.o;clear hown5 hg5 hn5 yj hsame hE5 I7 Yr HV HY4 HTT HT4 Qq HD Wj VY Zg Zw;go_wp2_with (first|((with_reducible refine gB ?_);refine jv _ _ _ rfl rfl (by simp[go_sem]) (XD (f,cs) _) ?_)|(at_builtin;refine bG rfl _ _ 140 140 140 rfl rfl _ _ _ _ rfl rfl hrun ?_;clear hrun))
    go_roundw
    case rel=>exact⟨j+1,U5,uc5,_,s2,y2,gQ.o,by go_num,by simp,a0K,BH,HY5,UK,Yq,UU,a4N,a4d⟩
    case measure=>have:=gQ.o;simp[intOf];omega
   ·have t5:(d==0)=false:=by simpa using hd
    have hz:y2=y:=by
     have:=uq (M:=Z.2.2) (x:=y) (o:=q.o) (by rw[HD.o];exact hd);rw[HD.o]at this;exact this
    have UU:Hid (R=(y2,j,d)):=by
     have h1:=Qq.o;show _=_;rw[h1];rw[bW,if_pos (by rw[HD.o];exact hd),HD.o,hz];simp
    rw[←hz]at Yr;have a0K:=Zg;clear hd hz HV4 Qq HD Wj Zw HT4;go_wp2_with (fail);go_ret2;rw[UU.o];exact⟨U,uc,vs,s2,rfl,a0K.o,I7.o,HY4.o,HTT.o,Yr.o⟩
  ·obtain rfl:j=l.length:=by omega
   have t1:decide (l.length<l.length)=false:=by simp
   have UU:Hid (R=(y,l.length,0)):=by
    have h1:=Qq.o;rw[List.drop_of_length_le (by rw[List.length_map];exact nR)]at h1;show _=_;rw[h1];simp[aO]
   clear Qq hlt;go_wp2_with (fail);go_ret2;rw[UU.o];exact⟨U,uc,vs,s1,rfl,Zg.o,HU.o,HY.o,HT.o,HCH.o⟩
end
end
section
open Go.RowKit aF xk Go.Shelf
attribute [local go_sem] Oper.semAt_some
theorem KD(A:Option Addr)(n c:Nat)(w:World):Calls prog 49 #[.slice A n c] w fun e w'=>e=.returned (.func (.func 78) #[] #[.pointer (some ⟨w.heap.size,0,none⟩)])∧w'=w.alloc (.cells #[.slice A n c] 140):=by
 go_enter func49,ntmps49;go_wp2_with (fail);go_ret;exact⟨rfl,rfl⟩
def fv(q:Nat×Array Value):Value:=.func (.func q.1) #[] q.2
structure mQ(bx:Nat)(A:Option Addr)(c:Nat)(l:List (Nat×Array Value))(W:World):Prop where
 box:W.cell? ⟨bx,0,none⟩=some (.slice A l.length c)
 at_:∀j (hj:j<l.length),∃g,A=some ⟨g,0,none⟩∧W.cell? ⟨g,j,none⟩=some (fv l[j])
theorem mQ.bk{bx:Nat}{A:Option Addr}{c:Nat}{l:List (Nat×Array Value)}{W W':World}{B:Nat}(h:mQ bx A c l W)(hb:Bk B W W'):mQ bx A c l W':=
 ⟨eG hb h.box,fun j hj=>by
  obtain⟨g,e,hc⟩:=h.at_ j hj
  exact⟨g,e,eG hb hc⟩⟩
def oO(l:List (Nat×Array Value)):List (Array Value):=(List.range l.length).map fun j=>#[.int .i64 ((l.length:Int) - 1 - (j:Nat)),fv (l.getD (l.length - 1 - j) (0,#[]))]
theorem lT(l:List (Nat×Array Value)):(oO l).length=l.length:=by simp[oO]
theorem Dl(l:List (Nat×Array Value)){j:Nat}(hj:j<(oO l).length):(oO l)[j]=#[.int .i64 ((l.length:Int) - 1 - (j:Nat)),fv (l.getD (l.length - 1 - j) (0,#[]))]:=by simp[oO]
theorem Kz{bx:Nat}{A:Option Addr}{c:Nat}{l:List (Nat×Array Value)}{W:World}(hl:l.length<=100000)(h:mQ bx A c l W) :
  uF prog 78 #[.pointer (some ⟨bx,0,none⟩)] (oO l) (fun _=>Eq) (fun A' B=>mQ bx A c l A'->mQ bx A c l B) W:=by
 intro lp J Jx _ _ hY h0;have HY:=Hd hY;have HL:=Hd hl;have c0:=h.box;have HB:=Hd h;clear hY hl h;refine(callsIn_wide (n:=0)).1 (callsIn_of_wp func78 rfl trivial ?_ rfl);simp only[ntmps78,List.size_toArray,List.length_cons,List.length_nil,Nat.reduceAdd,Nat.reduceSub,Array.replicate_succ,Array.replicate_zero,List.push_toArray,List.append_toArray,List.nil_append,List.cons_append];have hlb:(l.length:Int)<=100000:=by have:=HL.o;omega
 gi_wp2_with (fail)
 gi_loopw [3] (fun x wr=>∃j:Nat,j<=l.length∧x=.int .i64 ((l.length:Int) - 1 - (j:Nat))∧Hid (J j wr)∧Hid (mQ bx A c l wr)) (fun x _=>(intOf x+1).toNat)
 case atStart=>exact⟨0,Nat.zero_le _,by simp,h0,HB⟩
 case round=>
  obtain⟨j,hj,rfl,HJ,HK⟩:=hrel;by_cases hlt:j<l.length
  ·have hlt':j<(oO l).length:=by rw[lT];exact hlt
   obtain⟨fn,tmps,assign,body,hy,hR⟩:=HY.o j hlt' wr HJ.o;rw[Dl]at hy
   obtain⟨m,hm⟩:=aC (l.length - 1 - j)
   have e:(l.length:Int) - 1 - (j:Nat)=(m:Nat):=by omega
   have hml:m<l.length:=by omega
   have e2:((m:Nat):Int) - 1=(l.length:Int) - 1 - ((j+1:Nat):Int):=by omega
   obtain⟨g,rA,k1⟩:=HK.o.at_ m hml;rw[hm,List.getD_eq_getElem?_getD,List.getElem?_eq_getElem hml,Option.getD_some]at hy;have cb:=HK.o.box;subst rA;rw[e]at hy ⊢;generalize fv l[m]=x at*;have hmb:((m:Nat):Int)<=100000:=by omega
   have HE2:=Hd e2;have HM:=Hd hm;have HR:=Hd hR;clear e e2 hm hR
   gi_wp2_with (fail)
   refine⟨rfl,HR.o.mono ?_⟩;rintro e W3 ⟨-,(⟨rfl,hJ3,hk3⟩|⟨rfl,hJx3⟩)⟩
   ·have HB3:Hid (mQ bx (some ⟨g,0,none⟩) c l W3):=hk3 HK.o;have uI:=Hd hJ3;clear hJ3 hk3 HJ HK
    gi_wp2_with (fail)
    go_roundw
    case rel=>exact⟨j+1,by omega,by rw[←HE2.o],uI,HB3⟩
    case measure=>simp[intOf]
   ·have uI:=Hd hJx3;clear hJx3 HJ HK
    gi_wp2_with (fail)
    refine bodyPost_ret (results_none rfl _ _ _) rfl ?_;exact⟨⟨_,rfl⟩,.inr ⟨j+1,by rw[lT];omega,uI.o⟩⟩
  ·have e:(l.length:Int) - 1 - (j:Nat)=-1:=by omega
   obtain rfl:j=l.length:=by omega
   have HJ2:Hid (J (oO l).length wr):=by rw[lT];exact HJ
   rw[e];clear e HJ HK
   gi_wp2_with (fail)
   go_end0
   exact⟨⟨_,rfl⟩,.inl HJ2.o⟩
end
end Go.Proofs.YthmegninhpihkaaGreat
