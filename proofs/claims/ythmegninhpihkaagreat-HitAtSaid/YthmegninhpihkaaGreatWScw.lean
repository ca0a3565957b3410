import Derived.Test.YthmegninhpihkaaGreatWScT
set_option maxHeartbeats 16000000
set_option maxRecDepth 100000
open Go.Proofs.Tryz
namespace Go.Proofs.YthmegninhpihkaaGreat
section
open Go.RowKit fF fO aF Go.Maps yl Go.Shelf
theorem ak.row0{α:Type}{T:TypeId}{k:Nat}{enc:α->List Value}{w:World}{base:Nat}{v:Value}{l:List α}(h:ak T k enc w base v l)(hk:∀x,(enc x).length=k)(hl:0<l.length):∃g c,v=.slice (some ⟨g,0,none⟩) l.length c∧l.length<=c∧c<=maxLen∧aU k enc w (some ⟨g,0,none⟩) l:=by
 rcases h.2 with ⟨rfl,h0⟩|⟨g,cap,cur,rfl,hg,hb,hc,hm,rest⟩
 ·omega
 ·refine⟨g,cap,rfl,hc,hm,fun _=>⟨g,0,rfl,fun j hj i v hv=>?_⟩⟩;have hcell:=World.ownsRow.cells h (g:=g) rfl;have e:∀i,(⟨g,0,none⟩:Addr).add i=⟨g,0+i,none⟩:=fun i=>by unfold Addr.add;split<;>simp_all
  have:=hcell _ _ (rF hk hj hv);rw[e]at this;rw[Nat.add_assoc];exact this
theorem PE(M:Int):∀(l:List dU) (x:aJ),(aT M x l).2.1<=l.length
 |[],_=>nR
 |o::l,x=>by
  rw[dC];split
  ·exact Nat.zero_le _
  ·have:=PE M l (fQ M x o).1;simp only[List.length_cons];omega
section
variable {w w':World}{g b m:Nat}{s:Sh}{Z:ZZ}{x:aJ}
theorem ax.kind(h:ax w g b m s Z x){k:Nat}(hk:af b m s x.t k):∃o,w.heap[k]?=some o∧uQ o=false:=by
 rcases hk with e|e|e|⟨i,hi,e|e⟩
 ·obtain⟨es,hm,_⟩:=h.map;obtain⟨es',clock,h4,_⟩:=hm.own;rw[e];exact⟨_,h4,rfl⟩
 ·rw[e];exact⟨_,h.tree.raw.blk,rfl⟩
 ·obtain⟨es,hm,_⟩:=h.tree.raw.map;obtain⟨es',clock,h4,_⟩:=hm.own;rw[e];exact⟨_,h4,rfl⟩
 ·rw[e];exact⟨_,(h.tree.raw.node i hi).blk,rfl⟩
 ·obtain⟨cur,fr',h4⟩:=(h.tree.raw.node i hi).own.typed e;exact⟨_,h4,rfl⟩
theorem Row.bk{B:Nat}{A:Option Addr}{l:List Nat}(h:Row eW w A l)(hb:Bk B w w'):Row eW w' A l:=fun hn=>by
 obtain⟨k,off,e,hc⟩:=h hn;exact⟨k,off,e,fun j hj=>eQ hb (hc j hj)⟩
theorem dG.bk{B:Nat}{E S:bI}{n:Nd}{A:Option Addr}(h:dG E S w n A)(hb:Bk B w w'):dG E S w' n A:=⟨Row.bk h.1 hb,h.2,h.3⟩
theorem ax.bk{B:Nat}(h:ax w g b m s Z x)(hb:Bk B w w'):ax w' g b m s Z x:=by
 obtain⟨es,hm,h1,h2⟩:=h.map
 have hin:∀k,af b m s x.t k->w'.heap[k]?=w.heap[k]?:=fun k hk=>by
  obtain⟨o,ho,hn⟩:=h.kind hk;exact(hb.keep ho hn).trans ho.symm
 refine⟨h.blk.bk hb,h.tree.stays fun k hk=>hin k (.inr hk),⟨es,hm.stays (hin m (.inl rfl)),h1,fun i hi=>?_⟩,h.jr,h.rX,fun k hk=>⟨Nat.lt_of_lt_of_le (h.old k hk).1 hb.size,(h.old k hk).2⟩⟩;obtain⟨v,e,A,c,e2,hv⟩:=h2 i hi;exact⟨v,e,A,c,e2,hv.bk hb⟩
theorem ae.bk{B:Nat}{S S':bI}{w0:World}(h:ae S S' w0 w)(hb:Bk B w w')(hB:w0.heap.size<=B):ae S S' w0 w':=
 ⟨hb.os.trans h.os,hb.tape.trans h.tape,hb.output.trans h.output,Nat.le_trans h.size hb.size,fun k hk hn=>⟨(h.far k hk hn).1,(hb.low (Nat.lt_of_lt_of_le hk h.size) (Nat.lt_of_lt_of_le hk hB)).trans (h.far k hk hn).2⟩⟩
theorem ax.kb{S':bI}(h:ax w g b m s Z x)(ht:ae (af b m s x.t) S' w w'):KB w w':=fun k o hk ho=>by
 refine((ht.far k (Array.getElem?_eq_some_iff.1 hk).1 fun e=>?_).2).trans hk;obtain⟨o',ho',hn⟩:=h.kind e;rw[hk]at ho';cases ho';rw[ho]at hn;cases hn
def a1V(g b m:Nat)(Z:ZZ)(s:Sh)(x:aJ)(r:aJ×Int)(w:World)(e:Ending)(w':World):Prop:=
 ∃s',e=.returned (.int .i64 r.2)∧ax w' g b m s' Z r.1∧ae (af b m s x.t) (af b m s' r.1.t) w w'
def cO(M:Int)(st:aJ->aJ×Int)(x:aJ)(l:List dU):aJ×Int×Int:=
 if 1024<l.length then (x,0,12) else
  if (aT M x l).2.2≠0 then (x,((aT M x l).2.1:Nat),(aT M x l).2.2) else
   if (st (aT M x l).1).2≠0 then (x,((aT M x l).2.1:Nat),(st (aT M x l).1).2) else ((st (aT M x l).1).1,((aT M x l).2.1:Nat),0)
def CP(g b m:Nat)(Z:ZZ)(s:Sh)(x:aJ)(r:aJ×Int×Int)(w:World)(e:Ending)(w':World):Prop:=
 ∃s',e=.returned (.tuple #[.int .i64 r.2.1,.int .i64 r.2.2])∧ax w' g b m s' Z r.1∧ae (af b m s x.t) (af b m s' r.1.t) w w'
theorem nU.turn{bx:Nat}{A:Option Addr}{c:Nat}{l:List (Nat×Array Value)}{S S':bI}(h:nU bx A c l w)(ht:ae S S' w w')(h1:¬S bx)(h2:∀a,A=some a->¬S a.block):nU bx A c l w':=by
 have hc:∀(a:Addr) (v:Value),¬S a.block->w.cell? a=some v->w'.cell? a=some v:=fun a v hn hv=>by
  have h3:=(ht.far a.block (World.block_lt_of_cell? w a hv) hn).2;rw[←hv];exact World.cell?_of_block h3
 refine⟨hc _ _ h1 h.box,fun j hj=>?_⟩;obtain⟨g,e,hv⟩:=h.at_ j hj;exact⟨g,e,hc ⟨g,j,none⟩ _ (h2 ⟨g,0,none⟩ e) hv⟩
end
end
section
open Go.RowKit fF fO aF Go.Maps yl Go.Shelf
attribute [local go_sem] Oper.semAt_some
section
variable {w:World}{g b m:Nat}{s:Sh}{Z:ZZ}{x:aJ}
theorem SB(h:ax w g b m s Z x)(l:List iZ)(A:Option Addr)(c:Nat)(ho:qM (af b m s x.t) w A l)(hok:∀q∈l,mW q.o)(hfx:∀i,Fit (x.nd i))(hn:l.length<=1024->Room Z.2.2 x l.length)(hlen:l.length<=1000000)(st:aJ->aJ×Int)
  (hset:∀(W:World) (s1:Sh) (E:bI),l.length<=1024->(aT Z.2.2 x (l.map (·.o))).2.2=0->ax W g b m s1 ⟨Z.1,Z.2,E⟩ (aT Z.2.2 x (l.map (·.o))).1->qM (af b m s1 (aT Z.2.2 x (l.map (·.o))).1.t) W A l ->
   Calls prog 48 #[.pointer (some ⟨g,0,none⟩),.slice A l.length c] W (a1V g b m ⟨Z.1,Z.2,E⟩ s1 (aT Z.2.2 x (l.map (·.o))).1 (st (aT Z.2.2 x (l.map (·.o))).1) W))
  (hst:(st (aT Z.2.2 x (l.map (·.o))).1).2≠0->(st (aT Z.2.2 x (l.map (·.o))).1).1=(aT Z.2.2 x (l.map (·.o))).1) :
  Calls prog 22 #[.pointer (some ⟨g,0,none⟩),.slice A l.length c] w (CP g b m Z s x (cO Z.2.2 st x (l.map (·.o))) w):=by
 obtain⟨R,hR⟩:=aB (cO Z.2.2 st x (l.map (·.o)))
 have HR:=Hd hR;rw[hR];unfold cO at HR;clear hR;rw[List.length_map]at HR;by_cases hm:1024<l.length
 ·have t1:decide ((1024:Int)<(l.length:Int))=true:=decide_eq_true (by omega);have t2:decide (1024<l.length)=true:=decide_eq_true hm;have HE:Hid (R=(x,0,12)):=by show _=_;rw[←HR.o,if_pos hm]
  have HS:=Hd h;clear HR hset hst ho hok hfx hn h hm;refine bV func22 rfl ?_;simp only[ntmps22,List.size_toArray,List.length_cons,List.length_nil,Nat.reduceAdd,Nat.reduceSub,Array.replicate_succ,Array.replicate_zero,List.push_toArray,List.append_toArray,List.nil_append,List.cons_append];go_wp2_with (fail)
  refine dI w.heap.size trivial fun w' hb=>⟨_,results_tmp2 rfl _ _ _,?_⟩
  rw[HE.o];exact⟨s,rfl,HS.o.bk hb,(ae.refl _ _).bk hb nR⟩
 have hm1:l.length<=1024:=by omega
 have t1:decide ((1024:Int)<(l.length:Int))=false:=decide_eq_false (by omega);have t2:decide (1024<l.length)=false:=decide_eq_false hm;rw[if_neg hm]at HR;have HC:=Hd (ZA h l A c ho hok hfx (hn hm1));unfold a5m at HC
 obtain⟨r,hr⟩:=aB (aT Z.2.2 x (l.map (·.o)))
 have hll:r.2.1<=1024:=by rw[←hr];have:=PE Z.2.2 (l.map (·.o)) x;rw[List.length_map]at this;omega
 rw[hr]at HC HR hset hst;have XF:=Hd (fun(W:World) (s1:Sh) (E:bI)=>hset W s1 E hm1);have HST:=Hd hst;have HO:=Hd ho;have HS:=Hd h;clear hset hst ho hok hfx hn h hm hm1 hr;refine bV func22 rfl ?_;simp only[ntmps22,List.size_toArray,List.length_cons,List.length_nil,Nat.reduceAdd,Nat.reduceSub,Array.replicate_succ,Array.replicate_zero,List.push_toArray,List.append_toArray,List.nil_append,List.cons_append];go_wp2_with (fail);refine HC.o.mono ?_;obtain⟨y,nd,e0⟩:=r;rintro e w1 ⟨U,uc,vs,s1,rfl,hvl,hown,hsc,ht,hch⟩;simp only at hvl hsc ht hch;subst hvl
 have mX:Hid (vs.length<=1024):=hll;clear hll;have HU:=Hd hown;have HY:=Hd hsc;have HT:=Hd ht;have HCH:=Hd hch;clear hown hsc ht hch HC
 dsimp only at HR XF HST ⊢
 go_upto_region 4 with(fail)
 go_cut [19] from 18 (fun u wx=>u=.bool (e0==0)∧wx=w1)
 case first=>
  go_wp2_with (fail)
  go_meet
  case rel=>exact⟨rfl,rfl⟩
 case rest=>
 obtain⟨rfl,rfl⟩:=hcut
 rename_i K1 hK1 K2 hK2
 refine hK2 _ _ ?_
 go_cut [5] from 20 (fun u wx=>∃(e5:Int) (s2:Sh) (y2:aJ),u=.int .i64 e5∧Hid (ax wx g b m s2 ⟨Z.1,Z.2,EO Z (.slice U vs.length uc)⟩ y2)∧Hid (ae (af b m s x.t) (af b m s2 y2.t) w wx)∧Hid (CG wx w.heap.size (.slice U vs.length uc) vs)∧Hid (e5≠0->KL g b m Z wx (Kv b m s2 y2.t (EO Z (.slice U vs.length uc))) vs.reverse y2 x)∧Hid (R=if e5≠0 then (x,((vs.length:Nat):Int),e5) else (y2,((vs.length:Nat):Int),0)))
 case first=>
  by_cases h0:e0=0
  ·subst h0;have t3:((0:Int)==0)=true:=rfl;have HC2:=Hd (XF.o wc s1 _ rfl HY.o (HO.o.turn HT.o));have HR2:Hid (R=if (st y).2≠0 then (x,((vs.length:Nat):Int),(st y).2) else ((st y).1,((vs.length:Nat):Int),0)):=by show _=_;rw[←HR.o,if_neg (by simp)]
   obtain⟨⟨y2,e2⟩,hs2⟩:∃q,st y=q:=⟨_,rfl⟩
   rw[hs2]at HC2 HR2 HST;unfold a1V at HC2;clear HR XF hs2
   dsimp only at HC2 HR2 HST
   go_wp2_with (fail);refine HC2.o.mono ?_;rintro e w2 ⟨s2,rfl,hsc2,ht2⟩;have ZC:=Hd hsc2;have HT2:=Hd ht2;clear hsc2 ht2 HC2;go_wp2_with (fail)
   go_meet
   case rel=>
    refine⟨e2,s2,y2,rfl,ZC.o,HT.o.trans HT2.o,HU.o.stays fun k hk=>(HT2.o.far k (HU.o.block hk).2 (HY.o.old k (.inr hk)).2.1).2,fun hne=>?_,HR2.o⟩;have:=HCH.o.turn (HT2.o.sor (EO Z (.slice U vs.length uc)));rw[←HST.o hne]at this;exact this
  ·have t3:(e0==0)=false:=by simpa using h0
   have HR2:Hid (R=if e0≠0 then (x,((vs.length:Nat):Int),e0) else (y,((vs.length:Nat):Int),0)):=by show _=_;rw[←HR.o,if_pos h0,if_pos h0]
   clear HR XF HST h0;go_wp2_with (fail)
   go_meet
   case rel=>exact⟨e0,s1,y,rfl,HY.o,HT.o,HU.o,fun _=>HCH.o,HR2.o⟩
 case rest=>
  obtain⟨e5,s2,y2,rfl,ZC,HT2,HU2,a2x,HR2⟩:=hcut;clear HY HT HU HCH HR XF HST;by_cases h5:e5=0
  ·subst h5;have HE:Hid (R=(y2,((vs.length:Nat):Int),0)):=by show _=_;rw[HR2.o,if_neg (by simp)]
   clear HR2 a2x;go_wp2_with (fail)
   refine dI w.heap.size trivial fun w' hb=>⟨_,results_tmp2 rfl _ _ _,?_⟩
   rw[HE.o]
   have hY:ax wc g b m s2 Z y2:=ZC.o.part (E':=Z.3) (fun _ _ _=>rfl) fun k hk=>⟨(ZC.o.old k (.inl hk)).1,.inl (.inl hk)⟩
   exact⟨s2,rfl,hY.bk hb,HT2.o.bk hb nR⟩
  have t5:(e5==0)=false:=by simpa using h5
  have HE:Hid (R=(x,((vs.length:Nat):Int),e5)):=by show _=_;rw[HR2.o,if_pos h5]
  have a0h:=Hd (a2x.o h5);clear HR2 a2x h5;go_wp2_with (fail);refine(Nc U vs.length uc wc).mono ?_;rintro e w3 ⟨rfl,hw3⟩;have hb3:Below wc.heap.size wc w3:=by rw[hw3];exact bR.alloc nR _
  have hx3:au w3 wc.heap.size [.slice U vs.length uc] 140:=by rw[hw3];exact au.new wc _ _
  obtain⟨bx,hbx⟩:=aB wc.heap.size
  have hsz3:bx<w3.heap.size:=by rw[←hbx];exact hx3.inside
  obtain⟨E3,hE3⟩:∃E3:bI,E3=fun k=>EO Z (.slice U vs.length uc) k∨k=bx:=⟨_,rfl⟩
  have TZ:Hid (∀k,EO Z (.slice U vs.length uc) k∨k=bx↔E3 k):=fun k=>by rw[hE3]
  have HY3:Hid (ax w3 g b m s2 ⟨Z.1,Z.2,E3⟩ y2):=ZC.o.part (fun k h1 _=>hb3.block k h1) fun k hk=>by
   rcases(TZ.o k).2 hk with e|e
   ·exact⟨Nat.lt_of_lt_of_le (ZC.o.old k e).1 hb3.size,.inl e⟩
   ·rw[e];exact⟨hsz3,.inr (by omega)⟩
  have a6C:Hid (KL g b m Z w3 (Kv b m s2 y2.t E3) vs.reverse y2 x):=a0h.o.part hb3.size (fun k h1 _=>hb3.block k h1) fun k hk=>by
   rcases(TZ.o k).2 hk with e|e
   ·exact .inl e
   ·exact .inr (by omega)
  have JK:Hid (CG w3 w.heap.size (.slice U vs.length uc) vs):=HU2.o.below hb3
  have HBF:Hid (nU bx U uc vs w3):=by
   rw[←hbx];refine⟨hx3.blk.cell 0,fun j hj=>?_⟩;obtain⟨g9,c9,e9,-,-,hrow⟩:=ak.row0 JK.o zn (by omega)
   injection e9 with e9 _ _
   obtain⟨b9,o9,e8,hc⟩:=hrow (by omega)
   injection e8 with e8
   injection e8 with e8 e7
   refine⟨g9,e9,?_⟩;have:=hc j hj 0 (fv vs[j]) rfl;rw[←e8,←e7]at this
   simpa using this
  have HT3:Hid (ae (af b m s x.t) (af b m s2 y2.t) w w3):=HT2.o.trans (ae.below hb3);have ui:Hid (∀a,U=some a->E3 a.block):=fun a ea=>(TZ.o _).1 (.inl (.inr (by rw[ea];rfl)));have HEB:Hid (E3 bx):=(TZ.o _).1 (.inr rfl);have HEZ:Hid (∀k,Z.3 k->E3 k):=fun k hk=>(TZ.o _).1 (.inl (.inl hk));have Dx:Hid (vs.length<=100000):=by have:=mX.o;show _<=_;omega
  rw[hbx];clear hw3 hb3 hx3 hbx hsz3 hE3 TZ ZC a0h HU2 HT2;go_wp2_with (fail)
  refine kN (gf:=78) (lb:=#[.pointer (some ⟨bx,0,none⟩)]) rfl (enters_of func78 ag rfl) (es:=pO vs) (R:=fun _=>Eq) (Kp:=fun A B=>nU bx U uc vs A->nU bx U uc vs B)
   (fun W1 hb=>Nb Dx.o (HBF.o.bk hb)) (fun h k x=>k (h x)) (fun A B hb h=>h.bk hb) (fun n A B e k o _ hk _=>e ▸ hk)
   (fun e he=>by obtain⟨j,_,rfl⟩:=List.mem_map.1 he;rfl)
   (fun k W=>∃s4 y4,ax W g b m s4 ⟨Z.1,Z.2,E3⟩ y4∧ae (af b m s2 y2.t) (af b m s4 y4.t) w3 W∧KL g b m Z w3 (Kv b m s2 y2.t E3) (vs.reverse.drop k) y4 x)
   (fun _ _ _=>False) (fun k A B h hr=>?hI) (fun _ _ _ _ h _=>h.elim) ⟨s2,y2,HY3.o,ae.refl _ _,by rw[List.drop_zero];exact a6C.o⟩ ?a1 ?assign ?body ?done (fun _ _ _ _ _ _ h _=>h.elim)
  case hI=>
   obtain⟨s4,y4,h1,h2,h3⟩:=h;rcases hr with ⟨n,hn,rfl⟩|hb
   ·exact⟨s4,y4,h1,h2,h3⟩
   ·exact⟨s4,y4,h1.bk hb,h2.bk hb nR,h3⟩
  case assign=>
   intro l j hj W9 KK FQ;rw[Ew]
   gi_wp2_with (fail)
   exact FQ
  case body=>
   rintro l j hj W9 ⟨s4,y4,h1,h2,h3⟩;rw[mO]at hj
   have hd:vs.reverse.drop j=vs[vs.length - 1 - j]?.getD (0,#[])::vs.reverse.drop (j+1):=by
    rw[List.drop_eq_getElem_cons (by simpa using hj),List.getElem_reverse,List.getElem?_eq_getElem (by omega)];rfl
   rw[hd]at h3;clear hd
   obtain⟨q,hq⟩:=aB (vs[vs.length - 1 - j]?.getD (0,#[]))
   rw[hq]at h3 ⊢;clear hq;obtain⟨y5,⟨K,f,cs,e,hen,hK,hcl⟩,h4⟩:=h3
   have PX:=Hd (hcl W9 s4 E3 (fun k hk=>by
    have h5:=h2.far k (hK k hk).1 fun e=>(hK k hk).2 (.inl e)
    exact⟨h5.2,h5.1,fun e=>(hK k hk).2 (.inr e)⟩) h1)
   have PR:=Hd h1;have HT4:=Hd h2;have yP:=Hd h4;rw[show fv q=.func (.func f) #[] cs from e];have a5C:=hen;unfold Enters at a5C;clear e hen hK hcl h1 h2 h4
   gi_wp2_with (fail)
   refine⟨trivial,rfl,CallsIn.inRound l ((callsIn_wide (n:=0)).2 (PX.o.mono ?_))⟩;rintro e2 W7 ⟨⟨rv,rfl⟩,s6,h6,h7⟩;have HS6:=Hd h6;have SL:=Hd h7;clear h6 h7
   gi_wp2_with (fail)
   exact⟨PR.o.kb SL.o,fun hB=>hB.turn SL.o (PR.o.old _ HEB.o).2.1 fun a ea=>(PR.o.old _ (ui.o a ea)).2.1,s6,y5,HS6.o,HT4.o.trans SL.o,yP.o⟩
  case done=>
   rintro D W9 hD ⟨s4,y4,h1,h2,h3⟩ hd;rw[mO,List.drop_of_length_le (by simp)]at h3;obtain rfl:y4=x:=h3;have PR:=Hd h1;have HT4:=Hd h2;clear h1 h2;go_wp2_with (fail)
   refine dI w3.heap.size ⟨⟨D,rfl,hD,hd,by simp⟩,trivial⟩ fun w' hb=>⟨_,results_tmp2 rfl _ _ _,?_⟩
   rw[HE.o]
   have hY:ax W9 g b m s4 Z y4:=PR.o.part (E':=Z.3) (fun _ _ _=>rfl) fun k hk=>⟨(PR.o.old k (HEZ.o k hk)).1,.inl (HEZ.o k hk)⟩
   exact⟨s4,rfl,hY.bk hb,(HT3.o.trans HT4.o).bk hb HT3.o.size⟩
end
end
section
open Go.RowKit fF fO aF Go.Maps
section
variable {w w':World}{g b m:Nat}{s:Sh}{Z:ZZ}{x:aJ}
theorem ax.look_ok(h:ax w g b m s Z x){i:Int}(hi:I64 i):∃A c,∀W,bz w W->(Instr.lookup fD (.map (some m)) (.int .i64 i) true).run prog W=.ok (.tuple #[.agg (eP (gZ x i) A c (gy x i)).toArray,.bool (has x.t i)]) W∧dG Z.3 (af b m s x.t) W (gZ x i) A:=by
 by_cases hh:has x.t i=true
 ·obtain⟨A,c,hl⟩:=h.Aw hi hh;have e1:gZ x i=x.nd i:=if_pos hh;have e2:gy x i=x.ws i:=if_pos hh;rw[e1,e2,hh];exact⟨A,c,fun W hb=>⟨(hl W hb).2.1,(hl W hb).2.2⟩⟩
 ·have e1:gZ x i=Nd.zero:=if_neg hh;have e2:gy x i=Mp.o:=if_neg hh;rw[e1,e2,show has x.t i=false from by simpa using hh];exact⟨none,0,fun W hb=>⟨((h.below hb).fH hi hh).2,qA rfl _,fun a e=>(nomatch e),fun a e=>(nomatch e)⟩⟩
theorem Dz(h:ax w g b m s Z x)(i:Int)(hi:I64 i) :
  Calls prog 35 #[.pointer (some ⟨g,0,none⟩),.int .i64 i] w (aX (.tuple #[.agg (gy x i).cs.toArray,.bool (has x.t i)]) w):=by
 have hb0:bz w (w.alloc (.cells Vd.toArray 67)):=bR.alloc nR _;have HB0:=Hd hb0;have HZ0:Hid (aA (w.alloc (.cells Vd.toArray 67)) w.heap.size Vd):=az w Vd _;have vV:Hid (ax (w.alloc (.cells Vd.toArray 67)) g b m s Z x):=h.below hb0;obtain⟨A,c,hl⟩:=h.look_ok hi;have HL:=Hd hl;have kY:Hid (∀k,af b m s x.t k->k<w.heap.size):=h.inside;have yL:Hid (∀k,Z.3 k->k<w.heap.size):=fun k hk=>(h.old k hk).1;have iQ:Hid ((w.alloc (.cells Vd.toArray 67)).heap.size=w.heap.size+1):=by show _=_;simp
 obtain⟨hh,hhe⟩:=aB (has x.t i)
 rw[hhe]at HL ⊢
 obtain⟨n,hn⟩:=aB (gZ x i)
 obtain⟨u,hu⟩:=aB (gy x i)
 rw[hn,hu]at HL;rw[hu];clear hb0 hl h hhe hn hu;go_enter func35,ntmps35
 go_upto_region 1 with(fail)
 generalize (w.alloc (.cells Vd.toArray 67))=w0 at*;obtain⟨⟨-,-,-,-,-,c5⟩,i0⟩:=vV.o.top;have hlk:=(HL.o w0 HB0.o).1;have HZ2:Hid (aA (w0.alloc (.cells Vi.toArray 137)) w0.heap.size Vi):=az w0 Vi _;have jW:Hid (bz w0 (w0.alloc (.cells Vi.toArray 137))):=bR.alloc nR _
 go_upto_region 2 with(first|(with_reducible refine gS ?_;first|(refine ay 137 _ _ rfl rfl rfl _ 0 rfl (eP n A c u) rfl (Vi) HZ2.o (eP n A c u) rfl (nE rfl) ag (Ii _ _ _ _) ?_;intro w3 HW3 dO)))
 have HB3:Hid (bz w0 w3):=HW3.o.below jW.o nR;have HZ3:Hid (aA w3 w.heap.size Vd):=HZ0.o.below' HB3.o;have TU:=Hd (HL.o w3 (HB0.o.trans (HB3.o.mono HB0.o.size))).2;clear hlk HL c5 i0 HZ2 jW HW3 HZ0;have CV:Hid (w.heap.size≠w0.heap.size):=by show _≠_;have:=iQ.o;omega
 go_wp2_with (first|(with_reducible refine gL ?_;first|(refine wt 67 20 rfl rfl rfl dO.o (u.cs) rfl underlying67 rfl ?_))|(with_reducible refine gS ?_;first|(refine ay 67 _ _ rfl rfl rfl _ 0 rfl (u.cs) rfl (Vd) HZ3.o (u.cs) rfl (nE rfl) ag (Mp.one1 _) ?_;intro w4 yF nT)));exact aK rfl rfl rfl nT.o underlying67 rfl ag ⟨rfl,yF.o.below (HB0.o.trans (HB3.o.mono HB0.o.size)) nR⟩
theorem UU(h:ax w g b m s Z x)(hfx:∀j,Fit (x.nd j))(i:Int)(hi:I64 i) :
  Calls prog 20 #[.pointer (some ⟨g,0,none⟩),.int .i64 i] w fun e w'=>∃A c,e=.returned (.tuple #[.agg ((gZ x i).cs A c).toArray,.bool (has x.t i)])∧bz w w'∧dG Z.3 (af b m s x.t) w' (gZ x i) A∧∀a,A=some a->(gZ x i).lk.l≠[]->w.heap.size<=a.block∧∀j,w'.frozen? ⟨a.block,j,none⟩=false:=by
 have YB:Hid ((gZ x i).lk.l.length<=300):=by
  show _<=_;unfold gZ;split
  ·exact(hfx i).len
  ·exact Nat.zero_le _
 clear hfx;have hb0:bz w (w.alloc (.cells Va.toArray 77)):=bR.alloc nR _;have HB0:=Hd hb0;have HZ0:Hid (aA (w.alloc (.cells Va.toArray 77)) w.heap.size Va):=az w Va _;have vV:Hid (ax (w.alloc (.cells Va.toArray 77)) g b m s Z x):=h.below hb0;obtain⟨A,c,hl⟩:=h.look_ok hi;have HL:=Hd hl;have kY:Hid (∀k,af b m s x.t k->k<w.heap.size):=h.inside;have yL:Hid (∀k,Z.3 k->k<w.heap.size):=fun k hk=>(h.old k hk).1;have iQ:Hid ((w.alloc (.cells Va.toArray 77)).heap.size=w.heap.size+1):=by show _=_;simp
 obtain⟨hh,hhe⟩:=aB (has x.t i)
 rw[hhe]at HL ⊢
 obtain⟨n,hn⟩:=aB (gZ x i)
 obtain⟨u,hu⟩:=aB (gy x i)
 rw[hn,hu]at HL;rw[hn]at YB ⊢;clear hb0 hl h hhe hn hu;go_enter func20,ntmps20
 go_upto_region 1 with(fail)
 generalize (w.alloc (.cells Va.toArray 77))=w0 at*;obtain⟨⟨-,-,-,-,-,c5⟩,i0⟩:=vV.o.top;have hlk:=(HL.o w0 HB0.o).1;have HZ2:Hid (aA (w0.alloc (.cells Vi.toArray 137)) w0.heap.size Vi):=az w0 Vi _;have jW:Hid (bz w0 (w0.alloc (.cells Vi.toArray 137))):=bR.alloc nR _
 go_upto_region 2 with(first|(with_reducible refine gS ?_;first|(refine ay 137 _ _ rfl rfl rfl _ 0 rfl (eP n A c u) rfl (Vi) HZ2.o (eP n A c u) rfl (nE rfl) ag (Ii _ _ _ _) ?_;intro w3 HW3 dO)))
 have HB3:Hid (bz w0 w3):=HW3.o.below jW.o nR;have HZ3:Hid (aA w3 w.heap.size Va):=HZ0.o.below' HB3.o;have TU:=Hd (HL.o w3 (HB0.o.trans (HB3.o.mono HB0.o.size))).2;clear hlk HL c5 i0 HZ2 jW HW3 HZ0;have HCP:=Hd (Pj n A c (by have:=YB.o;omega) w3 TU.o.1 Z.3 (af b m s x.t) (fun k hk=>by have:=yL.o k hk;have:=HB0.o.size;have:=HB3.o.size;omega) (fun k hk=>by have:=kY.o k hk;have:=HB0.o.size;have:=HB3.o.size;omega));unfold Yq at HCP
 go_wp2_with (first|(with_reducible refine gL ?_;first|(refine wt 77 0 rfl rfl rfl dO.o (n.cs A c) rfl underlying77 rfl ?_)));refine HCP.o.mono ?_;rintro e w4 ⟨A4,c4,rfl,hn4,hb4,hg4⟩;have HZ4:=Hd (HZ3.o.below' hb4);have HB4:=Hd hb4;have YA:=Hd (And.intro hn4 hg4);clear hn4 hb4 hg4 HCP HZ3;go_wp2_with (first|(with_reducible refine gS ?_;first|(refine ay 77 _ _ rfl rfl rfl _ 0 rfl (n.cs A4 c4) rfl (Va) HZ4.o (n.cs A4 c4) rfl (nE rfl) ag (Nd.one _ _ _) ?_;intro w5 vM vW)))
 have hlow:w.heap.size<w3.heap.size:=by have:=iQ.o;have:=HB3.o.size;omega
 have V4:∀a,A4=some a->n.lk.l≠[]->a.block≠w.heap.size:=fun a ea hne e=>by have:=YA.o.2 a ea hne;omega
 exact aK rfl rfl rfl vW.o underlying77 rfl ag ⟨A4,c4,rfl,vM.o.below ((HB0.o.trans (HB3.o.mono HB0.o.size)).trans (HB4.o.mono (by omega))) nR,⟨Row.stays YA.o.1.1 fun a ea hne=>vM.o.far (V4 a ea hne),YA.o.1.2,YA.o.1.3⟩,fun a ea hne=>⟨by have:=YA.o.2 a ea hne;omega,fun j=>(World.frozen?_of_block (a:=⟨a.block,j,none⟩) (vM.o.far (V4 a ea hne))).trans ((YA.o.2 a ea hne).2 j)⟩⟩
end
end
section
open Go.RowKit fF fO aF Go.Maps
abbrev a2V:TypeId:=90
theorem dw{P:Program}{ops:Array Oper}{rest:List Oper}{o:Oper}{a:Act}{Q:Exit->Act->World->Prop}{w w':World}(t:TypeId)(parts:Array (Nat×Operand))(ho:o.op=.build t parts)(hgd:Region.wanted o (yielded ops a.tmps)=true){vals:Array (Nat×Value)}(hv:(parts.map fun q=>(q.1,a.eval q.2))=vals){v:Value}(hrun:(Instr.build t vals).run P w=.ok v w')
  (h:wpList P ops Q rest (a.put o.dst v) w'):wpList P ops Q (o::rest) a w:=by
 subst hv;unfold wpList;rw[if_pos hgd];refine .inl ?_;unfold Oper.wp execOp;simp only[ho,Sem.run_bind,Result.andThen_ok,hrun];exact h
def sccs(b m:Nat)(Z:ZZ):List Value:=[.iface 88 (.pointer (some ⟨b,0,none⟩)),.pointer (some ⟨b,0,none⟩),.int .i64 Z.1,.int .i64 Z.2.1,.int .i64 Z.2.2,.map (some m)]
theorem Jq(b m:Nat)(W H M:Int)(w:World):(Instr.build sU #[(0,.iface 88 (.pointer (some ⟨b,0,none⟩))),(1,.pointer (some ⟨b,0,none⟩)),(2,.agg (Vr W H M).toArray),(3,.map (some m))]).run prog w =
  .ok (.agg #[.iface 88 (.pointer (some ⟨b,0,none⟩)),.pointer (some ⟨b,0,none⟩),.int .i64 W,.int .i64 H,.int .i64 M,.map (some m)]) w:=by kernel_rfl
def OfQ(b m:Nat)(Z:ZZ)(w:World)(e:Ending)(w':World):Prop:=∃g,e=.returned (.pointer (some ⟨g,0,none⟩))∧w.heap.size<=g∧au w' g (sccs b m Z) sU∧bz w w'
theorem a1a(Z:ZZ)(b m:Nat)(w:World) :
  Calls prog 51 #[.agg (Vr Z.1 Z.2.1 Z.2.2).toArray,.pointer (some ⟨b,0,none⟩),.map (some m)] w (OfQ b m Z w):=by
 go_enter func51,ntmps51;go_wp2_with ((with_reducible refine gU ?_);refine dw _ _ rfl rfl (by simp[go_sem]) (Jq b m Z.1 Z.2.1 Z.2.2 _) ?_);go_ret;exact⟨_,rfl,by omega,by simpa[sccs]using au.new (w.alloc _) (sccs b m Z) sU,(bR.alloc nR _).alloc (by simp) _⟩
def plain0:LV:=[(0,plv Nd.plain none 0 Mp.one)]
structure fU(base:Nat)(Z:ZZ)(i4 i5 i10 i11 i12 i13:Bool)(v29 v30 v35 v36 v6:Value)(w:World):Prop where
 gX:base<=w.heap.size
 tree:i4=true->∃b s,v29=.pointer (some ⟨b,0,none⟩)∧bD w b s []∧(∀k,gG b s [] k->base<=k)∧(i5=true->∀m,v30=.map (some m)->¬gG b s [] m)
 map:i5=true->∃m,v30=.map (some m)∧VM w m (bif i10 then plain0 else [])∧base<=m
 mv:i11=true->v35=v30
 Ux:i12=true->∃g b s m,v36=.pointer (some ⟨g,0,none⟩)∧base<=g∧au w g (sccs b m Z) sU∧bD w b s []∧VM w m plain0∧(∀k,af b m s [] k->base<=k)∧¬gG b s [] m∧¬af b m s [] g
 o:i13=true->v6=v36
 o10:i10=true->i5=true
 o11:i11=true->i10=true
 YU:i12=true->i4=true∧i11=true
 o13:i13=true->i12=true
section
variable {base:Nat}{Z:ZZ}{i4 i5 i10 i11 i12 i13:Bool}{v29 v30 v35 v36 v6:Value}{w w':World}
theorem fU.slots{u29 u30 u35 u36 u6:Value}(h:fU base Z i4 i5 i10 i11 i12 i13 v29 v30 v35 v36 v6 w)(e1:u29=v29)(e2:u30=v30)(e3:u35=v35)(e4:u36=v36)(e5:u6=v6):fU base Z i4 i5 i10 i11 i12 i13 u29 u30 u35 u36 u6 w:=by
 rw[e1,e2,e3,e4,e5];exact h
theorem fU.below(h:fU base Z i4 i5 i10 i11 i12 i13 v29 v30 v35 v36 v6 w)(hb:bz w w'):fU base Z i4 i5 i10 i11 i12 i13 v29 v30 v35 v36 v6 w' where
 gX:=Nat.le_trans h.gX hb.size
 tree e:=by
  obtain⟨b,s,h1,h2,h3⟩:=h.tree e;exact⟨b,s,h1,h2.below hb,h3⟩
 map e:=by
  obtain⟨m,h1,h2,h3⟩:=h.map e;exact⟨m,h1,h2.below hb,h3⟩
 mv:=h.mv
 Ux e:=by
  obtain⟨g,b,s,m,h1,h2,h3,h4,h5,h6⟩:=h.Ux e;exact⟨g,b,s,m,h1,h2,h3.stays (hb.block _ h3.inside),h4.below hb,h5.below hb,h6⟩
 o:=h.o
 o10:=h.o10
 o11:=h.o11
 YU:=h.YU
 o13:=h.o13
theorem l7{i j:Bool}(h:i=true->j=true)(e:j=false):i=false:=by cases i with|false=>rfl|true=>rw[h rfl]at e;cases e
theorem fU.start(hb:base<=w.heap.size):fU base Z false false false false false false v29 v30 v35 v36 v6 w:=
 ⟨hb,nofun,nofun,nofun,nofun,nofun,nofun,nofun,nofun,nofun⟩
theorem fU.grow(h:fU base Z i4 i5 i10 i11 i12 i13 v29 v30 v35 v36 v6 w)(h4:i4=false){b:Nat}{s:Sh}{u29:Value}(hb:bz w w')(h1:bD w' b s [])(h2:∀k,gG b s [] k->w.heap.size<=k)(e29:u29=.pointer (some ⟨b,0,none⟩)):fU base Z true i5 i10 i11 i12 i13 u29 v30 v35 v36 v6 w':=
 have h12:=l7 (fun e=>(h.YU e).1) h4;have h13:=l7 h.o13 h12;have h':=h.below hb
 ⟨h'.gX,fun _=>⟨b,s,e29,h1,fun k hk=>Nat.le_trans h.gX (h2 k hk),fun e m em hm=>by
  obtain⟨m',e1,e2,-⟩:=h.map e;rw[em]at e1
  injection e1 with e1
  injection e1 with e1
  have:=h2 m hm;have:=e2.inside
  omega⟩,h'.map,h'.mv,(fun e=>by rw[h12]at e;cases e),(fun e=>by rw[h13]at e;cases e),h'.o10,h'.o11,(fun e=>⟨rfl,(h'.YU e).2⟩),h'.o13⟩
theorem fU.make{u30:Value}(h:fU base Z i4 i5 i10 i11 i12 i13 v29 v30 v35 v36 v6 w)(h5:i5=false)(e30:u30=.map (some w.heap.size)):fU base Z i4 true i10 i11 i12 i13 v29 u30 v35 v36 v6 (w.alloc (.map #[] 0)):=by
 have h10:=l7 h.o10 h5;have h11:=l7 h.o11 h10;subst e30 h5 h10 h11;have hb:bz w (w.alloc (.map #[] 0)):=bR.alloc nR _;have h':=h.below hb;refine⟨h'.gX,fun e=>?_,fun _=>⟨_,rfl,VM.made w,h.gX⟩,nofun,h'.Ux,h'.o,(nofun),(nofun),h'.YU,h'.o13⟩;obtain⟨b0,s0,h10,h20,h30,-⟩:=h.tree e;refine⟨b0,s0,h10,h20.below hb,h30,fun _ m em hm=>?_⟩
 injection em with em
 injection em with em
 have:=h20.raw.inside m hm;omega
theorem fU.put(h:fU base Z i4 i5 i10 i11 i12 i13 v29 v30 v35 v36 v6 w)(h5:i5=true)(h10:i10=false):∃m w',v30=.map (some m)∧(Instr.mapUpdate fD (.map (some m)) (.int .i64 0) (plv Nd.plain none 0 Mp.one)).run prog w=.ok () w'∧Below base w w'∧fU base Z i4 i5 true i11 i12 i13 v29 v30 v35 v36 v6 w':=by
 subst h5;have h11:=l7 h.o11 h10;have h12:=l7 (fun e=>(h.YU e).2) h11;subst h10;obtain⟨m,h1,h2,h3⟩:=h.map rfl;obtain⟨w',hrun,hm',hg⟩:=h2.store fM (i:=0) (by constructor<;>decide) (plv Nd.plain none 0 Mp.one) (by show[_].length<=_;simp);have hne:∀k,k<w.heap.size->k≠m->w'.heap[k]?=w.heap[k]?:=fun k hk hn=>hg.block k hk fun e=>hn (Option.some.inj e);refine⟨m,w',h1,hrun,bR.grown hg h.gX fun k e=>by rw[←Option.some.inj e];exact h3,⟨Nat.le_trans h.gX hg.size,fun e=>?_,fun _=>⟨m,h1,hm',h3⟩,h.mv,fun e=>?_,h.o,fun _=>rfl,fun _=>rfl,h.YU,h.o13⟩⟩
 ·obtain⟨b,s,e1,e2,e3,e4⟩:=h.tree e;exact⟨b,s,e1,e2.stays fun k hk=>hne k (e2.raw.inside k hk) fun e5=>e4 rfl m h1 (e5 ▸ hk),e3,e4⟩
 ·rw[h12]at e;cases e
theorem fU.last(h:fU base Z i4 i5 i10 i11 i12 i13 v29 v30 v35 v36 v6 w)(h4:i4=true)(h11:i11=true)(h12:i12=false):∃b m,v29=.pointer (some ⟨b,0,none⟩)∧v35=.map (some m)∧∀e w',OfQ b m Z w e w'->∃u,e=.returned u∧bz w w'∧fU base Z i4 i5 i10 i11 true i13 v29 v30 v35 u v6 w':=by
 have h13:=l7 h.o13 h12;have h10:=h.o11 h11;have h5:=h.o10 h10;subst h4 h5 h10 h11 h12;obtain⟨b,s,e1,e2,e3,e4⟩:=h.tree rfl;obtain⟨m,f1,f2,f3⟩:=h.map rfl;refine⟨b,m,e1,(h.mv rfl).trans f1,?_⟩;rintro e w' ⟨g,rfl,g1,g2,g3⟩;have h':=h.below g3;have hnf:=e4 rfl m f1;refine⟨_,rfl,g3,⟨h'.gX,h'.tree,h'.map,h'.mv,fun _=>⟨g,b,s,m,rfl,Nat.le_trans h.gX g1,g2,e2.below g3,f2.below g3,fun k hk=>?_,hnf,fun hk=>?_⟩,(fun e=>by rw[h13]at e;cases e),h'.o10,h'.o11,(fun _=>⟨rfl,rfl⟩),(fun _=>rfl)⟩⟩
 ·rcases hk with e|e
  ·rw[e];exact f3
  ·exact e3 k e
 ·rcases hk with e|e
  ·have:=f2.inside;omega
  ·have:=e2.raw.inside g e;omega
theorem fU.copy{u35:Value}(h:fU base Z i4 i5 i10 i11 i12 i13 v29 v30 v35 v36 v6 w)(h10:i10=true)(e35:u35=v30):fU base Z i4 i5 i10 true i12 i13 v29 v30 u35 v36 v6 w:=⟨h.gX,h.tree,h.map,fun _=>e35,h.Ux,h.o,h.o10,fun _=>h10,fun e=>⟨(h.YU e).1,rfl⟩,h.o13⟩
theorem fU.tell{u6:Value}(h:fU base Z i4 i5 i10 i11 i12 i13 v29 v30 v35 v36 v6 w)(h12:i12=true)(e6:u6=v36):fU base Z i4 i5 i10 i11 i12 true v29 v30 v35 v36 u6 w:=⟨h.gX,h.tree,h.map,h.mv,h.Ux,fun _=>e6,h.o10,h.o11,h.YU,fun _=>h12⟩
theorem fU.pW(h:fU base Z i4 i5 i10 i11 true true v29 v30 v35 v36 v6 w)(hE:∀k,Z.3 k->k<base):∃g b m s,v6=.pointer (some ⟨g,0,none⟩)∧ax w g b m s Z ⟨[],fun _=>Nd.plain,fun _=>Mp.one⟩∧(∀k,af b m s [] k->base<=k)∧base<=g:=by
 obtain⟨g,b,s,m,h1,h2,h3,h4,h5,h6,h7,h8⟩:=h.Ux rfl;refine⟨g,b,m,s,(h.o rfl).trans h1,⟨h3,h4,⟨plain0,h5,fun i hi=>?_,fun i hi=>?_⟩,h8,h7,fun k hk=>⟨?_,fun e=>?_,fun e=>?_⟩⟩,h6,h2⟩
 ·by_cases e:i=0
  ·rw[e];rfl
  ·exact absurd (by simp[plain0,omap.look,Ne.symm e]) hi
 ·have e:i=0:=by
   rcases aj.1 hi with e|e
   ·exact e
   ·cases e
  subst e;exact⟨_,rfl,none,0,rfl,qA rfl _,(fun a e=>nomatch e),(fun a e=>nomatch e)⟩
 ·have:=hE k hk;have:=h.gX;omega
 ·have:=h6 k e;have:=hE k hk;omega
 ·have:=hE k hk;omega
end
end
section
open Go.RowKit fF fO aF Go.Maps
def ZB(Z:ZZ)(w:World)(e:Ending)(w':World):Prop:=
 ∃g b m s,e=.returned (.tuple #[.pointer (some ⟨g,0,none⟩),.int .i64 0])∧ax w' g b m s Z ⟨[],fun _=>Nd.plain,fun _=>Mp.one⟩∧bz w w'∧(∀k,af b m s [] k->w.heap.size<=k)∧w.heap.size<=g
section
variable {w:World}
theorem Iz(w:World):(Instr.makeMap fD none).run prog w=.ok (.map (some w.heap.size)) (w.alloc (.map #[] 0)):=rfl
theorem MP(a b c:Int)(w:World):(Instr.build a2V #[(0,.int .i64 a),(1,.int .i64 b),(2,.int .i64 c)]).run prog w=.ok (.agg (Vr a b c).toArray) w:=by kernel_rfl
theorem UW(Z:ZZ)(hE:∀k,Z.3 k->k<w.heap.size)(h1:1<=Z.1∧Z.1<=4096)(h2:1<=Z.2.1∧Z.2.1<=4096)(h3:1<=Z.2.2∧Z.2.2<=65536) :
  Calls prog 24 (Vr Z.1 Z.2.1 Z.2.2).toArray w (ZB Z w):=by
 have HE:=Hd hE;obtain⟨a1,a2⟩:=h1;obtain⟨b1,b2⟩:=h2;obtain⟨d1,d2⟩:=h3;have HQ:Hid (ZB Z w=ZB Z w):=rfl;clear hE;go_enter func24,ntmps24
 go_upto_region 1 with(fail)
 go_cut [23] from 9 (fun u wx=>u=.bool false∧wx=w)
 case first=>
  go_wp2_with (fail)
  all_goals first
   |(go_meet;case rel=>exact⟨by first|rfl|(simp;omega),rfl⟩)
   |(exfalso;omega)
 case rest=>
 obtain⟨rfl,rfl⟩:=hcut;go_wp2_with (fail);refine(Ag wc).mono ?_;rintro e w1 ⟨rfl,hb1⟩;have HB1:=Hd hb1;have HZ2:Hid (aA (w1.alloc (.cells Va.toArray 77)) w1.heap.size Va):=az w1 Va _;have jW:Hid (Below w1.heap.size w1 (w1.alloc (.cells Va.toArray 77))):=bR.alloc nR _;clear hb1
 go_upto_region 4 with(first|(with_reducible refine gS ?_;first|(refine ay 77 _ _ rfl rfl rfl _ 0 rfl (Nd.plain.cs none 0) rfl (Va) HZ2.o (Nd.plain.cs none 0) rfl (nE rfl) ag (Nd.one _ _ _) ?_;intro w3 HW3 dO)))
 have HB3:Hid (bz wc w3):=HB1.o.trans ((HW3.o.below jW.o nR).mono HB1.o.size)
 obtain⟨k8,hk8⟩:=aB w1.heap.size
 rw[hk8]at dO ⊢;clear HZ2 jW HW3 HB1 hk8
 refine Kr (Below w3.heap.size) (fun L V wx=>fU w3.heap.size Z (L 4) (L 5) (L 10) (L 11) (L 12) (L 13) (V 29) (V 30) (V 35) (V 36) (V 6) wx) [25,26,27,28,29,30,31,32,33,34,35,36,6,7] (fun _=>bR) (fun _ _ _ h k=>h.trans k) (fun i=>match i with
  |0=>rV (.int .i64 Z.1)
  |1=>rV (.int .i64 Z.2.1)
  |2=>rV (.int .i64 Z.2.2)
  |3=>rV (.agg ((Vr Z.1 Z.2.1 Z.2.2)).toArray)
  |6=>rV (.agg (Nd.plain.cs none 0).toArray)
  |7=>rp k8 0
  |8=>rV (.agg (Mp.one.cs).toArray)
  |9=>rV (.agg (eP Nd.plain none 0 Mp.one).toArray)
  |14=>rV (.int .i64 0)
  |_=>ra) (bR.drew) (fU.start (Below.refl 0 w3).drew.size) ⟨?_,?_,?_,?_,?_,?_,?_,?_,?_,?_,?_,?_,?_,?_,?_,trivial⟩ ?_
 any_goals (first|refine fK fun L a w1 hh=>?_|fail)
 have h0:=hh.o 0 (v:=.int .i64 Z.1) rfl;rotate_left;have h1:=hh.o 1 (v:=.int .i64 Z.2.1) rfl;rotate_left;have h2:=hh.o 2 (v:=.int .i64 Z.2.2) rfl;rotate_left
 ·have Dj:=rq (hh.d 0 25);have IZ:=rq (hh.d 1 26);have h27:=rq (hh.d 2 27);have hJ:=Hd hh.st;exact wp_build _ _ rfl (by simp[go_sem,Dj,IZ,h27]) (MP Z.1 Z.2.1 Z.2.2 w1) ⟨_,rfl,bR,rfl,fU.slots hJ.o sn sn sn sn sn⟩
 ·have hJ:=Hd hh.st;have hsz:=Hd hh.size;have hC:=Hd (tnew w1);have hun:=Hd hh.un;clear hh;go_simp;refine hC.o.mono ?_;rintro e w9 ⟨b9,s9,rfl,lU,aY,hf9⟩;exact⟨_,rfl,aY.mono hJ.o.gX,trivial,fU.slots (hJ.o.grow hun.o aY lU hf9 rfl) (bJ.aZ (by rw[hsz.o];simp)) sn sn sn sn⟩
 ·have hJ:=Hd hh.st;have hsz:=Hd hh.size;have hmm:=Iz w1;have hu:=Hd (hh.st.make hh.un rfl);clear hh;go_simp;exact⟨_,rfl,bR.alloc hJ.o.gX _,trivial,fU.slots hu.o sn (bJ.aZ (by rw[hsz.o];simp)) sn sn sn⟩
 ·have h8:=hh.p 8 k8 0;have hB:=Hd (dO.o.below' hh.rel);have hJ:=Hd hh.st;exact aN 77 _ rfl k8 0 (by simpa[go_sem]using h8) _ hB.o (Nd.plain.cs none 0) rfl _ underlying77 rfl ag ⟨_,rfl,bR,rfl,fU.slots hJ.o sn sn sn sn sn⟩
 have h8:=hh.p 8 k8 0;have i0:=(dO.o.below' hh.rel).inside;rotate_left
 ·have h32:=rq (hh.d 7 32);have hB:=Hd (dO.o.below' hh.rel);have hJ:=Hd hh.st;exact aN 67 _ rfl k8 0 (by simpa[go_sem]using h32) _ hB.o (Mp.one.cs) rfl _ underlying67 rfl ag ⟨_,rfl,bR,rfl,fU.slots hJ.o sn sn sn sn sn⟩
 ·have h31:=rq (hh.d 6 31);have TG:=rq (hh.d 8 33);have hJ:=Hd hh.st;exact wp_build _ _ rfl (by simp[go_sem,h31,TG]) (lK Nd.plain none 0 Mp.one w1) ⟨_,rfl,bR,rfl,fU.slots hJ.o sn sn sn sn sn⟩
 ·have V9:=rq (hh.d 9 34);obtain⟨m9,w9,e9,hrun,aY,hs9⟩:=hh.st.put (hh.up 5 ag) hh.un;have h30:a.tmps[30]?.getD undef=.map (some m9):=rq (e9);unfold plv at hrun;clear hh;go_simp;exact⟨⟨undef,trivial⟩,fU.slots hs9 rfl e9.symm rfl rfl rfl⟩
 ·have hsz:=Hd hh.size;have h30:a.tmps[30]?.getD undef=bJ.sl a 30:=by unfold bJ.sl;rw[Array.getD_eq_getD_getElem?]
  have hu:=Hd (hh.st.copy (hh.up 10 ag) rfl);clear hh;go_simp;exact⟨_,rfl,bR,trivial,fU.slots hu.o sn sn (bJ.aZ (by rw[hsz.o];simp)) sn sn⟩
 ·have h28:=rq (hh.d 3 28);have hJ:=Hd hh.st;have hsz:=Hd hh.size;obtain⟨b9,m9,e29,e35,hQ0⟩:=hh.st.last (hh.up 4 ag) (hh.up 11 ag) hh.un;have CS:a.tmps[29]?.getD undef=.pointer (some ⟨b9,0,none⟩):=rq (e29);have h35:a.tmps[35]?.getD undef=.map (some m9):=rq (e35);have hQ:=Hd hQ0;have hC:=Hd (a1a Z b9 m9 w1);clear hQ0;clear hh;go_simp;refine hC.o.mono ?_;intro e w9 hq;obtain⟨u9,rfl,aY,hs9⟩:=hQ.o e w9 hq;exact⟨_,rfl,aY.mono hJ.o.gX,trivial,fU.slots hs9 sn sn sn (bJ.aZ (by rw[hsz.o];simp)) sn⟩
 ·have hsz:=Hd hh.size;have TF:a.tmps[36]?.getD undef=bJ.sl a 36:=by unfold bJ.sl;rw[Array.getD_eq_getD_getElem?]
  have hu:=Hd (hh.st.tell (hh.up 12 ag) rfl);clear hh;go_simp;exact⟨_,rfl,bR,trivial,fU.slots hu.o sn sn sn sn (bJ.aZ (by rw[hsz.o];simp))⟩
 rotate_left
 any_goals (have hJ:=hh.j;clear hh;go_simp;exact⟨_,rfl,bR,rfl,fU.slots hJ.o sn sn sn sn sn⟩)
 intro L w4 val hL hJ hR hv;have h7:val 7=.int .i64 0:=hv 14 7 ag;have HR4:=Hd hR
 have hN:fU w3.heap.size Z (L 4) (L 5) (L 10) (L 11) true true (val 29) (val 30) (val 35) (val 36) (val 6) w4:=by
  have h:=hJ;rw[hL 12 (by decide),hL 13 (by decide)]at h;exact h
 obtain⟨g,b,m,s,e6,hsc,hft,hgb⟩:=hN.pW (fun k hk=>Nat.lt_of_lt_of_le (HE.o k hk) HB3.o.size);have Yx:=Hd (And.intro hsc (And.intro hft hgb));clear hv hL hJ hR hN hsc hft hgb;simp only[regs.aG,List.map_cons,List.map_nil,h7];simp only[Act.put,List.setIfInBounds_toArray,List.set_cons_zero,List.set_cons_succ];clear h7
 skip
 rw[e6];clear e6;go_wp2_with (fail);go_ret2;have hz:=HB3.o.size;exact⟨g,b,m,s,rfl,Yx.o.1,HB3.o.trans (HR4.o.mono HB3.o.size),fun k hk=>Nat.le_trans hz (Yx.o.2.1 k hk),Nat.le_trans hz Yx.o.2.2⟩
end
end
section
open Go.RowKit fF fO aF Go.Maps
abbrev iU:TypeId:=181
theorem vY:prog.underlying iU=some (.map 3 67):=underlying181
theorem Uc(w:World):(zeroValue 67).run prog w=.ok (.agg Mp.o.cs.toArray) w:=by kernel_rfl
def CJ(w:World)(mf:Nat)(fr:Int->Option Mp):Prop:=∃es,VM w mf es∧∀j,omap.look es j=(fr j).map fun q=>.agg q.cs.toArray
theorem CJ.stays{w w':World}{mf:Nat}{fr:Int->Option Mp}(h:CJ w mf fr)(hb:w'.heap[mf]?=w.heap[mf]?):CJ w' mf fr:=by
 obtain⟨es,h1,h2⟩:=h;exact⟨es,h1.stays hb,h2⟩
theorem CJ.inside{w:World}{mf:Nat}{fr:Int->Option Mp}(h:CJ w mf fr):mf<w.heap.size:=h.elim fun _ h=>h.1.inside
theorem CJ.below{w w':World}{mf:Nat}{fr:Int->Option Mp}(h:CJ w mf fr)(hb:bz w w'):CJ w' mf fr:=h.stays (hb.block _ h.inside)
theorem CJ.look{w:World}{mf:Nat}{fr:Int->Option Mp}(h:CJ w mf fr){i:Int}(hi:I64 i):(Instr.lookup iU (.map (some mf)) (.int .i64 i) true).run prog w=.ok (.tuple #[.agg (((fr i).getD Mp.o).cs).toArray,.bool (fr i).isSome]) w:=by
 obtain⟨es,h1,h2⟩:=h;have h3:=h1.look_ok vY (Uc w) hi;rw[h2]at h3;cases e:fr i with
 |none=>rw[e]at h3;exact h3
 |some q=>rw[e]at h3;exact h3
theorem Rl(n:Nd)(A:Option Addr)(c:Nat)(w:World):(Instr.field 77 (.agg (n.cs A c).toArray) 0).run prog w=.ok (.agg n.m.cs.toArray) w:=by kernel_rfl
theorem Ja(n:Nd)(A:Option Addr)(c:Nat)(u:Mp)(w:World):(Instr.field qY (.agg (eP n A c u).toArray) 1).run prog w=.ok (.agg u.cs.toArray) w:=by kernel_rfl
theorem WZ(q:Mp)(w:World):(Instr.buildSlice 252 1 #[(0,.agg q.cs.toArray)]).run prog w=.ok (.slice (some ⟨w.heap.size,0,none⟩) 1 1) (w.alloc (.cells q.cs.toArray 67)):=by kernel_rfl
def gI(x:aJ)(fr:Int->Option Mp)(i:Int):Mp×Int:=if i=0 then ((gZ x i).m,0) else (gZ x i).m.fA [(fr (par x.t i)).getD (gy x (par x.t i))]
section
variable {w w':World}{g b m:Nat}{s:Sh}{Z:ZZ}{x:aJ}
theorem ax.OI(h:ax w g b m s Z x){i:Int}(hi:I64 i):∃A c,∀W,bz w W->(Instr.lookup fD (.map (some m)) (.int .i64 i) false).run prog W=.ok (.agg (eP (gZ x i) A c (gy x i)).toArray) W:=by
 obtain⟨A,c,hl⟩:=h.Az hi;exact⟨A,c,fun W hb=>(hl W hb).1⟩
theorem Lj(h:ax w g b m s Z x)(i:Int)(hi:I64 i){mf:Nat}{fr:Int->Option Mp}(hf:CJ w mf fr) :
  Calls prog 77 #[.pointer (some ⟨g,0,none⟩),.int .i64 i,.map (some mf)] w (aX (.tuple #[.agg ((gI x fr i).1.cs).toArray,.int .i64 (gI x fr i).2]) w):=by
 obtain⟨R,hR⟩:=aB (gI x fr i)
 have HR:=Hd hR;rw[hR];unfold gI at HR;obtain⟨A,c,hl⟩:=h.OI hi
 obtain⟨n,hn⟩:=aB (gZ x i)
 obtain⟨u,hu⟩:=aB (gy x i)
 obtain⟨p,hp⟩:=aB (par x.t i)
 rw[hn,hu]at hl;rw[hn,hp]at HR;have HL:=Hd hl;have HP:=Hd hp;have ZP:Hid (I64 p):=by rw[←hp];exact E5 h.tree.ok i
 have HS:=Hd h;have HF:=Hd hf;have HI:=Hd hi;have HB0:Hid (bz w (w.alloc (.cells Vd.toArray 67))):=bR.alloc nR _;have HZ0:Hid (aA (w.alloc (.cells Vd.toArray 67)) w.heap.size Vd):=az w Vd _;have iQ:Hid ((w.alloc (.cells Vd.toArray 67)).heap.size=w.heap.size+1):=by show _=_;simp
 clear hR hl hn hu hp h hf hi;go_enter func77,ntmps77
 go_upto_region 1 with(fail)
 generalize (w.alloc (.cells Vd.toArray 67))=w0 at*;obtain⟨⟨-,-,-,-,-,c5⟩,i0⟩:=(HS.o.below HB0.o).top;have hlk:=HL.o w0 HB0.o;have hf1:=Bi n A c u w0;have hf2:=Rl n A c w0;have HZ2:Hid (aA (w0.alloc (.cells Vd.toArray 67)) w0.heap.size Vd):=az w0 Vd _;have jW:Hid (Below w0.heap.size w0 (w0.alloc (.cells Vd.toArray 67))):=bR.alloc nR _
 go_upto_region 2 with(first|(with_reducible refine gS ?_;first|(refine ay 67 _ _ rfl rfl rfl _ 0 rfl (n.m.cs) rfl (Vd) HZ2.o (n.m.cs) rfl (nE rfl) ag (Mp.one1 _) ?_;intro w3 HW3 dO)))
 have HB3:Hid (Below w0.heap.size w0 w3):=HW3.o.below jW.o nR;have lN:=Hd (HB0.o.trans (HB3.o.mono HB0.o.size));have HZ3:Hid (aA w3 w.heap.size Vd):=HZ0.o.below' HB3.o
 have dV:Hid (w.heap.size<w0.heap.size∧w0.heap.size<w3.heap.size):=⟨by have:=iQ.o;omega,dO.o.inside⟩
 clear hlk hf1 hf2 c5 i0 HZ2 jW HW3 HZ0 HL
 obtain⟨k8,hk8⟩:=aB w0.heap.size
 rw[hk8]at dO dV ⊢;clear hk8 iQ;by_cases h0:i=0
 ·subst h0;have HE:Hid (R=(n.m,0)):=by show _=_;rw[←HR.o,if_pos rfl]
  clear HR;go_wp2_with (first|(with_reducible refine gL ?_;first|(refine wt 67 0 rfl rfl rfl dO.o (n.m.cs) rfl underlying67 rfl ?_))|(with_reducible refine gS ?_;first|(refine ay 67 _ _ rfl rfl rfl _ 0 rfl (n.m.cs) rfl (Vd) HZ3.o (n.m.cs) rfl (nE rfl) ag (Mp.one1 _) ?_;intro w4 yF nT)));rw[HE.o];exact aK rfl rfl rfl nT.o underlying67 rfl ag ⟨rfl,yF.o.below lN.o nR⟩
 have t1:(i==0)=false:=by simpa using h0
 have HE:Hid (R=n.m.fA [(fr p).getD (gy x p)]):=by show _=_;rw[←HR.o,if_neg h0]
 clear HR h0;have rW:=Hd (HS.o.below lN.o);have NJ:=Hd (yV rW.o.tree i HI.o);rw[HP.o]at NJ;obtain⟨⟨c0,-,-,-,-,-⟩,i0⟩:=rW.o.top;have hinv:=pG (.pointer (some ⟨b,0,none⟩));go_wp2_with (fail);refine NJ.o.mono ?_;rintro e w4 ⟨rfl,hb4⟩;have HB4:=Hd hb4;have jy:=Hd (lN.o.trans (hb4.mono lN.o.size));have nT:Hid (aA w4 k8 n.m.cs):=dO.o.below' hb4;have HZ4:Hid (aA w4 w.heap.size Vd):=HZ3.o.below' hb4
 have HL4:Hid (w.heap.size<k8∧k8<w4.heap.size):=⟨dV.o.1,Nat.lt_of_lt_of_le dV.o.2 hb4.size⟩
 clear hb4 NJ hinv c0 i0 rW dO HZ3 HB3 HB4 lN dV t1;have hlk:=(HF.o.below jy.o).look ZP.o
 obtain⟨q,hq⟩:=aB ((fr p).getD Mp.o)
 rw[hq]at hlk;have HQ:=Hd hq;have HZ5:Hid (aA (w4.alloc (.cells Vd.toArray 67)) w4.heap.size Vd):=az w4 Vd _;have jW:Hid (Below w4.heap.size w4 (w4.alloc (.cells Vd.toArray 67))):=bR.alloc nR _;clear hq
 go_upto_region 6 with(first|(with_reducible refine gS ?_;first|(refine ay 67 _ _ rfl rfl rfl _ 0 rfl (q.cs) rfl (Vd) HZ5.o (q.cs) rfl (nE rfl) ag (Mp.one1 _) ?_;intro w5 vM vW)))
 have gV:Hid (Below w4.heap.size w4 w5):=vM.o.below jW.o nR;have Yn:=Hd (jy.o.trans (gV.o.mono jy.o.size));have X9:Hid (aA w5 k8 n.m.cs):=nT.o.below' gV.o;have TP:Hid (aA w5 w.heap.size Vd):=HZ4.o.below' gV.o
 obtain⟨k9,hk9⟩:=aB w4.heap.size
 have HL5:Hid (w.heap.size<k8∧k8<k9∧k9<w5.heap.size):=⟨HL4.o.1,by rw[←hk9];exact HL4.o.2,by rw[←hk9];exact vW.o.inside⟩
 rw[hk9]at vW ⊢;clear hlk HZ5 jW vM nT HZ4 HL4 jy hk9 gV;cases hfr:(fr p) with
 |some q2=>
  obtain rfl:q2=q:=by have:=HQ.o;rw[hfr]at this;exact this
  have HE2:Hid (R=n.m.fA [q2]):=by show _=_;rw[HE.o,hfr];rfl
  clear hfr HE;have t3:(some q2:Option Mp).isSome=true:=rfl;go_wp2_with (first|(with_reducible refine gL ?_;first|(refine wt 67 0 rfl rfl rfl X9.o (n.m.cs) rfl underlying67 rfl ?_)|(refine wt 67 0 rfl rfl rfl vW.o (q2.cs) rfl underlying67 rfl ?_))|((with_reducible refine gB ?_);refine iT _ _ _ rfl rfl (by simp[go_sem]) (WZ q2 _) ?_))
  have hmr:Cb (w5.alloc (.cells q2.cs.toArray 67)) (some ⟨w5.heap.size,0,none⟩) [q2]:=by
   have:=Iw w5 [q2] 67 rfl
   rwa [show([q2]:List Mp).flatMap Mp.cs=q2.cs from by simp]at this
  refine(Iy n.m _ [q2] 1 _ hmr (by simp)).mono ?_;rintro e w9 ⟨rfl,aY⟩;have hb8:bz w5 w9:=(bR.alloc nR _).trans (aY.mono (by simp));rw[show(n.m.fA [q2]).1.v=.agg (n.m.fA [q2]).1.cs.toArray from rfl];have pV:=Hd (Yn.o.trans (hb8.mono Yn.o.size));have HZ9:Hid (aA w9 w.heap.size Vd):=TP.o.below' hb8;rw[←HE2.o];obtain⟨RM,RE⟩:=R;clear hmr aY hb8
  dsimp only
  go_wp2_with (first|(with_reducible refine gS ?_;first|(refine ay 67 _ _ rfl rfl rfl _ 0 rfl (RM.cs) rfl (Vd) HZ9.o (RM.cs) rfl (nE rfl) ag (Mp.one1 _) ?_;intro wz HWz HKz)));exact aK rfl rfl rfl HKz.o underlying67 rfl ag ⟨rfl,HWz.o.below pV.o nR⟩
 |none=>
  obtain rfl:Mp.o=q:=by have:=HQ.o;rw[hfr]at this;exact this
  have HE2:Hid (R=n.m.fA [gy x p]):=by show _=_;rw[HE.o,hfr];rfl
  clear hfr HE HQ;have t3:(none:Option Mp).isSome=false:=rfl;obtain⟨A6,c6,hl6⟩:=HS.o.OI ZP.o
  obtain⟨n6,Zd⟩:=aB (gZ x p)
  obtain⟨u6,L6⟩:=aB (gy x p)
  have hlk:=hl6 w5 Yn.o;rw[Zd,L6]at hlk;rw[L6]at HE2;have hf3:=Ja n6 A6 c6 u6 w5;obtain⟨⟨-,-,-,-,-,c5⟩,i0⟩:=(HS.o.below Yn.o).top;clear hl6 Zd L6
  go_upto_region 8 with(first|(with_reducible refine gS ?_;first|(refine ay 67 _ _ rfl rfl rfl _ 0 rfl (u6.cs) rfl (Mp.o.cs) vW.o (u6.cs) rfl (nE rfl) ag (Mp.one1 _) ?_;intro w6 sG EH)))
  have a5l:Hid (bz w w6):=sG.o.below Yn.o (by have:=HL5.o;omega);have a6s:Hid (aA w6 k8 n.m.cs):=sG.o.blk (by have:=HL5.o;omega) X9.o;have HZ6:Hid (aA w6 w.heap.size Vd):=sG.o.blk (by have:=HL5.o;omega) TP.o;clear hlk hf3 c5 i0 sG X9 TP vW
  go_wp2_with (first|(with_reducible refine gL ?_;first|(refine wt 67 0 rfl rfl rfl a6s.o (n.m.cs) rfl underlying67 rfl ?_)|(refine wt 67 0 rfl rfl rfl EH.o (u6.cs) rfl underlying67 rfl ?_))|((with_reducible refine gB ?_);refine iT _ _ _ rfl rfl (by simp[go_sem]) (WZ u6 _) ?_))
  have hmr:Cb (w6.alloc (.cells u6.cs.toArray 67)) (some ⟨w6.heap.size,0,none⟩) [u6]:=by
   have:=Iw w6 [u6] 67 rfl
   rwa [show([u6]:List Mp).flatMap Mp.cs=u6.cs from by simp]at this
  refine(Iy n.m _ [u6] 1 _ hmr (by simp)).mono ?_;rintro e w9 ⟨rfl,aY⟩;have hb8:bz w6 w9:=(bR.alloc nR _).trans (aY.mono (by simp));rw[show(n.m.fA [u6]).1.v=.agg (n.m.fA [u6]).1.cs.toArray from rfl];have pV:=Hd (a5l.o.trans (hb8.mono a5l.o.size));have HZ9:Hid (aA w9 w.heap.size Vd):=HZ6.o.below' hb8;rw[←HE2.o];obtain⟨RM,RE⟩:=R;clear hmr aY hb8
  dsimp only
  go_wp2_with (first|(with_reducible refine gS ?_;first|(refine ay 67 _ _ rfl rfl rfl _ 0 rfl (RM.cs) rfl (Vd) HZ9.o (RM.cs) rfl (nE rfl) ag (Mp.one1 _) ?_;intro wz HWz HKz)));exact aK rfl rfl rfl HKz.o underlying67 rfl ag ⟨rfl,HWz.o.below pV.o nR⟩
end
end
section
open Go.RowKit aF yl Go.Shelf
attribute [local go_sem] Oper.semAt_some
theorem MX(A:Option Addr)(n c:Nat)(w:World):Calls prog 75 #[.slice A n c] w fun e w'=>e=.returned (.func (.func 99) #[] #[.pointer (some ⟨w.heap.size,0,none⟩)])∧w'=w.alloc (.cells #[.slice A n c] 185):=by
 go_enter func75,ntmps75;go_wp2_with (fail);go_ret;exact⟨rfl,rfl⟩
structure qh(bx:Nat)(A:Option Addr)(c:Nat)(l:List Value)(W:World):Prop where
 box:W.cell? ⟨bx,0,none⟩=some (.slice A l.length c)
 at_:∀j (hj:j<l.length),∃g,A=some ⟨g,0,none⟩∧W.cell? ⟨g,j,none⟩=some (l[j])
theorem qh.bk{bx:Nat}{A:Option Addr}{c:Nat}{l:List Value}{W W':World}{B:Nat}(h:qh bx A c l W)(hb:Bk B W W'):qh bx A c l W':=
 ⟨eQ hb h.box,fun j hj=>by
  obtain⟨g,e,hc⟩:=h.at_ j hj
  exact⟨g,e,eQ hb hc⟩⟩
def pK(l:List Value):List (Array Value):=(List.range l.length).map fun j=>#[.int .i64 ((l.length:Int) - 1 - (j:Nat)),(l.getD (l.length - 1 - j) undef)]
theorem mM(l:List Value):(pK l).length=l.length:=by simp[pK]
theorem Et(l:List Value){j:Nat}(hj:j<(pK l).length):(pK l)[j]=#[.int .i64 ((l.length:Int) - 1 - (j:Nat)),(l.getD (l.length - 1 - j) undef)]:=by simp[pK]
theorem MW{bx:Nat}{A:Option Addr}{c:Nat}{l:List Value}{W:World}(hl:l.length<=100000)(h:qh bx A c l W) :
  vK prog 99 #[.pointer (some ⟨bx,0,none⟩)] (pK l) (fun _=>Eq) (fun A' B=>qh bx A c l A'->qh bx A c l B) W:=by
 intro lp J Jx _ _ hY h0;have HY:=Hd hY;have HL:=Hd hl;have c0:=h.box;have HB:=Hd h;clear hY hl h;refine(callsIn_wide (n:=0)).1 (callsIn_of_wp func99 rfl trivial ?_ rfl);simp only[ntmps99,List.size_toArray,List.length_cons,List.length_nil,Nat.reduceAdd,Nat.reduceSub,Array.replicate_succ,Array.replicate_zero,List.push_toArray,List.append_toArray,List.nil_append,List.cons_append];have hlb:(l.length:Int)<=100000:=by have:=HL.o;omega
 gi_wp2_with (fail)
 gi_loopw [3] (fun x wr=>∃j:Nat,j<=l.length∧x=.int .i64 ((l.length:Int) - 1 - (j:Nat))∧Hid (J j wr)∧Hid (qh bx A c l wr)) (fun x _=>(intOf x+1).toNat)
 case atStart=>exact⟨0,Nat.zero_le _,by simp,h0,HB⟩
 case round=>
  obtain⟨j,hj,rfl,HJ,HK⟩:=hrel;by_cases hlt:j<l.length
  ·have hlt':j<(pK l).length:=by rw[mM];exact hlt
   obtain⟨fn,tmps,assign,body,hy,hR⟩:=HY.o j hlt' wr HJ.o;rw[Et]at hy
   obtain⟨m,hm⟩:=aB (l.length - 1 - j)
   have e:(l.length:Int) - 1 - (j:Nat)=(m:Nat):=by omega
   have hml:m<l.length:=by omega
   have e2:((m:Nat):Int) - 1=(l.length:Int) - 1 - ((j+1:Nat):Int):=by omega
   obtain⟨g,rA,k1⟩:=HK.o.at_ m hml;rw[hm,List.getD_eq_getElem?_getD,List.getElem?_eq_getElem hml,Option.getD_some]at hy;have cb:=HK.o.box;subst rA;rw[e]at hy ⊢;generalize l[m]=x at*;have hmb:((m:Nat):Int)<=100000:=by omega
   have HE2:=Hd e2;have HM:=Hd hm;have HR:=Hd hR;clear e e2 hm hR
   gi_wp2_with (fail)
   refine⟨rfl,HR.o.mono ?_⟩;rintro e W3 ⟨-,(⟨rfl,hJ3,hk3⟩|⟨rfl,hJx3⟩)⟩
   ·have HB3:Hid (qh bx (some ⟨g,0,none⟩) c l W3):=hk3 HK.o;have vO:=Hd hJ3;clear hJ3 hk3 HJ HK
    gi_wp2_with (fail)
    go_roundw
    case rel=>exact⟨j+1,by omega,by rw[←HE2.o],vO,HB3⟩
    case measure=>simp[intOf]
   ·have vO:=Hd hJx3;clear hJx3 HJ HK
    gi_wp2_with (fail)
    refine bodyPost_ret (results_none rfl _ _ _) rfl ?_;exact⟨⟨_,rfl⟩,.inr ⟨j+1,by rw[mM];omega,vO.o⟩⟩
  ·have e:(l.length:Int) - 1 - (j:Nat)=-1:=by omega
   obtain rfl:j=l.length:=by omega
   have HJ2:Hid (J (pK l).length wr):=by rw[mM];exact HJ
   rw[e];clear e HJ HK
   gi_wp2_with (fail)
   go_end0
   exact⟨⟨_,rfl⟩,.inl HJ2.o⟩
end
section
open Go.RowKit fF fO aF Go.Maps
def eqN(n1 n2:Nd):Bool:=a5I n1.m n1.op n1.hi n1.cl n1.r n2.m n2.op n2.hi n2.cl n2.r (a5J n1.lk.k n1.lk.W n1.lk.H n1.lk.p n1.lk.iw n1.lk.ih n1.lk.l n2.lk.k n2.lk.W n2.lk.H n2.lk.p n2.lk.iw n2.lk.ih n2.lk.l)
end
section
open Go.RowKit fF fO aF Go.Maps
def Oc(m:Mp)(w:Option Mp):Option Mp:=w.bind fun w=>if (m.fA [w]).2=0 then some (m.fA [w]).1 else none
def aV(t:T)(nd:Int->Nd)(i:Int):Option Mp:=(line t i).foldr (fun j w=>Oc (nd j).m w) (some (nd 0).m)
theorem jX(t:T)(nd:Int->Nd):aV t nd 0=some (nd 0).m:=by unfold aV;rw[mF];rfl
theorem lG{t:T}(ok:Ok t)(nd:Int->Nd){i:Int}(hi:i∈ids t):aV t nd i=Oc (nd i).m (aV t nd (par t i)):=by
 unfold aV;rw[dZ ok hi];rfl
theorem QO{t t':T}(ok:Ok t)(ok':Ok t'){i:Int}(hi:i=0∨i∈ids t')(h:∀j∈line t' i,j∈ids t∧par t' j=par t j):line t' i=line t i:=by
 refine ok'.qJ (P:=fun i=>(∀j∈line t' i,j∈ids t∧par t' j=par t j)->line t' i=line t i) (fun _=>by rw[mF,mF]) (fun i hi ih hs=>?_) hi h;rw[dZ ok' hi]at hs ⊢;obtain⟨h1,h2⟩:=hs i List.mem_cons_self;rw[dZ ok h1,ih fun j hj=>hs j (List.mem_cons_of_mem _ hj),h2]
theorem EJ{t t':T}{nd GN:Int->Nd}{i:Int}(h1:line t' i=line t i)(h0:(GN 0).m=(nd 0).m)(h2:∀j∈line t i,(GN j).m=(nd j).m):aV t' GN i=aV t nd i:=by
 unfold aV;rw[h1,h0];generalize some (nd 0).m=z
 revert h2
 generalize line t i=l;intro h2
 induction l with
 |nil=>rfl
 |cons j l ih=>
  rw[List.foldr_cons,List.foldr_cons,h2 j List.mem_cons_self,ih fun k hk=>h2 k (List.mem_cons_of_mem _ hk)]
def dF(x:aJ)(S:Int->Prop):Prop:=∀i,has x.t i=true->(∀j∈line x.t i,¬S j)->¬S 0->aV x.t x.nd i=some (x.ws i)
theorem dF.step{x y:aJ}{S S':Int->Prop}(h:dF x S)(ok:Ok x.t)(ok':Ok y.t)(hS:∀j,S j->S' j)
  (hs:∀j,has y.t j=true->¬S' j->has x.t j=true∧(j≠0->par y.t j=par x.t j)∧(y.nd j).m=(x.nd j).m∧y.ws j=x.ws j):dF y S':=by
 intro i hi hl h0;have hh:=aj.1 hi
 have hj:∀j∈line y.t i,j∈ids x.t∧par y.t j=par x.t j∧(y.nd j).m=(x.nd j).m:=fun j hj=>by
  have h1:=AA ok' hh hj;obtain⟨h2,h3,h4,-⟩:=hs j (aj.2 (.inr h1)) (hl j hj);have hn:=ok'.wU h1;exact⟨(aj.1 h2).resolve_left hn,h3 hn,h4⟩
 have e:=QO ok ok' hh fun j hj'=>⟨(hj j hj').1,(hj j hj').2.1⟩
 have hr:=hs 0 (aj.2 (.inl rfl)) h0
 have hi2:¬S' i:=by
  rcases hh with e0|e0
  ·rw[e0];exact h0
  ·exact hl i (by rw[dZ ok' e0];exact List.mem_cons_self)
 have h5:=hs i hi hi2;rw[EJ e hr.2.2.1 fun j hj'=>(hj j (by rw[e];exact hj')).2.2,h i h5.1 (fun j hj' k=>hl j (by rw[e];exact hj') (hS j k)) fun k=>h0 (hS 0 k),h5.2.2.2]
def touch(o:dU):Prop:=o.k=1∨o.k=3∨o.k=4
theorem F5{M:Int}{x:aJ}(ok:Ok x.t)(o:dU):Ok (fQ M x o).1.t:=by
 unfold fQ;split
 ·unfold fE;split
  ·exact ok
  ·split
   ·exact ok
   ·exact(rQ ok _ _ _).1
 split
 ·unfold fV;split
  ·exact ok
  ·exact(uw ok _).1
 split
 ·unfold mg;split
  ·exact ok
  ·exact(rC ok _ _ _).1
 split
 ·unfold ny;split
  ·exact ok
  ·split<;>exact ok
 ·exact ok
theorem a03{n:Nd}{o:dU}(h:o.k≠4):(bY n o).m=n.m:=by
 unfold bY;rw[if_neg h];split
 ·rfl
 split
 ·rfl
 split
 ·rfl
 split<;>rfl
theorem dF.op{M:Int}{x:aJ}{S:Int->Prop}(h:dF x S)(ok:Ok x.t){o:dU}(hz:(fQ M x o).2=0):dF (fQ M x o).1 fun j=>S j∨(j=o.i∧touch o):=by
 refine h.step ok (F5 ok o) (fun j hj=>.inl hj) fun j hj hn=>?_;have hn2:touch o->j≠o.i:=fun ht e=>hn (.inr ⟨e,ht⟩);clear hn h;unfold fQ at hz hj ⊢;by_cases h1:o.k=1
 ·rw[if_pos h1]at hz hj ⊢;have hne:=hn2 (.inl h1);unfold fE at hz hj ⊢;by_cases e1:(iq x.t o.i o.p o.n).2≠0
  ·rw[if_pos e1]at hz;exact absurd hz e1
  rw[if_neg e1]at hz hj ⊢;by_cases e2:M<((x.t.length+2:Nat):Int)
  ·rw[if_pos e2]at hz;cases hz
  rw[if_neg e2]at hj ⊢
  obtain⟨⟨t',e0⟩,ht⟩:∃q,iq x.t o.i o.p o.n=q:=⟨_,rfl⟩
  have h0:e0=0:=by rw[ht]at e1;simpa using e1
  subst h0;obtain⟨b1,b2,b3,b4,b5,b6⟩:=rU ok ht;rw[ht]at hj ⊢;simp only at hj ⊢;have hw:Ok (gone [o.i] t'):=by have:=Ok.gone b1 b2;rwa [b5]at this
  have hp:=Ez hw ok b6 j;rw[Ah b1.nd,if_neg (by simpa using hne)]at hp;exact⟨((b4 j).1 hj).resolve_left hne,fun _=>hp,by rw[upd_ne _ hne],upd_ne _ hne _⟩
 rw[if_neg h1]at hz hj ⊢;by_cases h2:o.k=2
 ·rw[if_pos h2]at hz hj ⊢;unfold fV at hz hj ⊢;by_cases e1:(jJ x.t o.i).2.2≠0
  ·rw[if_pos e1]at hz;exact absurd hz e1
  rw[if_neg e1]at hj ⊢;obtain⟨hi,hr⟩:=Aa (by simpa using e1);rw[hr]at hj ⊢;simp only at hj ⊢;have hh:=(AZ ok hi).1 hj;refine⟨hh.2,fun _=>?_,by simp⟩;rw[Ah ok.nd,if_neg hh.1]
 rw[if_neg h2]at hz hj ⊢;by_cases h3:o.k=3
 ·rw[if_pos h3]at hz hj ⊢;have hne:=hn2 (.inr (.inl h3));unfold mg at hz hj ⊢;by_cases e1:(ku x.t o.i o.p o.n).2≠0
  ·rw[if_pos e1]at hz;exact absurd hz e1
  rw[if_neg e1]at hj ⊢;obtain⟨m1,m2,m3⟩:=Ar (by simpa using e1);rw[m1]at hj ⊢;simp only at hj ⊢;refine⟨?_,fun _=>?_,by simp⟩
  ·rw[aj,iP m2,←aj]at hj;exact hj
  ·rw[uI ok.nd,if_neg hne]
 rw[if_neg h3]at hz hj ⊢;by_cases h4:4<=o.k∧o.k<=8
 ·rw[if_pos h4]at hz hj ⊢;unfold ny at hz hj ⊢;by_cases e1:has x.t o.i=false
  ·rw[if_pos e1]at hz;cases hz
  rw[if_neg e1]at hz hj ⊢;by_cases e2:(bY Nd.plain o).chk≠0
  ·rw[if_pos e2]at hz;exact absurd hz e2
  rw[if_neg e2]at hj ⊢;refine⟨hj,fun _=>rfl,?_,rfl⟩;simp only;by_cases e3:j=o.i
  ·rw[e3,upd_same];exact a03 fun e4=>hn2 (.inr (.inr e4)) e3
  ·rw[upd_ne _ e3]
 ·rw[if_neg h4]at hz;cases hz
theorem dF.mono{x:aJ}{S S':Int->Prop}(h:dF x S)(hs:∀j,S j->S' j):dF x S':=fun i hi hl h0=>h i hi (fun j hj k=>hl j hj (hs j k)) fun k=>h0 (hs 0 k)
theorem zC{M:Int}:∀(l:List dU) {x:aJ},Ok x.t->Ok (aT M x l).1.t
 |[],_,ok=>ok
 |o::l,x,ok=>by
  rw[dC];split
  ·exact ok
  ·exact zC l (F5 ok o)
theorem BM{M:Int}:∀(l:List dU) {x:aJ},(∀o∈l,mW o)->(∀i,Fit (x.nd i))->∀i,Fit ((aT M x l).1.nd i)
 |[],_,_,h=>h
 |o::l,x,ho,h=>by
  rw[dC];split
  ·exact h
  ·exact BM l (fun o' h'=>ho o' (List.mem_cons_of_mem _ h')) (O8 h (ho o List.mem_cons_self))
theorem BL{M:Int}:∀(l:List dU) {x:aJ},Ok x.t->(aT M x l).1.t.length<=x.t.length+l.length
 |[],_,_=>nR
 |o::l,x,ok=>by
  rw[dC];split
  ·simp only;omega
  ·have h1:=F6 (M:=M) ok o;have h2:=BL (M:=M) l (F5 (M:=M) ok o);simp only[List.length_cons];omega
theorem dF.all{M:Int}:∀(l:List dU) {x:aJ} {S:Int->Prop},Ok x.t->dF x S->(aT M x l).2.2=0->dF (aT M x l).1 fun j=>S j∨∃o∈l,j=o.i∧touch o
 |[],x,S,_,h,_=>h.mono fun j hj=>.inl hj
 |o::l,x,S,ok,h,hz=>by
  rw[dC]at hz ⊢;by_cases e:(fQ M x o).2≠0
  ·rw[if_pos e]at hz;exact absurd hz e
  rw[if_neg e]at hz ⊢;refine(dF.all l (F5 ok o) (h.op ok (by simpa using e)) hz).mono fun j hj=>?_;rcases hj with(hj|hj)|⟨o',h1,h2⟩
  ·exact .inl hj
  ·exact .inr ⟨o,List.mem_cons_self,hj⟩
  ·exact .inr ⟨o',List.mem_cons_of_mem _ h1,h2⟩
end
end Go.Proofs.YthmegninhpihkaaGreat
