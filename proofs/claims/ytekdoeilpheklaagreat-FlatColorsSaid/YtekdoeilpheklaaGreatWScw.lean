import Derived.Test.YtekdoeilpheklaaGreatWScT
set_option maxHeartbeats 16000000
set_option maxRecDepth 100000
open Go.Proofs.Tryz
namespace Go.Proofs.YtekdoeilpheklaaGreat
section
open Go.RowKit fH fV aF Go.Maps CG Go.Shelf
theorem aj.row0{α:Type}{T:TypeId}{k:Nat}{enc:α->List Value}{w:World}{base:Nat}{v:Value}{l:List α}(h:aj T k enc w base v l)(hk:∀x,(enc x).length=k)(hl:0<l.length):∃g c,v=.slice (some ⟨g,0,none⟩) l.length c∧l.length<=c∧c<=maxLen∧aT k enc w (some ⟨g,0,none⟩) l:=by
 rcases h.2 with ⟨rfl,h0⟩|⟨g,cap,cur,rfl,hg,hb,hc,hm,rest⟩
 ·omega
 ·refine⟨g,cap,rfl,hc,hm,fun _=>⟨g,0,rfl,fun j hj i v hv=>?_⟩⟩;have hcell:=World.ownsRow.cells h (g:=g) rfl;have e:∀i,(⟨g,0,none⟩:Addr).add i=⟨g,0+i,none⟩:=fun i=>by unfold Addr.add;split<;>simp_all
  have:=hcell _ _ (qY hk hj hv);rw[e]at this;rw[Nat.add_assoc];exact this
theorem Pm(M:Int):∀(l:List dN) (x:aO),(aW M x l).2.1<=l.length
 |[],_=>nR
 |o::l,x=>by
  rw[cZ];split
  ·exact Nat.zero_le _
  ·have:=Pm M l (fJ M x o).1;simp only[List.length_cons];omega
section
variable {w w':World}{g b m:Nat}{s:Sh}{Z:ZZ}{x:aO}
theorem au.kind(h:au w g b m s Z x){k:Nat}(hk:ag b m s x.t k):∃o,w.heap[k]?=some o∧xn o=false:=by
 rcases hk with e|e|e|⟨i,hi,e|e⟩
 ·obtain⟨es,hm,_⟩:=h.map;obtain⟨es',clock,h4,_⟩:=hm.own;rw[e];exact⟨_,h4,rfl⟩
 ·rw[e];exact⟨_,h.tree.raw.blk,rfl⟩
 ·obtain⟨es,hm,_⟩:=h.tree.raw.map;obtain⟨es',clock,h4,_⟩:=hm.own;rw[e];exact⟨_,h4,rfl⟩
 ·rw[e];exact⟨_,(h.tree.raw.node i hi).blk,rfl⟩
 ·obtain⟨cur,fr',h4⟩:=(h.tree.raw.node i hi).own.typed e;exact⟨_,h4,rfl⟩
theorem Row.bk{B:Nat}{A:Option Addr}{l:List Nat}(h:Row eW w A l)(hb:Bk B w w'):Row eW w' A l:=fun hn=>by
 obtain⟨k,off,e,hc⟩:=h hn;exact⟨k,off,e,fun j hj=>iQ hb (hc j hj)⟩
theorem dF.bk{B:Nat}{E S:bJ}{n:Nd}{A:Option Addr}(h:dF E S w n A)(hb:Bk B w w'):dF E S w' n A:=⟨Row.bk h.1 hb,h.2,h.3⟩
theorem au.bk{B:Nat}(h:au w g b m s Z x)(hb:Bk B w w'):au w' g b m s Z x:=by
 obtain⟨es,hm,h1,h2⟩:=h.map
 have hin:∀k,ag b m s x.t k->w'.heap[k]?=w.heap[k]?:=fun k hk=>by
  obtain⟨o,ho,hn⟩:=h.kind hk;exact(hb.keep ho hn).trans ho.symm
 refine⟨h.blk.bk hb,h.tree.stays fun k hk=>hin k (.inr hk),⟨es,hm.stays (hin m (.inl rfl)),h1,fun i hi=>?_⟩,h.jl,h.rM,fun k hk=>⟨Nat.lt_of_lt_of_le (h.old k hk).1 hb.size,(h.old k hk).2⟩⟩;obtain⟨v,e,A,c,e2,hv⟩:=h2 i hi;exact⟨v,e,A,c,e2,hv.bk hb⟩
theorem ae.bk{B:Nat}{S S':bJ}{w0:World}(h:ae S S' w0 w)(hb:Bk B w w')(hB:w0.heap.size<=B):ae S S' w0 w':=
 ⟨hb.os.trans h.os,hb.tape.trans h.tape,hb.output.trans h.output,Nat.le_trans h.size hb.size,fun k hk hn=>⟨(h.far k hk hn).1,(hb.low (Nat.lt_of_lt_of_le hk h.size) (Nat.lt_of_lt_of_le hk hB)).trans (h.far k hk hn).2⟩⟩
theorem au.kb{S':bJ}(h:au w g b m s Z x)(ht:ae (ag b m s x.t) S' w w'):KB w w':=fun k o hk ho=>by
 refine((ht.far k (Array.getElem?_eq_some_iff.1 hk).1 fun e=>?_).2).trans hk;obtain⟨o',ho',hn⟩:=h.kind e;rw[hk]at ho';cases ho';rw[ho]at hn;cases hn
def a1X(g b m:Nat)(Z:ZZ)(s:Sh)(x:aO)(r:aO×Int)(w:World)(e:Ending)(w':World):Prop:=
 ∃s',e=.returned (.int .i64 r.2)∧au w' g b m s' Z r.1∧ae (ag b m s x.t) (ag b m s' r.1.t) w w'
def bY(M:Int)(st:aO->aO×Int)(x:aO)(l:List dN):aO×Int×Int:=
 if 1024<l.length then (x,0,12) else
  if (aW M x l).2.2≠0 then (x,((aW M x l).2.1:Nat),(aW M x l).2.2) else
   if (st (aW M x l).1).2≠0 then (x,((aW M x l).2.1:Nat),(st (aW M x l).1).2) else ((st (aW M x l).1).1,((aW M x l).2.1:Nat),0)
def CB(g b m:Nat)(Z:ZZ)(s:Sh)(x:aO)(r:aO×Int×Int)(w:World)(e:Ending)(w':World):Prop:=
 ∃s',e=.returned (.tuple #[.int .i64 r.2.1,.int .i64 r.2.2])∧au w' g b m s' Z r.1∧ae (ag b m s x.t) (ag b m s' r.1.t) w w'
theorem nO.turn{bx:Nat}{A:Option Addr}{c:Nat}{l:List (Nat×Array Value)}{S S':bJ}(h:nO bx A c l w)(ht:ae S S' w w')(h1:¬S bx)(h2:∀a,A=some a->¬S a.block):nO bx A c l w':=by
 have hc:∀(a:Addr) (v:Value),¬S a.block->w.cell? a=some v->w'.cell? a=some v:=fun a v hn hv=>by
  have h3:=(ht.far a.block (World.block_lt_of_cell? w a hv) hn).2;rw[←hv];exact World.cell?_of_block h3
 refine⟨hc _ _ h1 h.box,fun j hj=>?_⟩;obtain⟨g,e,hv⟩:=h.at_ j hj;exact⟨g,e,hc ⟨g,j,none⟩ _ (h2 ⟨g,0,none⟩ e) hv⟩
end
end
section
open Go.RowKit fH fV aF Go.Maps CG Go.Shelf
attribute [local go_sem] Oper.semAt_some
section
variable {w:World}{g b m:Nat}{s:Sh}{Z:ZZ}{x:aO}
theorem Sj(h:au w g b m s Z x)(l:List iV)(A:Option Addr)(c:Nat)(ho:qF (ag b m s x.t) w A l)(hok:∀q∈l,mD q.o)(hfx:∀i,Fit (x.nd i))(hn:l.length<=1024->Room Z.2.2 x l.length)(hlen:l.length<=1000000)(st:aO->aO×Int)
  (hset:∀(W:World) (s1:Sh) (E:bJ),l.length<=1024->(aW Z.2.2 x (l.map (·.o))).2.2=0->au W g b m s1 ⟨Z.1,Z.2,E⟩ (aW Z.2.2 x (l.map (·.o))).1->qF (ag b m s1 (aW Z.2.2 x (l.map (·.o))).1.t) W A l ->
   Calls prog 53 #[.pointer (some ⟨g,0,none⟩),.slice A l.length c] W (a1X g b m ⟨Z.1,Z.2,E⟩ s1 (aW Z.2.2 x (l.map (·.o))).1 (st (aW Z.2.2 x (l.map (·.o))).1) W))
  (hst:(st (aW Z.2.2 x (l.map (·.o))).1).2≠0->(st (aW Z.2.2 x (l.map (·.o))).1).1=(aW Z.2.2 x (l.map (·.o))).1) :
  Calls prog 18 #[.pointer (some ⟨g,0,none⟩),.slice A l.length c] w (CB g b m Z s x (bY Z.2.2 st x (l.map (·.o))) w):=by
 obtain⟨R,hR⟩:=aB (bY Z.2.2 st x (l.map (·.o)))
 have HR:=Hd hR;rw[hR];unfold bY at HR;clear hR;rw[List.length_map]at HR;by_cases hm:1024<l.length
 ·have t1:decide ((1024:Int)<(l.length:Int))=true:=decide_eq_true (by omega);have t2:decide (1024<l.length)=true:=decide_eq_true hm;have HE:Hid (R=(x,0,12)):=by show _=_;rw[←HR.o,if_pos hm]
  have HS:=Hd h;clear HR hset hst ho hok hfx hn h hm;refine dS func18 rfl ?_;simp only[ntmps18,List.size_toArray,List.length_cons,List.length_nil,Nat.reduceAdd,Nat.reduceSub,Array.replicate_succ,Array.replicate_zero,List.push_toArray,List.append_toArray,List.nil_append,List.cons_append];go_wp2_with (fail)
  refine fU w.heap.size trivial fun w' hb=>⟨_,results_tmp2 rfl _ _ _,?_⟩
  rw[HE.o];exact⟨s,rfl,HS.o.bk hb,(ae.refl _ _).bk hb nR⟩
 have hm1:l.length<=1024:=by omega
 have t1:decide ((1024:Int)<(l.length:Int))=false:=decide_eq_false (by omega);have t2:decide (1024<l.length)=false:=decide_eq_false hm;rw[if_neg hm]at HR;have HC:=Hd (ZF h l A c ho hok hfx (hn hm1));unfold a5m at HC
 obtain⟨r,hr⟩:=aB (aW Z.2.2 x (l.map (·.o)))
 have hll:r.2.1<=1024:=by rw[←hr];have:=Pm Z.2.2 (l.map (·.o)) x;rw[List.length_map]at this;omega
 rw[hr]at HC HR hset hst;have XB:=Hd (fun(W:World) (s1:Sh) (E:bJ)=>hset W s1 E hm1);have HST:=Hd hst;have HO:=Hd ho;have HS:=Hd h;clear hset hst ho hok hfx hn h hm hm1 hr;refine dS func18 rfl ?_;simp only[ntmps18,List.size_toArray,List.length_cons,List.length_nil,Nat.reduceAdd,Nat.reduceSub,Array.replicate_succ,Array.replicate_zero,List.push_toArray,List.append_toArray,List.nil_append,List.cons_append];go_wp2_with (fail);refine HC.o.mono ?_;obtain⟨y,nd,e0⟩:=r;rintro e w1 ⟨U,uc,vs,s1,rfl,hvl,hown,hsc,ht,hch⟩;simp only at hvl hsc ht hch;subst hvl
 have nT:Hid (vs.length<=1024):=hll;clear hll;have HU:=Hd hown;have HY:=Hd hsc;have HT:=Hd ht;have HCH:=Hd hch;clear hown hsc ht hch HC
 dsimp only at HR XB HST ⊢
 go_upto_region 4 with(fail)
 go_cut [19] from 18 (fun u wx=>u=.bool (e0==0)∧wx=w1)
 case first=>
  go_wp2_with (fail)
  go_meet
  case rel=>exact⟨rfl,rfl⟩
 case rest=>
 obtain⟨rfl,rfl⟩:=hcut
 rename_i K1 hK1 K2 hK2
 refine hK2 _ _ ?_
 go_cut [5] from 20 (fun u wx=>∃(e5:Int) (s2:Sh) (y2:aO),u=.int .i64 e5∧Hid (au wx g b m s2 ⟨Z.1,Z.2,EO Z (.slice U vs.length uc)⟩ y2)∧Hid (ae (ag b m s x.t) (ag b m s2 y2.t) w wx)∧Hid (Cf wx w.heap.size (.slice U vs.length uc) vs)∧Hid (e5≠0->KG g b m Z wx (Ku b m s2 y2.t (EO Z (.slice U vs.length uc))) vs.reverse y2 x)∧Hid (R=if e5≠0 then (x,((vs.length:Nat):Int),e5) else (y2,((vs.length:Nat):Int),0)))
 case first=>
  by_cases h0:e0=0
  ·subst h0;have t3:((0:Int)==0)=true:=rfl;have HC2:=Hd (XB.o wc s1 _ rfl HY.o (HO.o.turn HT.o));have HR2:Hid (R=if (st y).2≠0 then (x,((vs.length:Nat):Int),(st y).2) else ((st y).1,((vs.length:Nat):Int),0)):=by show _=_;rw[←HR.o,if_neg (by simp)]
   obtain⟨⟨y2,e2⟩,hs2⟩:∃q,st y=q:=⟨_,rfl⟩
   rw[hs2]at HC2 HR2 HST;unfold a1X at HC2;clear HR XB hs2
   dsimp only at HC2 HR2 HST
   go_wp2_with (fail);refine HC2.o.mono ?_;rintro e w2 ⟨s2,rfl,hsc2,ht2⟩;have HY2:=Hd hsc2;have HT2:=Hd ht2;clear hsc2 ht2 HC2;go_wp2_with (fail)
   go_meet
   case rel=>
    refine⟨e2,s2,y2,rfl,HY2.o,HT.o.trans HT2.o,HU.o.stays fun k hk=>(HT2.o.far k (HU.o.block hk).2 (HY.o.old k (.inr hk)).2.1).2,fun hne=>?_,HR2.o⟩;have:=HCH.o.turn (HT2.o.sor (EO Z (.slice U vs.length uc)));rw[←HST.o hne]at this;exact this
  ·have t3:(e0==0)=false:=by simpa using h0
   have HR2:Hid (R=if e0≠0 then (x,((vs.length:Nat):Int),e0) else (y,((vs.length:Nat):Int),0)):=by show _=_;rw[←HR.o,if_pos h0,if_pos h0]
   clear HR XB HST h0;go_wp2_with (fail)
   go_meet
   case rel=>exact⟨e0,s1,y,rfl,HY.o,HT.o,HU.o,fun _=>HCH.o,HR2.o⟩
 case rest=>
  obtain⟨e5,s2,y2,rfl,HY2,HT2,HU2,a2x,HR2⟩:=hcut;clear HY HT HU HCH HR XB HST;by_cases h5:e5=0
  ·subst h5;have HE:Hid (R=(y2,((vs.length:Nat):Int),0)):=by show _=_;rw[HR2.o,if_neg (by simp)]
   clear HR2 a2x;go_wp2_with (fail)
   refine fU w.heap.size trivial fun w' hb=>⟨_,results_tmp2 rfl _ _ _,?_⟩
   rw[HE.o]
   have hY:au wc g b m s2 Z y2:=HY2.o.part (E':=Z.3) (fun _ _ _=>rfl) fun k hk=>⟨(HY2.o.old k (.inl hk)).1,.inl (.inl hk)⟩
   exact⟨s2,rfl,hY.bk hb,HT2.o.bk hb nR⟩
  have t5:(e5==0)=false:=by simpa using h5
  have HE:Hid (R=(x,((vs.length:Nat):Int),e5)):=by show _=_;rw[HR2.o,if_pos h5]
  have a0j:=Hd (a2x.o h5);clear HR2 a2x h5;go_wp2_with (fail);refine(MW U vs.length uc wc).mono ?_;rintro e w3 ⟨rfl,hw3⟩;have hb3:Below wc.heap.size wc w3:=by rw[hw3];exact bR.alloc nR _
  have hx3:ak w3 wc.heap.size [.slice U vs.length uc] 146:=by rw[hw3];exact ak.new wc _ _
  obtain⟨bx,hbx⟩:=aB wc.heap.size
  have hsz3:bx<w3.heap.size:=by rw[←hbx];exact hx3.inside
  obtain⟨E3,hE3⟩:∃E3:bJ,E3=fun k=>EO Z (.slice U vs.length uc) k∨k=bx:=⟨_,rfl⟩
  have TY:Hid (∀k,EO Z (.slice U vs.length uc) k∨k=bx↔E3 k):=fun k=>by rw[hE3]
  have HY3:Hid (au w3 g b m s2 ⟨Z.1,Z.2,E3⟩ y2):=HY2.o.part (fun k h1 _=>hb3.block k h1) fun k hk=>by
   rcases(TY.o k).2 hk with e|e
   ·exact⟨Nat.lt_of_lt_of_le (HY2.o.old k e).1 hb3.size,.inl e⟩
   ·rw[e];exact⟨hsz3,.inr (by omega)⟩
  have a6A:Hid (KG g b m Z w3 (Ku b m s2 y2.t E3) vs.reverse y2 x):=a0j.o.part hb3.size (fun k h1 _=>hb3.block k h1) fun k hk=>by
   rcases(TY.o k).2 hk with e|e
   ·exact .inl e
   ·exact .inr (by omega)
  have JM:Hid (Cf w3 w.heap.size (.slice U vs.length uc) vs):=HU2.o.below hb3
  have HBF:Hid (nO bx U uc vs w3):=by
   rw[←hbx];refine⟨hx3.blk.cell 0,fun j hj=>?_⟩;obtain⟨g9,c9,e9,-,-,hrow⟩:=aj.row0 JM.o zl (by omega)
   injection e9 with e9 _ _
   obtain⟨b9,o9,e8,hc⟩:=hrow (by omega)
   injection e8 with e8
   injection e8 with e8 e7
   refine⟨g9,e9,?_⟩;have:=hc j hj 0 (fv vs[j]) rfl;rw[←e8,←e7]at this
   simpa using this
  have HT3:Hid (ae (ag b m s x.t) (ag b m s2 y2.t) w w3):=HT2.o.trans (ae.below hb3);have ui:Hid (∀a,U=some a->E3 a.block):=fun a ea=>(TY.o _).1 (.inl (.inr (by rw[ea];rfl)));have HEB:Hid (E3 bx):=(TY.o _).1 (.inr rfl);have HEZ:Hid (∀k,Z.3 k->E3 k):=fun k hk=>(TY.o _).1 (.inl (.inl hk));have CO:Hid (vs.length<=100000):=by have:=nT.o;show _<=_;omega
  rw[hbx];clear hw3 hb3 hx3 hbx hsz3 hE3 TY HY2 a0j HU2 HT2;go_wp2_with (fail)
  refine nU (gf:=85) (lb:=#[.pointer (some ⟨bx,0,none⟩)]) rfl (enters_of func85 af rfl) (es:=pz vs) (R:=fun _=>Eq) (Kp:=fun A B=>nO bx U uc vs A->nO bx U uc vs B)
   (fun W1 hb=>MV CO.o (HBF.o.bk hb)) (fun h k x=>k (h x)) (fun A B hb h=>h.bk hb) (fun n A B e k o _ hk _=>e ▸ hk)
   (fun e he=>by obtain⟨j,_,rfl⟩:=List.mem_map.1 he;rfl)
   (fun k W=>∃s4 y4,au W g b m s4 ⟨Z.1,Z.2,E3⟩ y4∧ae (ag b m s2 y2.t) (ag b m s4 y4.t) w3 W∧KG g b m Z w3 (Ku b m s2 y2.t E3) (vs.reverse.drop k) y4 x)
   (fun _ _ _=>False) (fun k A B h hr=>?hI) (fun _ _ _ _ h _=>h.elim) ⟨s2,y2,HY3.o,ae.refl _ _,by rw[List.drop_zero];exact a6A.o⟩ ?a1 ?assign ?body ?done (fun _ _ _ _ _ _ h _=>h.elim)
  case hI=>
   obtain⟨s4,y4,h1,h2,h3⟩:=h;rcases hr with ⟨n,hn,rfl⟩|hb
   ·exact⟨s4,y4,h1,h2,h3⟩
   ·exact⟨s4,y4,h1.bk hb,h2.bk hb nR,h3⟩
  case assign=>
   intro l j hj W9 KK VS;rw[Ep]
   gi_wp2_with (fail)
   exact VS
  case body=>
   rintro l j hj W9 ⟨s4,y4,h1,h2,h3⟩;rw[l7]at hj
   have hd:vs.reverse.drop j=vs[vs.length - 1 - j]?.getD (0,#[])::vs.reverse.drop (j+1):=by
    rw[List.drop_eq_getElem_cons (by simpa using hj),List.getElem_reverse,List.getElem?_eq_getElem (by omega)];rfl
   rw[hd]at h3;clear hd
   obtain⟨q,hq⟩:=aB (vs[vs.length - 1 - j]?.getD (0,#[]))
   rw[hq]at h3 ⊢;clear hq;obtain⟨y5,⟨K,f,cs,e,hen,hK,hcl⟩,h4⟩:=h3
   have Ko:=Hd (hcl W9 s4 E3 (fun k hk=>by
    have h5:=h2.far k (hK k hk).1 fun e=>(hK k hk).2 (.inl e)
    exact⟨h5.2,h5.1,fun e=>(hK k hk).2 (.inr e)⟩) h1)
   have PH:=Hd h1;have HT4:=Hd h2;have yR:=Hd h4;rw[show fv q=.func (.func f) #[] cs from e];have a5B:=hen;unfold Enters at a5B;clear e hen hK hcl h1 h2 h4
   gi_wp2_with (fail)
   refine⟨trivial,rfl,CallsIn.inRound l ((callsIn_wide (n:=0)).2 (Ko.o.mono ?_))⟩;rintro e2 W7 ⟨⟨rv,rfl⟩,s6,h6,h7⟩;have HS6:=Hd h6;have SB:=Hd h7;clear h6 h7
   gi_wp2_with (fail)
   exact⟨PH.o.kb SB.o,fun hB=>hB.turn SB.o (PH.o.old _ HEB.o).2.1 fun a ea=>(PH.o.old _ (ui.o a ea)).2.1,s6,y5,HS6.o,HT4.o.trans SB.o,yR.o⟩
  case done=>
   rintro D W9 hD ⟨s4,y4,h1,h2,h3⟩ hd;rw[l7,List.drop_of_length_le (by simp)]at h3;obtain rfl:y4=x:=h3;have PH:=Hd h1;have HT4:=Hd h2;clear h1 h2;go_wp2_with (fail)
   refine fU w3.heap.size ⟨⟨D,rfl,hD,hd,by simp⟩,trivial⟩ fun w' hb=>⟨_,results_tmp2 rfl _ _ _,?_⟩
   rw[HE.o]
   have hY:au W9 g b m s4 Z y4:=PH.o.part (E':=Z.3) (fun _ _ _=>rfl) fun k hk=>⟨(PH.o.old k (HEZ.o k hk)).1,.inl (HEZ.o k hk)⟩
   exact⟨s4,rfl,hY.bk hb,(HT3.o.trans HT4.o).bk hb HT3.o.size⟩
end
end
section
open Go.RowKit fH fV aF Go.Maps
section
variable {w w':World}{g b m:Nat}{s:Sh}{Z:ZZ}{x:aO}
theorem au.look_ok(h:au w g b m s Z x){i:Int}(hi:I64 i):∃A c,∀W,bz w W->(Instr.lookup eX (.map (some m)) (.int .i64 i) true).run prog W=.ok (.tuple #[.agg (eF (gW x i) A c (iy x i)).toArray,.bool (has x.t i)]) W∧dF Z.3 (ag b m s x.t) W (gW x i) A:=by
 by_cases hh:has x.t i=true
 ·obtain⟨A,c,hl⟩:=h.Az hi hh;have e1:gW x i=x.nd i:=if_pos hh;have e2:iy x i=x.ws i:=if_pos hh;rw[e1,e2,hh];exact⟨A,c,fun W hb=>⟨(hl W hb).2.1,(hl W hb).2.2⟩⟩
 ·have e1:gW x i=Nd.zero:=if_neg hh;have e2:iy x i=Mp.o:=if_neg hh;rw[e1,e2,show has x.t i=false from by simpa using hh];exact⟨none,0,fun W hb=>⟨((h.below hb).fD hi hh).2,qh rfl _,fun a e=>(nomatch e),fun a e=>(nomatch e)⟩⟩
theorem PU(h:au w g b m s Z x)(i:Int)(hi:I64 i) :
  Calls prog 26 #[.pointer (some ⟨g,0,none⟩),.int .i64 i] w (aJ (.tuple #[.agg (iy x i).cs.toArray,.bool (has x.t i)]) w):=by
 have hb0:bz w (w.alloc (.cells Vd.toArray 39)):=bR.alloc nR _;have HB0:=Hd hb0;have HZ0:Hid (ax (w.alloc (.cells Vd.toArray 39)) w.heap.size Vd):=az w Vd _;have BZ:Hid (au (w.alloc (.cells Vd.toArray 39)) g b m s Z x):=h.below hb0;obtain⟨A,c,hl⟩:=h.look_ok hi;have HL:=Hd hl;have kS:Hid (∀k,ag b m s x.t k->k<w.heap.size):=h.inside;have yN:Hid (∀k,Z.3 k->k<w.heap.size):=fun k hk=>(h.old k hk).1;have iO:Hid ((w.alloc (.cells Vd.toArray 39)).heap.size=w.heap.size+1):=by show _=_;simp
 obtain⟨hh,hhe⟩:=aB (has x.t i)
 rw[hhe]at HL ⊢
 obtain⟨n,hn⟩:=aB (gW x i)
 obtain⟨u,hu⟩:=aB (iy x i)
 rw[hn,hu]at HL;rw[hu];clear hb0 hl h hhe hn hu;go_enter func26,ntmps26
 go_upto_region 1 with(fail)
 generalize (w.alloc (.cells Vd.toArray 39))=w0 at*;obtain⟨⟨-,-,-,-,-,c5⟩,i0⟩:=BZ.o.top;have hlk:=(HL.o w0 HB0.o).1;have HZ2:Hid (ax (w0.alloc (.cells Vi.toArray 145)) w0.heap.size Vi):=az w0 Vi _;have iH:Hid (bz w0 (w0.alloc (.cells Vi.toArray 145))):=bR.alloc nR _
 go_upto_region 2 with(first|(with_reducible refine gS ?_;first|(refine ay 145 _ _ rfl rfl rfl _ 0 rfl (eF n A c u) rfl (Vi) HZ2.o (eF n A c u) rfl (nE rfl) af (Io _ _ _ _) ?_;intro w3 HW3 dI)))
 have HB3:Hid (bz w0 w3):=HW3.o.below iH.o nR;have HZ3:Hid (ax w3 w.heap.size Vd):=HZ0.o.below' HB3.o;have Yr:=Hd (HL.o w3 (HB0.o.trans (HB3.o.mono HB0.o.size))).2;clear hlk HL c5 i0 HZ2 iH HW3 HZ0;have Dt:Hid (w.heap.size≠w0.heap.size):=by show _≠_;have:=iO.o;omega
 go_wp2_with (first|(with_reducible refine gL ?_;first|(refine wt 39 20 rfl rfl rfl dI.o (u.cs) rfl underlying39 rfl ?_))|(with_reducible refine gS ?_;first|(refine ay 39 _ _ rfl rfl rfl _ 0 rfl (u.cs) rfl (Vd) HZ3.o (u.cs) rfl (nE rfl) af (Mp.one1 _) ?_;intro w4 yG mG)));exact aN rfl rfl rfl mG.o underlying39 rfl af ⟨rfl,yG.o.below (HB0.o.trans (HB3.o.mono HB0.o.size)) nR⟩
theorem UN(h:au w g b m s Z x)(hfx:∀j,Fit (x.nd j))(i:Int)(hi:I64 i) :
  Calls prog 25 #[.pointer (some ⟨g,0,none⟩),.int .i64 i] w fun e w'=>∃A c,e=.returned (.tuple #[.agg ((gW x i).cs A c).toArray,.bool (has x.t i)])∧bz w w'∧dF Z.3 (ag b m s x.t) w' (gW x i) A∧∀a,A=some a->(gW x i).lk.l≠[]->w.heap.size<=a.block∧∀j,w'.frozen? ⟨a.block,j,none⟩=false:=by
 have Yu:Hid ((gW x i).lk.l.length<=300):=by
  show _<=_;unfold gW;split
  ·exact(hfx i).len
  ·exact Nat.zero_le _
 clear hfx;have hb0:bz w (w.alloc (.cells Va.toArray 109)):=bR.alloc nR _;have HB0:=Hd hb0;have HZ0:Hid (ax (w.alloc (.cells Va.toArray 109)) w.heap.size Va):=az w Va _;have BZ:Hid (au (w.alloc (.cells Va.toArray 109)) g b m s Z x):=h.below hb0;obtain⟨A,c,hl⟩:=h.look_ok hi;have HL:=Hd hl;have kS:Hid (∀k,ag b m s x.t k->k<w.heap.size):=h.inside;have yN:Hid (∀k,Z.3 k->k<w.heap.size):=fun k hk=>(h.old k hk).1;have iO:Hid ((w.alloc (.cells Va.toArray 109)).heap.size=w.heap.size+1):=by show _=_;simp
 obtain⟨hh,hhe⟩:=aB (has x.t i)
 rw[hhe]at HL ⊢
 obtain⟨n,hn⟩:=aB (gW x i)
 obtain⟨u,hu⟩:=aB (iy x i)
 rw[hn,hu]at HL;rw[hn]at Yu ⊢;clear hb0 hl h hhe hn hu;go_enter func25,ntmps25
 go_upto_region 1 with(fail)
 generalize (w.alloc (.cells Va.toArray 109))=w0 at*;obtain⟨⟨-,-,-,-,-,c5⟩,i0⟩:=BZ.o.top;have hlk:=(HL.o w0 HB0.o).1;have HZ2:Hid (ax (w0.alloc (.cells Vi.toArray 145)) w0.heap.size Vi):=az w0 Vi _;have iH:Hid (bz w0 (w0.alloc (.cells Vi.toArray 145))):=bR.alloc nR _
 go_upto_region 2 with(first|(with_reducible refine gS ?_;first|(refine ay 145 _ _ rfl rfl rfl _ 0 rfl (eF n A c u) rfl (Vi) HZ2.o (eF n A c u) rfl (nE rfl) af (Io _ _ _ _) ?_;intro w3 HW3 dI)))
 have HB3:Hid (bz w0 w3):=HW3.o.below iH.o nR;have HZ3:Hid (ax w3 w.heap.size Va):=HZ0.o.below' HB3.o;have Yr:=Hd (HL.o w3 (HB0.o.trans (HB3.o.mono HB0.o.size))).2;clear hlk HL c5 i0 HZ2 iH HW3 HZ0;have HCP:=Hd (O5 n A c (by have:=Yu.o;omega) w3 Yr.o.1 Z.3 (ag b m s x.t) (fun k hk=>by have:=yN.o k hk;have:=HB0.o.size;have:=HB3.o.size;omega) (fun k hk=>by have:=kS.o k hk;have:=HB0.o.size;have:=HB3.o.size;omega));unfold Yf at HCP
 go_wp2_with (first|(with_reducible refine gL ?_;first|(refine wt 109 0 rfl rfl rfl dI.o (n.cs A c) rfl underlying109 rfl ?_)));refine HCP.o.mono ?_;rintro e w4 ⟨A4,c4,rfl,hn4,hb4,hg4⟩;have HZ4:=Hd (HZ3.o.below' hb4);have HB4:=Hd hb4;have Yq:=Hd (And.intro hn4 hg4);clear hn4 hb4 hg4 HCP HZ3;go_wp2_with (first|(with_reducible refine gS ?_;first|(refine ay 109 _ _ rfl rfl rfl _ 0 rfl (n.cs A4 c4) rfl (Va) HZ4.o (n.cs A4 c4) rfl (nE rfl) af (Nd.one _ _ _) ?_;intro w5 zA uk)))
 have hlow:w.heap.size<w3.heap.size:=by have:=iO.o;have:=HB3.o.size;omega
 have a3F:∀a,A4=some a->n.lk.l≠[]->a.block≠w.heap.size:=fun a ea hne e=>by have:=Yq.o.2 a ea hne;omega
 exact aN rfl rfl rfl uk.o underlying109 rfl af ⟨A4,c4,rfl,zA.o.below ((HB0.o.trans (HB3.o.mono HB0.o.size)).trans (HB4.o.mono (by omega))) nR,⟨Row.stays Yq.o.1.1 fun a ea hne=>zA.o.far (a3F a ea hne),Yq.o.1.2,Yq.o.1.3⟩,fun a ea hne=>⟨by have:=Yq.o.2 a ea hne;omega,fun j=>(World.frozen?_of_block (a:=⟨a.block,j,none⟩) (zA.o.far (a3F a ea hne))).trans ((Yq.o.2 a ea hne).2 j)⟩⟩
end
end
section
open Go.RowKit fH fV aF Go.Maps
abbrev a2V:TypeId:=96
theorem dH{P:Program}{ops:Array Oper}{rest:List Oper}{o:Oper}{a:Act}{Q:Exit->Act->World->Prop}{w w':World}(t:TypeId)(parts:Array (Nat×Operand))(ho:o.op=.build t parts)(hgd:Region.wanted o (yielded ops a.tmps)=true){vals:Array (Nat×Value)}(hv:(parts.map fun q=>(q.1,a.eval q.2))=vals){v:Value}(hrun:(Instr.build t vals).run P w=.ok v w')
  (h:wpList P ops Q rest (a.put o.dst v) w'):wpList P ops Q (o::rest) a w:=by
 subst hv;unfold wpList;rw[if_pos hgd];refine .inl ?_;unfold Oper.wp execOp;simp only[ho,Sem.run_bind,Result.andThen_ok,hrun];exact h
def sccs(b m:Nat)(Z:ZZ):List Value:=[.iface 94 (.pointer (some ⟨b,0,none⟩)),.pointer (some ⟨b,0,none⟩),.int .i64 Z.1,.int .i64 Z.2.1,.int .i64 Z.2.2,.map (some m)]
theorem Jt(b m:Nat)(W H M:Int)(w:World):(Instr.build sG #[(0,.iface 94 (.pointer (some ⟨b,0,none⟩))),(1,.pointer (some ⟨b,0,none⟩)),(2,.agg (Vs W H M).toArray),(3,.map (some m))]).run prog w =
  .ok (.agg #[.iface 94 (.pointer (some ⟨b,0,none⟩)),.pointer (some ⟨b,0,none⟩),.int .i64 W,.int .i64 H,.int .i64 M,.map (some m)]) w:=by kernel_rfl
def OfQ(b m:Nat)(Z:ZZ)(w:World)(e:Ending)(w':World):Prop:=∃g,e=.returned (.pointer (some ⟨g,0,none⟩))∧w.heap.size<=g∧ak w' g (sccs b m Z) sG∧bz w w'
theorem a1c(Z:ZZ)(b m:Nat)(w:World) :
  Calls prog 50 #[.agg (Vs Z.1 Z.2.1 Z.2.2).toArray,.pointer (some ⟨b,0,none⟩),.map (some m)] w (OfQ b m Z w):=by
 go_enter func50,ntmps50;go_wp2_with ((with_reducible refine gU ?_);refine dH _ _ rfl rfl (by simp[go_sem]) (Jt b m Z.1 Z.2.1 Z.2.2 _) ?_);go_ret;exact⟨_,rfl,by omega,by simpa[sccs]using ak.new (w.alloc _) (sccs b m Z) sG,(bR.alloc nR _).alloc (by simp) _⟩
def plain0:LV:=[(0,plv Nd.plain none 0 Mp.one)]
structure fK(base:Nat)(Z:ZZ)(i4 i5 i10 i11 i12 i13:Bool)(v29 v30 v35 v36 v6:Value)(w:World):Prop where
 gQ:base<=w.heap.size
 tree:i4=true->∃b s,v29=.pointer (some ⟨b,0,none⟩)∧bC w b s []∧(∀k,gm b s [] k->base<=k)∧(i5=true->∀m,v30=.map (some m)->¬gm b s [] m)
 map:i5=true->∃m,v30=.map (some m)∧VM w m (bif i10 then plain0 else [])∧base<=m
 mv:i11=true->v35=v30
 Uu:i12=true->∃g b s m,v36=.pointer (some ⟨g,0,none⟩)∧base<=g∧ak w g (sccs b m Z) sG∧bC w b s []∧VM w m plain0∧(∀k,ag b m s [] k->base<=k)∧¬gm b s [] m∧¬ag b m s [] g
 o:i13=true->v6=v36
 o10:i10=true->i5=true
 o11:i11=true->i10=true
 YP:i12=true->i4=true∧i11=true
 o13:i13=true->i12=true
section
variable {base:Nat}{Z:ZZ}{i4 i5 i10 i11 i12 i13:Bool}{v29 v30 v35 v36 v6:Value}{w w':World}
theorem fK.slots{u29 u30 u35 u36 u6:Value}(h:fK base Z i4 i5 i10 i11 i12 i13 v29 v30 v35 v36 v6 w)(e1:u29=v29)(e2:u30=v30)(e3:u35=v35)(e4:u36=v36)(e5:u6=v6):fK base Z i4 i5 i10 i11 i12 i13 u29 u30 u35 u36 u6 w:=by
 rw[e1,e2,e3,e4,e5];exact h
theorem fK.below(h:fK base Z i4 i5 i10 i11 i12 i13 v29 v30 v35 v36 v6 w)(hb:bz w w'):fK base Z i4 i5 i10 i11 i12 i13 v29 v30 v35 v36 v6 w' where
 gQ:=Nat.le_trans h.gQ hb.size
 tree e:=by
  obtain⟨b,s,h1,h2,h3⟩:=h.tree e;exact⟨b,s,h1,h2.below hb,h3⟩
 map e:=by
  obtain⟨m,h1,h2,h3⟩:=h.map e;exact⟨m,h1,h2.below hb,h3⟩
 mv:=h.mv
 Uu e:=by
  obtain⟨g,b,s,m,h1,h2,h3,h4,h5,h6⟩:=h.Uu e;exact⟨g,b,s,m,h1,h2,h3.stays (hb.block _ h3.inside),h4.below hb,h5.below hb,h6⟩
 o:=h.o
 o10:=h.o10
 o11:=h.o11
 YP:=h.YP
 o13:=h.o13
theorem lU{i j:Bool}(h:i=true->j=true)(e:j=false):i=false:=by cases i with|false=>rfl|true=>rw[h rfl]at e;cases e
theorem fK.start(hb:base<=w.heap.size):fK base Z false false false false false false v29 v30 v35 v36 v6 w:=
 ⟨hb,nofun,nofun,nofun,nofun,nofun,nofun,nofun,nofun,nofun⟩
theorem fK.grow(h:fK base Z i4 i5 i10 i11 i12 i13 v29 v30 v35 v36 v6 w)(h4:i4=false){b:Nat}{s:Sh}{u29:Value}(hb:bz w w')(h1:bC w' b s [])(h2:∀k,gm b s [] k->w.heap.size<=k)(e29:u29=.pointer (some ⟨b,0,none⟩)):fK base Z true i5 i10 i11 i12 i13 u29 v30 v35 v36 v6 w':=
 have h12:=lU (fun e=>(h.YP e).1) h4;have h13:=lU h.o13 h12;have h':=h.below hb
 ⟨h'.gQ,fun _=>⟨b,s,e29,h1,fun k hk=>Nat.le_trans h.gQ (h2 k hk),fun e m em hm=>by
  obtain⟨m',e1,e2,-⟩:=h.map e;rw[em]at e1
  injection e1 with e1
  injection e1 with e1
  have:=h2 m hm;have:=e2.inside
  omega⟩,h'.map,h'.mv,(fun e=>by rw[h12]at e;cases e),(fun e=>by rw[h13]at e;cases e),h'.o10,h'.o11,(fun e=>⟨rfl,(h'.YP e).2⟩),h'.o13⟩
theorem fK.make{u30:Value}(h:fK base Z i4 i5 i10 i11 i12 i13 v29 v30 v35 v36 v6 w)(h5:i5=false)(e30:u30=.map (some w.heap.size)):fK base Z i4 true i10 i11 i12 i13 v29 u30 v35 v36 v6 (w.alloc (.map #[] 0)):=by
 have h10:=lU h.o10 h5;have h11:=lU h.o11 h10;subst e30 h5 h10 h11;have hb:bz w (w.alloc (.map #[] 0)):=bR.alloc nR _;have h':=h.below hb;refine⟨h'.gQ,fun e=>?_,fun _=>⟨_,rfl,VM.made w,h.gQ⟩,nofun,h'.Uu,h'.o,(nofun),(nofun),h'.YP,h'.o13⟩;obtain⟨b0,s0,h10,h20,h30,-⟩:=h.tree e;refine⟨b0,s0,h10,h20.below hb,h30,fun _ m em hm=>?_⟩
 injection em with em
 injection em with em
 have:=h20.raw.inside m hm;omega
theorem fK.put(h:fK base Z i4 i5 i10 i11 i12 i13 v29 v30 v35 v36 v6 w)(h5:i5=true)(h10:i10=false):∃m w',v30=.map (some m)∧(Instr.mapUpdate eX (.map (some m)) (.int .i64 0) (plv Nd.plain none 0 Mp.one)).run prog w=.ok () w'∧Below base w w'∧fK base Z i4 i5 true i11 i12 i13 v29 v30 v35 v36 v6 w':=by
 subst h5;have h11:=lU h.o11 h10;have h12:=lU (fun e=>(h.YP e).2) h11;subst h10;obtain⟨m,h1,h2,h3⟩:=h.map rfl;obtain⟨w',hrun,hm',hg⟩:=h2.store fF (i:=0) (by constructor<;>decide) (plv Nd.plain none 0 Mp.one) (by show[_].length<=_;simp);have hne:∀k,k<w.heap.size->k≠m->w'.heap[k]?=w.heap[k]?:=fun k hk hn=>hg.block k hk fun e=>hn (Option.some.inj e);refine⟨m,w',h1,hrun,bR.grown hg h.gQ fun k e=>by rw[←Option.some.inj e];exact h3,⟨Nat.le_trans h.gQ hg.size,fun e=>?_,fun _=>⟨m,h1,hm',h3⟩,h.mv,fun e=>?_,h.o,fun _=>rfl,fun _=>rfl,h.YP,h.o13⟩⟩
 ·obtain⟨b,s,e1,e2,e3,e4⟩:=h.tree e;exact⟨b,s,e1,e2.stays fun k hk=>hne k (e2.raw.inside k hk) fun e5=>e4 rfl m h1 (e5 ▸ hk),e3,e4⟩
 ·rw[h12]at e;cases e
theorem fK.last(h:fK base Z i4 i5 i10 i11 i12 i13 v29 v30 v35 v36 v6 w)(h4:i4=true)(h11:i11=true)(h12:i12=false):∃b m,v29=.pointer (some ⟨b,0,none⟩)∧v35=.map (some m)∧∀e w',OfQ b m Z w e w'->∃u,e=.returned u∧bz w w'∧fK base Z i4 i5 i10 i11 true i13 v29 v30 v35 u v6 w':=by
 have h13:=lU h.o13 h12;have h10:=h.o11 h11;have h5:=h.o10 h10;subst h4 h5 h10 h11 h12;obtain⟨b,s,e1,e2,e3,e4⟩:=h.tree rfl;obtain⟨m,f1,f2,f3⟩:=h.map rfl;refine⟨b,m,e1,(h.mv rfl).trans f1,?_⟩;rintro e w' ⟨g,rfl,g1,g2,g3⟩;have h':=h.below g3;have hnf:=e4 rfl m f1;refine⟨_,rfl,g3,⟨h'.gQ,h'.tree,h'.map,h'.mv,fun _=>⟨g,b,s,m,rfl,Nat.le_trans h.gQ g1,g2,e2.below g3,f2.below g3,fun k hk=>?_,hnf,fun hk=>?_⟩,(fun e=>by rw[h13]at e;cases e),h'.o10,h'.o11,(fun _=>⟨rfl,rfl⟩),(fun _=>rfl)⟩⟩
 ·rcases hk with e|e
  ·rw[e];exact f3
  ·exact e3 k e
 ·rcases hk with e|e
  ·have:=f2.inside;omega
  ·have:=e2.raw.inside g e;omega
theorem fK.copy{u35:Value}(h:fK base Z i4 i5 i10 i11 i12 i13 v29 v30 v35 v36 v6 w)(h10:i10=true)(e35:u35=v30):fK base Z i4 i5 i10 true i12 i13 v29 v30 u35 v36 v6 w:=⟨h.gQ,h.tree,h.map,fun _=>e35,h.Uu,h.o,h.o10,fun _=>h10,fun e=>⟨(h.YP e).1,rfl⟩,h.o13⟩
theorem fK.tell{u6:Value}(h:fK base Z i4 i5 i10 i11 i12 i13 v29 v30 v35 v36 v6 w)(h12:i12=true)(e6:u6=v36):fK base Z i4 i5 i10 i11 i12 true v29 v30 v35 v36 u6 w:=⟨h.gQ,h.tree,h.map,h.mv,h.Uu,fun _=>e6,h.o10,h.o11,h.YP,fun _=>h12⟩
theorem fK.pJ(h:fK base Z i4 i5 i10 i11 true true v29 v30 v35 v36 v6 w)(hE:∀k,Z.3 k->k<base):∃g b m s,v6=.pointer (some ⟨g,0,none⟩)∧au w g b m s Z ⟨[],fun _=>Nd.plain,fun _=>Mp.one⟩∧(∀k,ag b m s [] k->base<=k)∧base<=g:=by
 obtain⟨g,b,s,m,h1,h2,h3,h4,h5,h6,h7,h8⟩:=h.Uu rfl;refine⟨g,b,m,s,(h.o rfl).trans h1,⟨h3,h4,⟨plain0,h5,fun i hi=>?_,fun i hi=>?_⟩,h8,h7,fun k hk=>⟨?_,fun e=>?_,fun e=>?_⟩⟩,h6,h2⟩
 ·by_cases e:i=0
  ·rw[e];rfl
  ·exact absurd (by simp[plain0,omap.look,Ne.symm e]) hi
 ·have e:i=0:=by
   rcases ai.1 hi with e|e
   ·exact e
   ·cases e
  subst e;exact⟨_,rfl,none,0,rfl,qh rfl _,(fun a e=>nomatch e),(fun a e=>nomatch e)⟩
 ·have:=hE k hk;have:=h.gQ;omega
 ·have:=h6 k e;have:=hE k hk;omega
 ·have:=hE k hk;omega
end
end
section
open Go.RowKit fH fV aF Go.Maps
def ZG(Z:ZZ)(w:World)(e:Ending)(w':World):Prop:=
 ∃g b m s,e=.returned (.tuple #[.pointer (some ⟨g,0,none⟩),.int .i64 0])∧au w' g b m s Z ⟨[],fun _=>Nd.plain,fun _=>Mp.one⟩∧bz w w'∧(∀k,ag b m s [] k->w.heap.size<=k)∧w.heap.size<=g
section
variable {w:World}
theorem II(w:World):(Instr.makeMap eX none).run prog w=.ok (.map (some w.heap.size)) (w.alloc (.map #[] 0)):=rfl
theorem MN(a b c:Int)(w:World):(Instr.build a2V #[(0,.int .i64 a),(1,.int .i64 b),(2,.int .i64 c)]).run prog w=.ok (.agg (Vs a b c).toArray) w:=by kernel_rfl
theorem UO(Z:ZZ)(hE:∀k,Z.3 k->k<w.heap.size)(h1:1<=Z.1∧Z.1<=4096)(h2:1<=Z.2.1∧Z.2.1<=4096)(h3:1<=Z.2.2∧Z.2.2<=65536) :
  Calls prog 17 (Vs Z.1 Z.2.1 Z.2.2).toArray w (ZG Z w):=by
 have HE:=Hd hE;obtain⟨a1,a2⟩:=h1;obtain⟨b1,b2⟩:=h2;obtain⟨d1,d2⟩:=h3;have HQ:Hid (ZG Z w=ZG Z w):=rfl;clear hE;go_enter func17,ntmps17
 go_upto_region 1 with(fail)
 go_cut [23] from 9 (fun u wx=>u=.bool false∧wx=w)
 case first=>
  go_wp2_with (fail)
  all_goals first
   |(go_meet;case rel=>exact⟨by first|rfl|(simp;omega),rfl⟩)
   |(exfalso;omega)
 case rest=>
 obtain⟨rfl,rfl⟩:=hcut;go_wp2_with (fail);refine(zZ wc).mono ?_;rintro e w1 ⟨rfl,hb1⟩;have HB1:=Hd hb1;have HZ2:Hid (ax (w1.alloc (.cells Va.toArray 109)) w1.heap.size Va):=az w1 Va _;have iH:Hid (Below w1.heap.size w1 (w1.alloc (.cells Va.toArray 109))):=bR.alloc nR _;clear hb1
 go_upto_region 4 with(first|(with_reducible refine gS ?_;first|(refine ay 109 _ _ rfl rfl rfl _ 0 rfl (Nd.plain.cs none 0) rfl (Va) HZ2.o (Nd.plain.cs none 0) rfl (nE rfl) af (Nd.one _ _ _) ?_;intro w3 HW3 dI)))
 have HB3:Hid (bz wc w3):=HB1.o.trans ((HW3.o.below iH.o nR).mono HB1.o.size)
 obtain⟨k8,hk8⟩:=aB w1.heap.size
 rw[hk8]at dI ⊢;clear HZ2 iH HW3 HB1 hk8
 refine Kr (Below w3.heap.size) (fun L V wx=>fK w3.heap.size Z (L 4) (L 5) (L 10) (L 11) (L 12) (L 13) (V 29) (V 30) (V 35) (V 36) (V 6) wx) [25,26,27,28,29,30,31,32,33,34,35,36,6,7] (fun _=>bR) (fun _ _ _ h k=>h.trans k) (fun i=>match i with
  |0=>rV (.int .i64 Z.1)
  |1=>rV (.int .i64 Z.2.1)
  |2=>rV (.int .i64 Z.2.2)
  |3=>rV (.agg ((Vs Z.1 Z.2.1 Z.2.2)).toArray)
  |6=>rV (.agg (Nd.plain.cs none 0).toArray)
  |7=>rp k8 0
  |8=>rV (.agg (Mp.one.cs).toArray)
  |9=>rV (.agg (eF Nd.plain none 0 Mp.one).toArray)
  |14=>rV (.int .i64 0)
  |_=>ra) (bR.drew) (fK.start (Below.refl 0 w3).drew.size) ⟨?_,?_,?_,?_,?_,?_,?_,?_,?_,?_,?_,?_,?_,?_,?_,trivial⟩ ?_
 any_goals (first|refine fE fun L a w1 hh=>?_|fail)
 have h0:=hh.o 0 (v:=.int .i64 Z.1) rfl;rotate_left;have h1:=hh.o 1 (v:=.int .i64 Z.2.1) rfl;rotate_left;have h2:=hh.o 2 (v:=.int .i64 Z.2.2) rfl;rotate_left
 ·have xq:=rq (hh.d 0 25);have CJ:=rq (hh.d 1 26);have h27:=rq (hh.d 2 27);have hJ:=Hd hh.st;exact wp_build _ _ rfl (by simp[go_sem,xq,CJ,h27]) (MN Z.1 Z.2.1 Z.2.2 w1) ⟨_,rfl,bR,rfl,fK.slots hJ.o sn sn sn sn sn⟩
 ·have hJ:=Hd hh.st;have hsz:=Hd hh.size;have hC:=Hd (tnew w1);have hun:=Hd hh.un;clear hh;go_simp;refine hC.o.mono ?_;rintro e w9 ⟨b9,s9,rfl,lL,aS,hf9⟩;exact⟨_,rfl,aS.mono hJ.o.gQ,trivial,fK.slots (hJ.o.grow hun.o aS lL hf9 rfl) (bM.aY (by rw[hsz.o];simp)) sn sn sn sn⟩
 ·have hJ:=Hd hh.st;have hsz:=Hd hh.size;have hmm:=II w1;have hu:=Hd (hh.st.make hh.un rfl);clear hh;go_simp;exact⟨_,rfl,bR.alloc hJ.o.gQ _,trivial,fK.slots hu.o sn (bM.aY (by rw[hsz.o];simp)) sn sn sn⟩
 ·have h8:=hh.p 8 k8 0;have hB:=Hd (dI.o.below' hh.rel);have hJ:=Hd hh.st;exact aK 109 _ rfl k8 0 (by simpa[go_sem]using h8) _ hB.o (Nd.plain.cs none 0) rfl _ underlying109 rfl af ⟨_,rfl,bR,rfl,fK.slots hJ.o sn sn sn sn sn⟩
 have h8:=hh.p 8 k8 0;have i0:=(dI.o.below' hh.rel).inside;rotate_left
 ·have h32:=rq (hh.d 7 32);have hB:=Hd (dI.o.below' hh.rel);have hJ:=Hd hh.st;exact aK 39 _ rfl k8 0 (by simpa[go_sem]using h32) _ hB.o (Mp.one.cs) rfl _ underlying39 rfl af ⟨_,rfl,bR,rfl,fK.slots hJ.o sn sn sn sn sn⟩
 ·have h31:=rq (hh.d 6 31);have OM:=rq (hh.d 8 33);have hJ:=Hd hh.st;exact wp_build _ _ rfl (by simp[go_sem,h31,OM]) (lq Nd.plain none 0 Mp.one w1) ⟨_,rfl,bR,rfl,fK.slots hJ.o sn sn sn sn sn⟩
 ·have TB:=rq (hh.d 9 34);obtain⟨m9,w9,e9,hrun,aS,hs9⟩:=hh.st.put (hh.up 5 af) hh.un;have h30:a.tmps[30]?.getD undef=.map (some m9):=rq (e9);unfold plv at hrun;clear hh;go_simp;exact⟨⟨undef,trivial⟩,fK.slots hs9 rfl e9.symm rfl rfl rfl⟩
 ·have hsz:=Hd hh.size;have h30:a.tmps[30]?.getD undef=bM.sl a 30:=by unfold bM.sl;rw[Array.getD_eq_getD_getElem?]
  have hu:=Hd (hh.st.copy (hh.up 10 af) rfl);clear hh;go_simp;exact⟨_,rfl,bR,trivial,fK.slots hu.o sn sn (bM.aY (by rw[hsz.o];simp)) sn sn⟩
 ·have h28:=rq (hh.d 3 28);have hJ:=Hd hh.st;have hsz:=Hd hh.size;obtain⟨b9,m9,e29,e35,hQ0⟩:=hh.st.last (hh.up 4 af) (hh.up 11 af) hh.un;have yw:a.tmps[29]?.getD undef=.pointer (some ⟨b9,0,none⟩):=rq (e29);have h35:a.tmps[35]?.getD undef=.map (some m9):=rq (e35);have hQ:=Hd hQ0;have hC:=Hd (a1c Z b9 m9 w1);clear hQ0;clear hh;go_simp;refine hC.o.mono ?_;intro e w9 hq;obtain⟨u9,rfl,aS,hs9⟩:=hQ.o e w9 hq;exact⟨_,rfl,aS.mono hJ.o.gQ,trivial,fK.slots hs9 sn sn sn (bM.aY (by rw[hsz.o];simp)) sn⟩
 ·have hsz:=Hd hh.size;have TA:a.tmps[36]?.getD undef=bM.sl a 36:=by unfold bM.sl;rw[Array.getD_eq_getD_getElem?]
  have hu:=Hd (hh.st.tell (hh.up 12 af) rfl);clear hh;go_simp;exact⟨_,rfl,bR,trivial,fK.slots hu.o sn sn sn sn (bM.aY (by rw[hsz.o];simp))⟩
 rotate_left
 any_goals (have hJ:=hh.j;clear hh;go_simp;exact⟨_,rfl,bR,rfl,fK.slots hJ.o sn sn sn sn sn⟩)
 intro L w4 val hL hJ hR hv;have h7:val 7=.int .i64 0:=hv 14 7 af;have HR4:=Hd hR
 have hN:fK w3.heap.size Z (L 4) (L 5) (L 10) (L 11) true true (val 29) (val 30) (val 35) (val 36) (val 6) w4:=by
  have h:=hJ;rw[hL 12 (by decide),hL 13 (by decide)]at h;exact h
 obtain⟨g,b,m,s,e6,hsc,hft,hgb⟩:=hN.pJ (fun k hk=>Nat.lt_of_lt_of_le (HE.o k hk) HB3.o.size);have Ym:=Hd (And.intro hsc (And.intro hft hgb));clear hv hL hJ hR hN hsc hft hgb;simp only[regs.aC,List.map_cons,List.map_nil,h7];simp only[Act.put,List.setIfInBounds_toArray,List.set_cons_zero,List.set_cons_succ];clear h7
 skip
 rw[e6];clear e6;go_wp2_with (fail);go_ret2;have hz:=HB3.o.size;exact⟨g,b,m,s,rfl,Ym.o.1,HB3.o.trans (HR4.o.mono HB3.o.size),fun k hk=>Nat.le_trans hz (Ym.o.2.1 k hk),Nat.le_trans hz Ym.o.2.2⟩
end
end
section
open Go.RowKit fH fV aF Go.Maps
abbrev iT:TypeId:=192
theorem wL:prog.underlying iT=some (.map 3 39):=underlying192
theorem Ua(w:World):(zeroValue 39).run prog w=.ok (.agg Mp.o.cs.toArray) w:=by kernel_rfl
def Ci(w:World)(mf:Nat)(fr:Int->Option Mp):Prop:=∃es,VM w mf es∧∀j,omap.look es j=(fr j).map fun q=>.agg q.cs.toArray
theorem Ci.stays{w w':World}{mf:Nat}{fr:Int->Option Mp}(h:Ci w mf fr)(hb:w'.heap[mf]?=w.heap[mf]?):Ci w' mf fr:=by
 obtain⟨es,h1,h2⟩:=h;exact⟨es,h1.stays hb,h2⟩
theorem Ci.inside{w:World}{mf:Nat}{fr:Int->Option Mp}(h:Ci w mf fr):mf<w.heap.size:=h.elim fun _ h=>h.1.inside
theorem Ci.below{w w':World}{mf:Nat}{fr:Int->Option Mp}(h:Ci w mf fr)(hb:bz w w'):Ci w' mf fr:=h.stays (hb.block _ h.inside)
theorem Ci.look{w:World}{mf:Nat}{fr:Int->Option Mp}(h:Ci w mf fr){i:Int}(hi:I64 i):(Instr.lookup iT (.map (some mf)) (.int .i64 i) true).run prog w=.ok (.tuple #[.agg (((fr i).getD Mp.o).cs).toArray,.bool (fr i).isSome]) w:=by
 obtain⟨es,h1,h2⟩:=h;have h3:=h1.look_ok wL (Ua w) hi;rw[h2]at h3;cases e:fr i with
 |none=>rw[e]at h3;exact h3
 |some q=>rw[e]at h3;exact h3
theorem Q9(n:Nd)(A:Option Addr)(c:Nat)(w:World):(Instr.field 109 (.agg (n.cs A c).toArray) 0).run prog w=.ok (.agg n.m.cs.toArray) w:=by kernel_rfl
theorem Jd(n:Nd)(A:Option Addr)(c:Nat)(u:Mp)(w:World):(Instr.field qO (.agg (eF n A c u).toArray) 1).run prog w=.ok (.agg u.cs.toArray) w:=by kernel_rfl
theorem WZ(q:Mp)(w:World):(Instr.buildSlice 249 1 #[(0,.agg q.cs.toArray)]).run prog w=.ok (.slice (some ⟨w.heap.size,0,none⟩) 1 1) (w.alloc (.cells q.cs.toArray 39)):=by kernel_rfl
def gu(x:aO)(fr:Int->Option Mp)(i:Int):Mp×Int:=if i=0 then ((gW x i).m,0) else (gW x i).m.ed [(fr (par x.t i)).getD (iy x (par x.t i))]
section
variable {w w':World}{g b m:Nat}{s:Sh}{Z:ZZ}{x:aO}
theorem au.Ox(h:au w g b m s Z x){i:Int}(hi:I64 i):∃A c,∀W,bz w W->(Instr.lookup eX (.map (some m)) (.int .i64 i) false).run prog W=.ok (.agg (eF (gW x i) A c (iy x i)).toArray) W:=by
 obtain⟨A,c,hl⟩:=h.AA hi;exact⟨A,c,fun W hb=>(hl W hb).1⟩
theorem Lc(h:au w g b m s Z x)(i:Int)(hi:I64 i){mf:Nat}{fr:Int->Option Mp}(hf:Ci w mf fr) :
  Calls prog 84 #[.pointer (some ⟨g,0,none⟩),.int .i64 i,.map (some mf)] w (aJ (.tuple #[.agg ((gu x fr i).1.cs).toArray,.int .i64 (gu x fr i).2]) w):=by
 obtain⟨R,hR⟩:=aB (gu x fr i)
 have HR:=Hd hR;rw[hR];unfold gu at HR;obtain⟨A,c,hl⟩:=h.Ox hi
 obtain⟨n,hn⟩:=aB (gW x i)
 obtain⟨u,hu⟩:=aB (iy x i)
 obtain⟨p,hp⟩:=aB (par x.t i)
 rw[hn,hu]at hl;rw[hn,hp]at HR;have HL:=Hd hl;have HP:=Hd hp;have ZU:Hid (I64 p):=by rw[←hp];exact EW h.tree.ok i
 have HS:=Hd h;have HF:=Hd hf;have HI:=Hd hi;have HB0:Hid (bz w (w.alloc (.cells Vd.toArray 39))):=bR.alloc nR _;have HZ0:Hid (ax (w.alloc (.cells Vd.toArray 39)) w.heap.size Vd):=az w Vd _;have iO:Hid ((w.alloc (.cells Vd.toArray 39)).heap.size=w.heap.size+1):=by show _=_;simp
 clear hR hl hn hu hp h hf hi;go_enter func84,ntmps84
 go_upto_region 1 with(fail)
 generalize (w.alloc (.cells Vd.toArray 39))=w0 at*;obtain⟨⟨-,-,-,-,-,c5⟩,i0⟩:=(HS.o.below HB0.o).top;have hlk:=HL.o w0 HB0.o;have hf1:=Bf n A c u w0;have hf2:=Q9 n A c w0;have HZ2:Hid (ax (w0.alloc (.cells Vd.toArray 39)) w0.heap.size Vd):=az w0 Vd _;have iH:Hid (Below w0.heap.size w0 (w0.alloc (.cells Vd.toArray 39))):=bR.alloc nR _
 go_upto_region 2 with(first|(with_reducible refine gS ?_;first|(refine ay 39 _ _ rfl rfl rfl _ 0 rfl (n.m.cs) rfl (Vd) HZ2.o (n.m.cs) rfl (nE rfl) af (Mp.one1 _) ?_;intro w3 HW3 dI)))
 have HB3:Hid (Below w0.heap.size w0 w3):=HW3.o.below iH.o nR;have lH:=Hd (HB0.o.trans (HB3.o.mono HB0.o.size));have HZ3:Hid (ax w3 w.heap.size Vd):=HZ0.o.below' HB3.o
 have fC:Hid (w.heap.size<w0.heap.size∧w0.heap.size<w3.heap.size):=⟨by have:=iO.o;omega,dI.o.inside⟩
 clear hlk hf1 hf2 c5 i0 HZ2 iH HW3 HZ0 HL
 obtain⟨k8,hk8⟩:=aB w0.heap.size
 rw[hk8]at dI fC ⊢;clear hk8 iO;by_cases h0:i=0
 ·subst h0;have HE:Hid (R=(n.m,0)):=by show _=_;rw[←HR.o,if_pos rfl]
  clear HR;go_wp2_with (first|(with_reducible refine gL ?_;first|(refine wt 39 0 rfl rfl rfl dI.o (n.m.cs) rfl underlying39 rfl ?_))|(with_reducible refine gS ?_;first|(refine ay 39 _ _ rfl rfl rfl _ 0 rfl (n.m.cs) rfl (Vd) HZ3.o (n.m.cs) rfl (nE rfl) af (Mp.one1 _) ?_;intro w4 yG mG)));rw[HE.o];exact aN rfl rfl rfl mG.o underlying39 rfl af ⟨rfl,yG.o.below lH.o nR⟩
 have t1:(i==0)=false:=by simpa using h0
 have HE:Hid (R=n.m.ed [(fr p).getD (iy x p)]):=by show _=_;rw[←HR.o,if_neg h0]
 clear HR h0;have xJ:=Hd (HS.o.below lH.o);have NJ:=Hd (yZ xJ.o.tree i HI.o);rw[HP.o]at NJ;obtain⟨⟨c0,-,-,-,-,-⟩,i0⟩:=xJ.o.top;have hinv:=o5 (.pointer (some ⟨b,0,none⟩));go_wp2_with (fail);refine NJ.o.mono ?_;rintro e w4 ⟨rfl,hb4⟩;have HB4:=Hd hb4;have jr:=Hd (lH.o.trans (hb4.mono lH.o.size));have mG:Hid (ax w4 k8 n.m.cs):=dI.o.below' hb4;have HZ4:Hid (ax w4 w.heap.size Vd):=HZ3.o.below' hb4
 have HL4:Hid (w.heap.size<k8∧k8<w4.heap.size):=⟨fC.o.1,Nat.lt_of_lt_of_le fC.o.2 hb4.size⟩
 clear hb4 NJ hinv c0 i0 xJ dI HZ3 HB3 HB4 lH fC t1;have hlk:=(HF.o.below jr.o).look ZU.o
 obtain⟨q,hq⟩:=aB ((fr p).getD Mp.o)
 rw[hq]at hlk;have HQ:=Hd hq;have HZ5:Hid (ax (w4.alloc (.cells Vd.toArray 39)) w4.heap.size Vd):=az w4 Vd _;have iH:Hid (Below w4.heap.size w4 (w4.alloc (.cells Vd.toArray 39))):=bR.alloc nR _;clear hq
 go_upto_region 6 with(first|(with_reducible refine gS ?_;first|(refine ay 39 _ _ rfl rfl rfl _ 0 rfl (q.cs) rfl (Vd) HZ5.o (q.cs) rfl (nE rfl) af (Mp.one1 _) ?_;intro w5 zA uk)))
 have iq:Hid (Below w4.heap.size w4 w5):=zA.o.below iH.o nR;have Yd:=Hd (jr.o.trans (iq.o.mono jr.o.size));have XZ:Hid (ax w5 k8 n.m.cs):=mG.o.below' iq.o;have TI:Hid (ax w5 w.heap.size Vd):=HZ4.o.below' iq.o
 obtain⟨k9,hk9⟩:=aB w4.heap.size
 have HL5:Hid (w.heap.size<k8∧k8<k9∧k9<w5.heap.size):=⟨HL4.o.1,by rw[←hk9];exact HL4.o.2,by rw[←hk9];exact uk.o.inside⟩
 rw[hk9]at uk ⊢;clear hlk HZ5 iH zA mG HZ4 HL4 jr hk9 iq;cases hfr:(fr p) with
 |some q2=>
  obtain rfl:q2=q:=by have:=HQ.o;rw[hfr]at this;exact this
  have HE2:Hid (R=n.m.ed [q2]):=by show _=_;rw[HE.o,hfr];rfl
  clear hfr HE;have t3:(some q2:Option Mp).isSome=true:=rfl;go_wp2_with (first|(with_reducible refine gL ?_;first|(refine wt 39 0 rfl rfl rfl XZ.o (n.m.cs) rfl underlying39 rfl ?_)|(refine wt 39 0 rfl rfl rfl uk.o (q2.cs) rfl underlying39 rfl ?_))|((with_reducible refine gB ?_);refine jV _ _ _ rfl rfl (by simp[go_sem]) (WZ q2 _) ?_))
  have hmr:BU (w5.alloc (.cells q2.cs.toArray 39)) (some ⟨w5.heap.size,0,none⟩) [q2]:=by
   have:=IE w5 [q2] 39 rfl
   rwa [show([q2]:List Mp).flatMap Mp.cs=q2.cs from by simp]at this
  refine(IG n.m _ [q2] 1 _ hmr (by simp)).mono ?_;rintro e w9 ⟨rfl,aS⟩;have hb8:bz w5 w9:=(bR.alloc nR _).trans (aS.mono (by simp));rw[show(n.m.ed [q2]).1.v=.agg (n.m.ed [q2]).1.cs.toArray from rfl];have tX:=Hd (Yd.o.trans (hb8.mono Yd.o.size));have HZ9:Hid (ax w9 w.heap.size Vd):=TI.o.below' hb8;rw[←HE2.o];obtain⟨RM,RE⟩:=R;clear hmr aS hb8
  dsimp only
  go_wp2_with (first|(with_reducible refine gS ?_;first|(refine ay 39 _ _ rfl rfl rfl _ 0 rfl (RM.cs) rfl (Vd) HZ9.o (RM.cs) rfl (nE rfl) af (Mp.one1 _) ?_;intro wz HWz HKz)));exact aN rfl rfl rfl HKz.o underlying39 rfl af ⟨rfl,HWz.o.below tX.o nR⟩
 |none=>
  obtain rfl:Mp.o=q:=by have:=HQ.o;rw[hfr]at this;exact this
  have HE2:Hid (R=n.m.ed [iy x p]):=by show _=_;rw[HE.o,hfr];rfl
  clear hfr HE HQ;have t3:(none:Option Mp).isSome=false:=rfl;obtain⟨A6,c6,hl6⟩:=HS.o.Ox ZU.o
  obtain⟨n6,Y9⟩:=aB (gW x p)
  obtain⟨u6,LQ⟩:=aB (iy x p)
  have hlk:=hl6 w5 Yd.o;rw[Y9,LQ]at hlk;rw[LQ]at HE2;have hf3:=Jd n6 A6 c6 u6 w5;obtain⟨⟨-,-,-,-,-,c5⟩,i0⟩:=(HS.o.below Yd.o).top;clear hl6 Y9 LQ
  go_upto_region 8 with(first|(with_reducible refine gS ?_;first|(refine ay 39 _ _ rfl rfl rfl _ 0 rfl (u6.cs) rfl (Mp.o.cs) uk.o (u6.cs) rfl (nE rfl) af (Mp.one1 _) ?_;intro w6 vP SS)))
  have a5l:Hid (bz w w6):=vP.o.below Yd.o (by have:=HL5.o;omega);have a6q:Hid (ax w6 k8 n.m.cs):=vP.o.blk (by have:=HL5.o;omega) XZ.o;have HZ6:Hid (ax w6 w.heap.size Vd):=vP.o.blk (by have:=HL5.o;omega) TI.o;clear hlk hf3 c5 i0 vP XZ TI uk
  go_wp2_with (first|(with_reducible refine gL ?_;first|(refine wt 39 0 rfl rfl rfl a6q.o (n.m.cs) rfl underlying39 rfl ?_)|(refine wt 39 0 rfl rfl rfl SS.o (u6.cs) rfl underlying39 rfl ?_))|((with_reducible refine gB ?_);refine jV _ _ _ rfl rfl (by simp[go_sem]) (WZ u6 _) ?_))
  have hmr:BU (w6.alloc (.cells u6.cs.toArray 39)) (some ⟨w6.heap.size,0,none⟩) [u6]:=by
   have:=IE w6 [u6] 39 rfl
   rwa [show([u6]:List Mp).flatMap Mp.cs=u6.cs from by simp]at this
  refine(IG n.m _ [u6] 1 _ hmr (by simp)).mono ?_;rintro e w9 ⟨rfl,aS⟩;have hb8:bz w6 w9:=(bR.alloc nR _).trans (aS.mono (by simp));rw[show(n.m.ed [u6]).1.v=.agg (n.m.ed [u6]).1.cs.toArray from rfl];have tX:=Hd (a5l.o.trans (hb8.mono a5l.o.size));have HZ9:Hid (ax w9 w.heap.size Vd):=HZ6.o.below' hb8;rw[←HE2.o];obtain⟨RM,RE⟩:=R;clear hmr aS hb8
  dsimp only
  go_wp2_with (first|(with_reducible refine gS ?_;first|(refine ay 39 _ _ rfl rfl rfl _ 0 rfl (RM.cs) rfl (Vd) HZ9.o (RM.cs) rfl (nE rfl) af (Mp.one1 _) ?_;intro wz HWz HKz)));exact aN rfl rfl rfl HKz.o underlying39 rfl af ⟨rfl,HWz.o.below tX.o nR⟩
end
end
section
open Go.RowKit aF CG Go.Shelf
attribute [local go_sem] Oper.semAt_some
theorem MS(A:Option Addr)(n c:Nat)(w:World):Calls prog 82 #[.slice A n c] w fun e w'=>e=.returned (.func (.func 114) #[] #[.pointer (some ⟨w.heap.size,0,none⟩)])∧w'=w.alloc (.cells #[.slice A n c] 196):=by
 go_enter func82,ntmps82;go_wp2_with (fail);go_ret;exact⟨rfl,rfl⟩
structure pU(bx:Nat)(A:Option Addr)(c:Nat)(l:List Value)(W:World):Prop where
 box:W.cell? ⟨bx,0,none⟩=some (.slice A l.length c)
 at_:∀j (hj:j<l.length),∃g,A=some ⟨g,0,none⟩∧W.cell? ⟨g,j,none⟩=some (l[j])
theorem pU.bk{bx:Nat}{A:Option Addr}{c:Nat}{l:List Value}{W W':World}{B:Nat}(h:pU bx A c l W)(hb:Bk B W W'):pU bx A c l W':=
 ⟨iQ hb h.box,fun j hj=>by
  obtain⟨g,e,hc⟩:=h.at_ j hj
  exact⟨g,e,iQ hb hc⟩⟩
def pq(l:List Value):List (Array Value):=(List.range l.length).map fun j=>#[.int .i64 ((l.length:Int) - 1 - (j:Nat)),(l.getD (l.length - 1 - j) undef)]
theorem lZ(l:List Value):(pq l).length=l.length:=by simp[pq]
theorem Eo(l:List Value){j:Nat}(hj:j<(pq l).length):(pq l)[j]=#[.int .i64 ((l.length:Int) - 1 - (j:Nat)),(l.getD (l.length - 1 - j) undef)]:=by simp[pq]
theorem MR{bx:Nat}{A:Option Addr}{c:Nat}{l:List Value}{W:World}(hl:l.length<=100000)(h:pU bx A c l W) :
  Ey prog 114 #[.pointer (some ⟨bx,0,none⟩)] (pq l) (fun _=>Eq) (fun A' B=>pU bx A c l A'->pU bx A c l B) W:=by
 intro lp J Jx _ _ hY h0;have HY:=Hd hY;have HL:=Hd hl;have c0:=h.box;have HB:=Hd h;clear hY hl h;refine(callsIn_wide (n:=0)).1 (callsIn_of_wp func114 rfl trivial ?_ rfl);simp only[ntmps114,List.size_toArray,List.length_cons,List.length_nil,Nat.reduceAdd,Nat.reduceSub,Array.replicate_succ,Array.replicate_zero,List.push_toArray,List.append_toArray,List.nil_append,List.cons_append];have hlb:(l.length:Int)<=100000:=by have:=HL.o;omega
 gi_wp2_with (fail)
 gi_loopw [3] (fun x wr=>∃j:Nat,j<=l.length∧x=.int .i64 ((l.length:Int) - 1 - (j:Nat))∧Hid (J j wr)∧Hid (pU bx A c l wr)) (fun x _=>(intOf x+1).toNat)
 case atStart=>exact⟨0,Nat.zero_le _,by simp,h0,HB⟩
 case round=>
  obtain⟨j,hj,rfl,HJ,HK⟩:=hrel;by_cases hlt:j<l.length
  ·have hlt':j<(pq l).length:=by rw[lZ];exact hlt
   obtain⟨fn,tmps,assign,body,hy,hR⟩:=HY.o j hlt' wr HJ.o;rw[Eo]at hy
   obtain⟨m,hm⟩:=aB (l.length - 1 - j)
   have e:(l.length:Int) - 1 - (j:Nat)=(m:Nat):=by omega
   have hml:m<l.length:=by omega
   have e2:((m:Nat):Int) - 1=(l.length:Int) - 1 - ((j+1:Nat):Int):=by omega
   obtain⟨g,rA,k1⟩:=HK.o.at_ m hml;rw[hm,List.getD_eq_getElem?_getD,List.getElem?_eq_getElem hml,Option.getD_some]at hy;have cb:=HK.o.box;subst rA;rw[e]at hy ⊢;generalize l[m]=x at*;have hmb:((m:Nat):Int)<=100000:=by omega
   have HE2:=Hd e2;have HM:=Hd hm;have HR:=Hd hR;clear e e2 hm hR
   gi_wp2_with (fail)
   refine⟨rfl,HR.o.mono ?_⟩;rintro e W3 ⟨-,(⟨rfl,hJ3,hk3⟩|⟨rfl,hJx3⟩)⟩
   ·have HB3:Hid (pU bx (some ⟨g,0,none⟩) c l W3):=hk3 HK.o;have Ce:=Hd hJ3;clear hJ3 hk3 HJ HK
    gi_wp2_with (fail)
    go_roundw
    case rel=>exact⟨j+1,by omega,by rw[←HE2.o],Ce,HB3⟩
    case measure=>simp[intOf]
   ·have Ce:=Hd hJx3;clear hJx3 HJ HK
    gi_wp2_with (fail)
    refine bodyPost_ret (results_none rfl _ _ _) rfl ?_;exact⟨⟨_,rfl⟩,.inr ⟨j+1,by rw[lZ];omega,Ce.o⟩⟩
  ·have e:(l.length:Int) - 1 - (j:Nat)=-1:=by omega
   obtain rfl:j=l.length:=by omega
   have HJ2:Hid (J (pq l).length wr):=by rw[lZ];exact HJ
   rw[e];clear e HJ HK
   gi_wp2_with (fail)
   go_end0
   exact⟨⟨_,rfl⟩,.inl HJ2.o⟩
end
section
open Go.RowKit fH fV aF Go.Maps
def eqN(n1 n2:Nd):Bool:=a1A n1.m n1.op n1.hi n1.cl n1.r n2.m n2.op n2.hi n2.cl n2.r (V8 n1.lk.k n1.lk.W n1.lk.H n1.lk.p n1.lk.iw n1.lk.ih n1.lk.l n2.lk.k n2.lk.W n2.lk.H n2.lk.p n2.lk.iw n2.lk.ih n2.lk.l)
end
section
open Go.RowKit fH fV aF Go.Maps
def Ha(m:Mp)(w:Option Mp):Option Mp:=w.bind fun w=>if (m.ed [w]).2=0 then some (m.ed [w]).1 else none
def aX(t:T)(nd:Int->Nd)(i:Int):Option Mp:=(line t i).foldr (fun j w=>Ha (nd j).m w) (some (nd 0).m)
theorem iZ(t:T)(nd:Int->Nd):aX t nd 0=some (nd 0).m:=by unfold aX;rw[lX];rfl
theorem jw{t:T}(ok:Ok t)(nd:Int->Nd){i:Int}(hi:i∈ids t):aX t nd i=Ha (nd i).m (aX t nd (par t i)):=by
 unfold aX;rw[dW ok hi];rfl
theorem QG{t t':T}(ok:Ok t)(ok':Ok t'){i:Int}(hi:i=0∨i∈ids t')(h:∀j∈line t' i,j∈ids t∧par t' j=par t j):line t' i=line t i:=by
 refine ok'.qA (P:=fun i=>(∀j∈line t' i,j∈ids t∧par t' j=par t j)->line t' i=line t i) (fun _=>by rw[lX,lX]) (fun i hi ih hs=>?_) hi h;rw[dW ok' hi]at hs ⊢;obtain⟨h1,h2⟩:=hs i List.mem_cons_self;rw[dW ok h1,ih fun j hj=>hs j (List.mem_cons_of_mem _ hj),h2]
theorem EG{t t':T}{nd GU:Int->Nd}{i:Int}(h1:line t' i=line t i)(h0:(GU 0).m=(nd 0).m)(h2:∀j∈line t i,(GU j).m=(nd j).m):aX t' GU i=aX t nd i:=by
 unfold aX;rw[h1,h0];generalize some (nd 0).m=z
 revert h2
 generalize line t i=l;intro h2
 induction l with
 |nil=>rfl
 |cons j l ih=>
  rw[List.foldr_cons,List.foldr_cons,h2 j List.mem_cons_self,ih fun k hk=>h2 k (List.mem_cons_of_mem _ hk)]
def dE(x:aO)(S:Int->Prop):Prop:=∀i,has x.t i=true->(∀j∈line x.t i,¬S j)->¬S 0->aX x.t x.nd i=some (x.ws i)
theorem dE.step{x y:aO}{S S':Int->Prop}(h:dE x S)(ok:Ok x.t)(ok':Ok y.t)(hS:∀j,S j->S' j)
  (hs:∀j,has y.t j=true->¬S' j->has x.t j=true∧(j≠0->par y.t j=par x.t j)∧(y.nd j).m=(x.nd j).m∧y.ws j=x.ws j):dE y S':=by
 intro i hi hl h0;have hh:=ai.1 hi
 have hj:∀j∈line y.t i,j∈ids x.t∧par y.t j=par x.t j∧(y.nd j).m=(x.nd j).m:=fun j hj=>by
  have h1:=AB ok' hh hj;obtain⟨h2,h3,h4,-⟩:=hs j (ai.2 (.inr h1)) (hl j hj);have hn:=ok'.xe h1;exact⟨(ai.1 h2).resolve_left hn,h3 hn,h4⟩
 have e:=QG ok ok' hh fun j hj'=>⟨(hj j hj').1,(hj j hj').2.1⟩
 have hr:=hs 0 (ai.2 (.inl rfl)) h0
 have hi2:¬S' i:=by
  rcases hh with e0|e0
  ·rw[e0];exact h0
  ·exact hl i (by rw[dW ok' e0];exact List.mem_cons_self)
 have h5:=hs i hi hi2;rw[EG e hr.2.2.1 fun j hj'=>(hj j (by rw[e];exact hj')).2.2,h i h5.1 (fun j hj' k=>hl j (by rw[e];exact hj') (hS j k)) fun k=>h0 (hS 0 k),h5.2.2.2]
def touch(o:dN):Prop:=o.k=1∨o.k=3∨o.k=4
theorem F7{M:Int}{x:aO}(ok:Ok x.t)(o:dN):Ok (fJ M x o).1.t:=by
 unfold fJ;split
 ·unfold eY;split
  ·exact ok
  ·split
   ·exact ok
   ·exact(rG ok _ _ _).1
 split
 ·unfold fM;split
  ·exact ok
  ·exact(uz ok _).1
 split
 ·unfold lV;split
  ·exact ok
  ·exact(qR ok _ _ _).1
 split
 ·unfold mO;split
  ·exact ok
  ·split<;>exact ok
 ·exact ok
theorem a03{n:Nd}{o:dN}(h:o.k≠4):(bT n o).m=n.m:=by
 unfold bT;rw[if_neg h];split
 ·rfl
 split
 ·rfl
 split
 ·rfl
 split<;>rfl
theorem dE.op{M:Int}{x:aO}{S:Int->Prop}(h:dE x S)(ok:Ok x.t){o:dN}(hz:(fJ M x o).2=0):dE (fJ M x o).1 fun j=>S j∨(j=o.i∧touch o):=by
 refine h.step ok (F7 ok o) (fun j hj=>.inl hj) fun j hj hn=>?_;have hn2:touch o->j≠o.i:=fun ht e=>hn (.inr ⟨e,ht⟩);clear hn h;unfold fJ at hz hj ⊢;by_cases h1:o.k=1
 ·rw[if_pos h1]at hz hj ⊢;have hne:=hn2 (.inl h1);unfold eY at hz hj ⊢;by_cases e1:(gX x.t o.i o.p o.n).2≠0
  ·rw[if_pos e1]at hz;exact absurd hz e1
  rw[if_neg e1]at hz hj ⊢;by_cases e2:M<((x.t.length+2:Nat):Int)
  ·rw[if_pos e2]at hz;cases hz
  rw[if_neg e2]at hj ⊢
  obtain⟨⟨t',e0⟩,ht⟩:∃q,gX x.t o.i o.p o.n=q:=⟨_,rfl⟩
  have h0:e0=0:=by rw[ht]at e1;simpa using e1
  subst h0;obtain⟨b1,b2,b3,b4,b5,b6⟩:=rH ok ht;rw[ht]at hj ⊢;simp only at hj ⊢;have hw:Ok (gone [o.i] t'):=by have:=Ok.gone b1 b2;rwa [b5]at this
  have hp:=Et hw ok b6 j;rw[Ae b1.nd,if_neg (by simpa using hne)]at hp;exact⟨((b4 j).1 hj).resolve_left hne,fun _=>hp,by rw[upd_ne _ hne],upd_ne _ hne _⟩
 rw[if_neg h1]at hz hj ⊢;by_cases h2:o.k=2
 ·rw[if_pos h2]at hz hj ⊢;unfold fM at hz hj ⊢;by_cases e1:(jI x.t o.i).2.2≠0
  ·rw[if_pos e1]at hz;exact absurd hz e1
  rw[if_neg e1]at hj ⊢;obtain⟨hi,hr⟩:=zV (by simpa using e1);rw[hr]at hj ⊢;simp only at hj ⊢;have hh:=(AX ok hi).1 hj;refine⟨hh.2,fun _=>?_,by simp⟩;rw[Ae ok.nd,if_neg hh.1]
 rw[if_neg h2]at hz hj ⊢;by_cases h3:o.k=3
 ·rw[if_pos h3]at hz hj ⊢;have hne:=hn2 (.inr (.inl h3));unfold lV at hz hj ⊢;by_cases e1:(jW x.t o.i o.p o.n).2≠0
  ·rw[if_pos e1]at hz;exact absurd hz e1
  rw[if_neg e1]at hj ⊢;obtain⟨m1,m2,m3⟩:=Aq (by simpa using e1);rw[m1]at hj ⊢;simp only at hj ⊢;refine⟨?_,fun _=>?_,by simp⟩
  ·rw[ai,iM m2,←ai]at hj;exact hj
  ·rw[uJ ok.nd,if_neg hne]
 rw[if_neg h3]at hz hj ⊢;by_cases h4:4<=o.k∧o.k<=8
 ·rw[if_pos h4]at hz hj ⊢;unfold mO at hz hj ⊢;by_cases e1:has x.t o.i=false
  ·rw[if_pos e1]at hz;cases hz
  rw[if_neg e1]at hz hj ⊢;by_cases e2:(bT Nd.plain o).chk≠0
  ·rw[if_pos e2]at hz;exact absurd hz e2
  rw[if_neg e2]at hj ⊢;refine⟨hj,fun _=>rfl,?_,rfl⟩;simp only;by_cases e3:j=o.i
  ·rw[e3,upd_same];exact a03 fun e4=>hn2 (.inr (.inr e4)) e3
  ·rw[upd_ne _ e3]
 ·rw[if_neg h4]at hz;cases hz
theorem dE.mono{x:aO}{S S':Int->Prop}(h:dE x S)(hs:∀j,S j->S' j):dE x S':=fun i hi hl h0=>h i hi (fun j hj k=>hl j hj (hs j k)) fun k=>h0 (hs 0 k)
theorem zt{M:Int}:∀(l:List dN) {x:aO},Ok x.t->Ok (aW M x l).1.t
 |[],_,ok=>ok
 |o::l,x,ok=>by
  rw[cZ];split
  ·exact ok
  ·exact zt l (F7 ok o)
theorem BH{M:Int}:∀(l:List dN) {x:aO},(∀o∈l,mD o)->(∀i,Fit (x.nd i))->∀i,Fit ((aW M x l).1.nd i)
 |[],_,_,h=>h
 |o::l,x,ho,h=>by
  rw[cZ];split
  ·exact h
  ·exact BH l (fun o' h'=>ho o' (List.mem_cons_of_mem _ h')) (OZ h (ho o List.mem_cons_self))
theorem BG{M:Int}:∀(l:List dN) {x:aO},Ok x.t->(aW M x l).1.t.length<=x.t.length+l.length
 |[],_,_=>nR
 |o::l,x,ok=>by
  rw[cZ];split
  ·simp only;omega
  ·have h1:=Gf (M:=M) ok o;have h2:=BG (M:=M) l (F7 (M:=M) ok o);simp only[List.length_cons];omega
theorem dE.all{M:Int}:∀(l:List dN) {x:aO} {S:Int->Prop},Ok x.t->dE x S->(aW M x l).2.2=0->dE (aW M x l).1 fun j=>S j∨∃o∈l,j=o.i∧touch o
 |[],x,S,_,h,_=>h.mono fun j hj=>.inl hj
 |o::l,x,S,ok,h,hz=>by
  rw[cZ]at hz ⊢;by_cases e:(fJ M x o).2≠0
  ·rw[if_pos e]at hz;exact absurd hz e
  rw[if_neg e]at hz ⊢;refine(dE.all l (F7 ok o) (h.op ok (by simpa using e)) hz).mono fun j hj=>?_;rcases hj with(hj|hj)|⟨o',h1,h2⟩
  ·exact .inl hj
  ·exact .inr ⟨o,List.mem_cons_self,hj⟩
  ·exact .inr ⟨o',List.mem_cons_of_mem _ h1,h2⟩
end
end Go.Proofs.YtekdoeilpheklaaGreat
