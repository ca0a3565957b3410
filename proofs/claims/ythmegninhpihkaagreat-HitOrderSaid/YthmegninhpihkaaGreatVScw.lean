import Derived.Test.YthmegninhpihkaaGreatVScT
set_option maxHeartbeats 16000000
set_option maxRecDepth 100000
open Go.Proofs.Tryz
namespace Go.Proofs.YthmegninhpihkaaGreat
section
open Go.RowKit fG gm aF Go.Maps xk Go.Shelf
theorem ax.row0{α:Type}{T:TypeId}{k:Nat}{enc:α->List Value}{w:World}{base:Nat}{v:Value}{l:List α}(h:ax T k enc w base v l)(hk:∀x,(enc x).length=k)(hl:0<l.length):∃g c,v=.slice (some ⟨g,0,none⟩) l.length c∧l.length<=c∧c<=maxLen∧aV k enc w (some ⟨g,0,none⟩) l:=by
 rcases h.2 with ⟨rfl,h0⟩|⟨g,cap,cur,rfl,hg,hb,hc,hm,rest⟩
 ·omega
 ·refine⟨g,cap,rfl,hc,hm,fun _=>⟨g,0,rfl,fun j hj i v hv=>?_⟩⟩;have hcell:=World.ownsRow.cells h (g:=g) rfl;have e:∀i,(⟨g,0,none⟩:Addr).add i=⟨g,0+i,none⟩:=fun i=>by unfold Addr.add;split<;>simp_all
  have:=hcell _ _ (qH hk hj hv);rw[e]at this;rw[Nat.add_assoc];exact this
theorem NG(M:Int):∀(l:List dH) (x:aJ),(aO M x l).2.1<=l.length
 |[],_=>nR
 |o::l,x=>by
  rw[bW];split
  ·exact Nat.zero_le _
  ·have:=NG M l (eU M x o).1;simp only[List.length_cons];omega
section
variable {w w':World}{g b m:Nat}{s:Sh}{Z:ZZ}{x:aJ}
theorem ak.kind(h:ak w g b m s Z x){k:Nat}(hk:af b m s x.t k):∃o,w.heap[k]?=some o∧uf o=false:=by
 rcases hk with e|e|e|⟨i,hi,e|e⟩
 ·obtain⟨es,hm,_⟩:=h.map;obtain⟨es',clock,h4,_⟩:=hm.own;rw[e];exact⟨_,h4,rfl⟩
 ·rw[e];exact⟨_,h.tree.raw.blk,rfl⟩
 ·obtain⟨es,hm,_⟩:=h.tree.raw.map;obtain⟨es',clock,h4,_⟩:=hm.own;rw[e];exact⟨_,h4,rfl⟩
 ·rw[e];exact⟨_,(h.tree.raw.node i hi).blk,rfl⟩
 ·obtain⟨cur,fr',h4⟩:=(h.tree.raw.node i hi).own.typed e;exact⟨_,h4,rfl⟩
theorem Row.bk{B:Nat}{A:Option Addr}{l:List Nat}(h:Row eW w A l)(hb:Bk B w w'):Row eW w' A l:=fun hn=>by
 obtain⟨k,off,e,hc⟩:=h hn;exact⟨k,off,e,fun j hj=>eG hb (hc j hj)⟩
theorem dD.bk{B:Nat}{E S:bF}{n:Nd}{A:Option Addr}(h:dD E S w n A)(hb:Bk B w w'):dD E S w' n A:=⟨Row.bk h.1 hb,h.2,h.3⟩
theorem ak.bk{B:Nat}(h:ak w g b m s Z x)(hb:Bk B w w'):ak w' g b m s Z x:=by
 obtain⟨es,hm,h1,h2⟩:=h.map
 have hin:∀k,af b m s x.t k->w'.heap[k]?=w.heap[k]?:=fun k hk=>by
  obtain⟨o,ho,hn⟩:=h.kind hk;exact(hb.keep ho hn).trans ho.symm
 refine⟨h.blk.bk hb,h.tree.stays fun k hk=>hin k (.inr hk),⟨es,hm.stays (hin m (.inl rfl)),h1,fun i hi=>?_⟩,h.jh,h.qQ,fun k hk=>⟨Nat.lt_of_lt_of_le (h.old k hk).1 hb.size,(h.old k hk).2⟩⟩;obtain⟨v,e,A,c,e2,hv⟩:=h2 i hi;exact⟨v,e,A,c,e2,hv.bk hb⟩
theorem ae.bk{B:Nat}{S S':bF}{w0:World}(h:ae S S' w0 w)(hb:Bk B w w')(hB:w0.heap.size<=B):ae S S' w0 w':=
 ⟨hb.os.trans h.os,hb.tape.trans h.tape,hb.output.trans h.output,Nat.le_trans h.size hb.size,fun k hk hn=>⟨(h.far k hk hn).1,(hb.low (Nat.lt_of_lt_of_le hk h.size) (Nat.lt_of_lt_of_le hk hB)).trans (h.far k hk hn).2⟩⟩
theorem ak.kb{S':bF}(h:ak w g b m s Z x)(ht:ae (af b m s x.t) S' w w'):KB w w':=fun k o hk ho=>by
 refine((ht.far k (Array.getElem?_eq_some_iff.1 hk).1 fun e=>?_).2).trans hk;obtain⟨o',ho',hn⟩:=h.kind e;rw[hk]at ho';cases ho';rw[ho]at hn;cases hn
def a0I(g b m:Nat)(Z:ZZ)(s:Sh)(x:aJ)(r:aJ×Int)(w:World)(e:Ending)(w':World):Prop:=
 ∃s',e=.returned (.int .i64 r.2)∧ak w' g b m s' Z r.1∧ae (af b m s x.t) (af b m s' r.1.t) w w'
def bK(M:Int)(st:aJ->aJ×Int)(x:aJ)(l:List dH):aJ×Int×Int:=
 if 1024<l.length then (x,0,12) else
  if (aO M x l).2.2≠0 then (x,((aO M x l).2.1:Nat),(aO M x l).2.2) else
   if (st (aO M x l).1).2≠0 then (x,((aO M x l).2.1:Nat),(st (aO M x l).1).2) else ((st (aO M x l).1).1,((aO M x l).2.1:Nat),0)
def wV(g b m:Nat)(Z:ZZ)(s:Sh)(x:aJ)(r:aJ×Int×Int)(w:World)(e:Ending)(w':World):Prop:=
 ∃s',e=.returned (.tuple #[.int .i64 r.2.1,.int .i64 r.2.2])∧ak w' g b m s' Z r.1∧ae (af b m s x.t) (af b m s' r.1.t) w w'
theorem mQ.turn{bx:Nat}{A:Option Addr}{c:Nat}{l:List (Nat×Array Value)}{S S':bF}(h:mQ bx A c l w)(ht:ae S S' w w')(h1:¬S bx)(h2:∀a,A=some a->¬S a.block):mQ bx A c l w':=by
 have hc:∀(a:Addr) (v:Value),¬S a.block->w.cell? a=some v->w'.cell? a=some v:=fun a v hn hv=>by
  have h3:=(ht.far a.block (World.block_lt_of_cell? w a hv) hn).2;rw[←hv];exact World.cell?_of_block h3
 refine⟨hc _ _ h1 h.box,fun j hj=>?_⟩;obtain⟨g,e,hv⟩:=h.at_ j hj;exact⟨g,e,hc ⟨g,j,none⟩ _ (h2 ⟨g,0,none⟩ e) hv⟩
end
end
section
open Go.RowKit fG gm aF Go.Maps xk Go.Shelf
attribute [local go_sem] Oper.semAt_some
section
variable {w:World}{g b m:Nat}{s:Sh}{Z:ZZ}{x:aJ}
theorem Qh(h:ak w g b m s Z x)(l:List iK)(A:Option Addr)(c:Nat)(ho:pY (af b m s x.t) w A l)(hok:∀q∈l,kK q.o)(hfx:∀i,Fit (x.nd i))(hn:l.length<=1024->Room Z.2.2 x l.length)(hlen:l.length<=1000000)(st:aJ->aJ×Int)
  (hset:∀(W:World) (s1:Sh) (E:bF),l.length<=1024->(aO Z.2.2 x (l.map (·.o))).2.2=0->ak W g b m s1 ⟨Z.1,Z.2,E⟩ (aO Z.2.2 x (l.map (·.o))).1->pY (af b m s1 (aO Z.2.2 x (l.map (·.o))).1.t) W A l ->
   Calls prog 48 #[.pointer (some ⟨g,0,none⟩),.slice A l.length c] W (a0I g b m ⟨Z.1,Z.2,E⟩ s1 (aO Z.2.2 x (l.map (·.o))).1 (st (aO Z.2.2 x (l.map (·.o))).1) W))
  (hst:(st (aO Z.2.2 x (l.map (·.o))).1).2≠0->(st (aO Z.2.2 x (l.map (·.o))).1).1=(aO Z.2.2 x (l.map (·.o))).1) :
  Calls prog 22 #[.pointer (some ⟨g,0,none⟩),.slice A l.length c] w (wV g b m Z s x (bK Z.2.2 st x (l.map (·.o))) w):=by
 obtain⟨R,hR⟩:=aC (bK Z.2.2 st x (l.map (·.o)))
 have HR:=Hd hR;rw[hR];unfold bK at HR;clear hR;rw[List.length_map]at HR;by_cases hm:1024<l.length
 ·have t1:decide ((1024:Int)<(l.length:Int))=true:=decide_eq_true (by omega);have t2:decide (1024<l.length)=true:=decide_eq_true hm;have HE:Hid (R=(x,0,12)):=by show _=_;rw[←HR.o,if_pos hm]
  have HS:=Hd h;clear HR hset hst ho hok hfx hn h hm;refine bQ func22 rfl ?_;simp only[ntmps22,List.size_toArray,List.length_cons,List.length_nil,Nat.reduceAdd,Nat.reduceSub,Array.replicate_succ,Array.replicate_zero,List.push_toArray,List.append_toArray,List.nil_append,List.cons_append];go_wp2_with (fail)
  refine dG w.heap.size trivial fun w' hb=>⟨_,results_tmp2 rfl _ _ _,?_⟩
  rw[HE.o];exact⟨s,rfl,HS.o.bk hb,(ae.refl _ _).bk hb nR⟩
 have hm1:l.length<=1024:=by omega
 have t1:decide ((1024:Int)<(l.length:Int))=false:=decide_eq_false (by omega);have t2:decide (1024<l.length)=false:=decide_eq_false hm;rw[if_neg hm]at HR;have HC:=Hd (XI h l A c ho hok hfx (hn hm1));unfold a3D at HC
 obtain⟨r,hr⟩:=aC (aO Z.2.2 x (l.map (·.o)))
 have hll:r.2.1<=1024:=by rw[←hr];have:=NG Z.2.2 (l.map (·.o)) x;rw[List.length_map]at this;omega
 rw[hr]at HC HR hset hst;have UN:=Hd (fun(W:World) (s1:Sh) (E:bF)=>hset W s1 E hm1);have HST:=Hd hst;have HO:=Hd ho;have HS:=Hd h;clear hset hst ho hok hfx hn h hm hm1 hr;refine bQ func22 rfl ?_;simp only[ntmps22,List.size_toArray,List.length_cons,List.length_nil,Nat.reduceAdd,Nat.reduceSub,Array.replicate_succ,Array.replicate_zero,List.push_toArray,List.append_toArray,List.nil_append,List.cons_append];go_wp2_with (fail);refine HC.o.mono ?_;obtain⟨y,nd,e0⟩:=r;rintro e w1 ⟨U,uc,vs,s1,rfl,hvl,hown,hsc,ht,hch⟩;simp only at hvl hsc ht hch;subst hvl
 have ql:Hid (vs.length<=1024):=hll;clear hll;have HU:=Hd hown;have HY:=Hd hsc;have HT:=Hd ht;have HCH:=Hd hch;clear hown hsc ht hch HC
 dsimp only at HR UN HST ⊢
 go_upto_region 4 with(fail)
 go_cut [19] from 18 (fun u wx=>u=.bool (e0==0)∧wx=w1)
 case first=>
  go_wp2_with (fail)
  go_meet
  case rel=>exact⟨rfl,rfl⟩
 case rest=>
 obtain⟨rfl,rfl⟩:=hcut
 rename_i K1 hK1 K2 hK2
 refine hK2 _ _ ?_
 go_cut [5] from 20 (fun u wx=>∃(e5:Int) (s2:Sh) (y2:aJ),u=.int .i64 e5∧Hid (ak wx g b m s2 ⟨Z.1,Z.2,EO Z (.slice U vs.length uc)⟩ y2)∧Hid (ae (af b m s x.t) (af b m s2 y2.t) w wx)∧Hid (Ba wx w.heap.size (.slice U vs.length uc) vs)∧Hid (e5≠0->Jb g b m Z wx (IY b m s2 y2.t (EO Z (.slice U vs.length uc))) vs.reverse y2 x)∧Hid (R=if e5≠0 then (x,((vs.length:Nat):Int),e5) else (y2,((vs.length:Nat):Int),0)))
 case first=>
  by_cases h0:e0=0
  ·subst h0;have t3:((0:Int)==0)=true:=rfl;have HC2:=Hd (UN.o wc s1 _ rfl HY.o (HO.o.turn HT.o));have HR2:Hid (R=if (st y).2≠0 then (x,((vs.length:Nat):Int),(st y).2) else ((st y).1,((vs.length:Nat):Int),0)):=by show _=_;rw[←HR.o,if_neg (by simp)]
   obtain⟨⟨y2,e2⟩,hs2⟩:∃q,st y=q:=⟨_,rfl⟩
   rw[hs2]at HC2 HR2 HST;unfold a0I at HC2;clear HR UN hs2
   dsimp only at HC2 HR2 HST
   go_wp2_with (fail);refine HC2.o.mono ?_;rintro e w2 ⟨s2,rfl,hsc2,ht2⟩;have XK:=Hd hsc2;have HT2:=Hd ht2;clear hsc2 ht2 HC2;go_wp2_with (fail)
   go_meet
   case rel=>
    refine⟨e2,s2,y2,rfl,XK.o,HT.o.trans HT2.o,HU.o.stays fun k hk=>(HT2.o.far k (HU.o.block hk).2 (HY.o.old k (.inr hk)).2.1).2,fun hne=>?_,HR2.o⟩;have:=HCH.o.turn (HT2.o.sor (EO Z (.slice U vs.length uc)));rw[←HST.o hne]at this;exact this
  ·have t3:(e0==0)=false:=by simpa using h0
   have HR2:Hid (R=if e0≠0 then (x,((vs.length:Nat):Int),e0) else (y,((vs.length:Nat):Int),0)):=by show _=_;rw[←HR.o,if_pos h0,if_pos h0]
   clear HR UN HST h0;go_wp2_with (fail)
   go_meet
   case rel=>exact⟨e0,s1,y,rfl,HY.o,HT.o,HU.o,fun _=>HCH.o,HR2.o⟩
 case rest=>
  obtain⟨e5,s2,y2,rfl,XK,HT2,HU2,a07,HR2⟩:=hcut;clear HY HT HU HCH HR UN HST;by_cases h5:e5=0
  ·subst h5;have HE:Hid (R=(y2,((vs.length:Nat):Int),0)):=by show _=_;rw[HR2.o,if_neg (by simp)]
   clear HR2 a07;go_wp2_with (fail)
   refine dG w.heap.size trivial fun w' hb=>⟨_,results_tmp2 rfl _ _ _,?_⟩
   rw[HE.o]
   have hY:ak wc g b m s2 Z y2:=XK.o.part (E':=Z.3) (fun _ _ _=>rfl) fun k hk=>⟨(XK.o.old k (.inl hk)).1,.inl (.inl hk)⟩
   exact⟨s2,rfl,hY.bk hb,HT2.o.bk hb nR⟩
  have t5:(e5==0)=false:=by simpa using h5
  have HE:Hid (R=(x,((vs.length:Nat):Int),e5)):=by show _=_;rw[HR2.o,if_pos h5]
  have Yq:=Hd (a07.o h5);clear HR2 a07 h5;go_wp2_with (fail);refine(KD U vs.length uc wc).mono ?_;rintro e w3 ⟨rfl,hw3⟩;have hb3:Below wc.heap.size wc w3:=by rw[hw3];exact bR.alloc nR _
  have hx3:au w3 wc.heap.size [.slice U vs.length uc] 140:=by rw[hw3];exact au.new wc _ _
  obtain⟨bx,hbx⟩:=aC wc.heap.size
  have hsz3:bx<w3.heap.size:=by rw[←hbx];exact hx3.inside
  obtain⟨E3,hE3⟩:∃E3:bF,E3=fun k=>EO Z (.slice U vs.length uc) k∨k=bx:=⟨_,rfl⟩
  have QU:Hid (∀k,EO Z (.slice U vs.length uc) k∨k=bx↔E3 k):=fun k=>by rw[hE3]
  have HY3:Hid (ak w3 g b m s2 ⟨Z.1,Z.2,E3⟩ y2):=XK.o.part (fun k h1 _=>hb3.block k h1) fun k hk=>by
   rcases(QU.o k).2 hk with e|e
   ·exact⟨Nat.lt_of_lt_of_le (XK.o.old k e).1 hb3.size,.inl e⟩
   ·rw[e];exact⟨hsz3,.inr (by omega)⟩
  have a4O:Hid (Jb g b m Z w3 (IY b m s2 y2.t E3) vs.reverse y2 x):=Yq.o.part hb3.size (fun k h1 _=>hb3.block k h1) fun k hk=>by
   rcases(QU.o k).2 hk with e|e
   ·exact .inl e
   ·exact .inr (by omega)
  have Ir:Hid (Ba w3 w.heap.size (.slice U vs.length uc) vs):=HU2.o.below hb3
  have HBF:Hid (mQ bx U uc vs w3):=by
   rw[←hbx];refine⟨hx3.blk.cell 0,fun j hj=>?_⟩;obtain⟨g9,c9,e9,-,-,hrow⟩:=ax.row0 Ir.o yu (by omega)
   injection e9 with e9 _ _
   obtain⟨b9,o9,e8,hc⟩:=hrow (by omega)
   injection e8 with e8
   injection e8 with e8 e7
   refine⟨g9,e9,?_⟩;have:=hc j hj 0 (fv vs[j]) rfl;rw[←e8,←e7]at this
   simpa using this
  have HT3:Hid (ae (af b m s x.t) (af b m s2 y2.t) w w3):=HT2.o.trans (ae.below hb3);have sJ:Hid (∀a,U=some a->E3 a.block):=fun a ea=>(QU.o _).1 (.inl (.inr (by rw[ea];rfl)));have HEB:Hid (E3 bx):=(QU.o _).1 (.inr rfl);have HEZ:Hid (∀k,Z.3 k->E3 k):=fun k hk=>(QU.o _).1 (.inl (.inl hk));have EI:Hid (vs.length<=100000):=by have:=ql.o;show _<=_;omega
  rw[hbx];clear hw3 hb3 hx3 hbx hsz3 hE3 QU XK Yq HU2 HT2;go_wp2_with (fail)
  refine jZ (gf:=78) (lb:=#[.pointer (some ⟨bx,0,none⟩)]) rfl (enters_of func78 ag rfl) (es:=oO vs) (R:=fun _=>Eq) (Kp:=fun A B=>mQ bx U uc vs A->mQ bx U uc vs B)
   (fun W1 hb=>Kz EI.o (HBF.o.bk hb)) (fun h k x=>k (h x)) (fun A B hb h=>h.bk hb) (fun n A B e k o _ hk _=>e ▸ hk)
   (fun e he=>by obtain⟨j,_,rfl⟩:=List.mem_map.1 he;rfl)
   (fun k W=>∃s4 y4,ak W g b m s4 ⟨Z.1,Z.2,E3⟩ y4∧ae (af b m s2 y2.t) (af b m s4 y4.t) w3 W∧Jb g b m Z w3 (IY b m s2 y2.t E3) (vs.reverse.drop k) y4 x)
   (fun _ _ _=>False) (fun k A B h hr=>?hI) (fun _ _ _ _ h _=>h.elim) ⟨s2,y2,HY3.o,ae.refl _ _,by rw[List.drop_zero];exact a4O.o⟩ ?a1 ?assign ?body ?done (fun _ _ _ _ _ _ h _=>h.elim)
  case hI=>
   obtain⟨s4,y4,h1,h2,h3⟩:=h;rcases hr with ⟨n,hn,rfl⟩|hb
   ·exact⟨s4,y4,h1,h2,h3⟩
   ·exact⟨s4,y4,h1.bk hb,h2.bk hb nR,h3⟩
  case assign=>
   intro l j hj W9 KK Ef;rw[Dl]
   gi_wp2_with (fail)
   exact Ef
  case body=>
   rintro l j hj W9 ⟨s4,y4,h1,h2,h3⟩;rw[lT]at hj
   have hd:vs.reverse.drop j=vs[vs.length - 1 - j]?.getD (0,#[])::vs.reverse.drop (j+1):=by
    rw[List.drop_eq_getElem_cons (by simpa using hj),List.getElem_reverse,List.getElem?_eq_getElem (by omega)];rfl
   rw[hd]at h3;clear hd
   obtain⟨q,hq⟩:=aC (vs[vs.length - 1 - j]?.getD (0,#[]))
   rw[hq]at h3 ⊢;clear hq;obtain⟨y5,⟨K,f,cs,e,hen,hK,hcl⟩,h4⟩:=h3
   have Wl:=Hd (hcl W9 s4 E3 (fun k hk=>by
    have h5:=h2.far k (hK k hk).1 fun e=>(hK k hk).2 (.inl e)
    exact⟨h5.2,h5.1,fun e=>(hK k hk).2 (.inr e)⟩) h1)
   have NS:=Hd h1;have HT4:=Hd h2;have xP:=Hd h4;rw[show fv q=.func (.func f) #[] cs from e];have a3T:=hen;unfold Enters at a3T;clear e hen hK hcl h1 h2 h4
   gi_wp2_with (fail)
   refine⟨trivial,rfl,CallsIn.inRound l ((callsIn_wide (n:=0)).2 (Wl.o.mono ?_))⟩;rintro e2 W7 ⟨⟨rv,rfl⟩,s6,h6,h7⟩;have HS6:=Hd h6;have V3:=Hd h7;clear h6 h7
   gi_wp2_with (fail)
   exact⟨NS.o.kb V3.o,fun hB=>hB.turn V3.o (NS.o.old _ HEB.o).2.1 fun a ea=>(NS.o.old _ (sJ.o a ea)).2.1,s6,y5,HS6.o,HT4.o.trans V3.o,xP.o⟩
  case done=>
   rintro D W9 hD ⟨s4,y4,h1,h2,h3⟩ hd;rw[lT,List.drop_of_length_le (by simp)]at h3;obtain rfl:y4=x:=h3;have NS:=Hd h1;have HT4:=Hd h2;clear h1 h2;go_wp2_with (fail)
   refine dG w3.heap.size ⟨⟨D,rfl,hD,hd,by simp⟩,trivial⟩ fun w' hb=>⟨_,results_tmp2 rfl _ _ _,?_⟩
   rw[HE.o]
   have hY:ak W9 g b m s4 Z y4:=NS.o.part (E':=Z.3) (fun _ _ _=>rfl) fun k hk=>⟨(NS.o.old k (HEZ.o k hk)).1,.inl (HEZ.o k hk)⟩
   exact⟨s4,rfl,hY.bk hb,(HT3.o.trans HT4.o).bk hb HT3.o.size⟩
end
end
section
open Go.RowKit fG gm aF Go.Maps
section
variable {w w':World}{g b m:Nat}{s:Sh}{Z:ZZ}{x:aJ}
theorem ak.look_ok(h:ak w g b m s Z x){i:Int}(hi:I64 i):∃A c,∀W,bz w W->(Instr.lookup eY (.map (some m)) (.int .i64 i) true).run prog W=.ok (.tuple #[.agg (dZ (gX x i) A c (fZ x i)).toArray,.bool (has x.t i)]) W∧dD Z.3 (af b m s x.t) W (gX x i) A:=by
 by_cases hh:has x.t i=true
 ·obtain⟨A,c,hl⟩:=h.zn hi hh;have e1:gX x i=x.nd i:=if_pos hh;have e2:fZ x i=x.ws i:=if_pos hh;rw[e1,e2,hh];exact⟨A,c,fun W hb=>⟨(hl W hb).2.1,(hl W hb).2.2⟩⟩
 ·have e1:gX x i=Nd.zero:=if_neg hh;have e2:fZ x i=Mp.o:=if_neg hh;rw[e1,e2,show has x.t i=false from by simpa using hh];exact⟨none,0,fun W hb=>⟨((h.below hb).fB hi hh).2,pG rfl _,fun a e=>(nomatch e),fun a e=>(nomatch e)⟩⟩
theorem BO(h:ak w g b m s Z x)(i:Int)(hi:I64 i) :
  Calls prog 35 #[.pointer (some ⟨g,0,none⟩),.int .i64 i] w (aZ (.tuple #[.agg (fZ x i).cs.toArray,.bool (has x.t i)]) w):=by
 have hb0:bz w (w.alloc (.cells Vd.toArray 67)):=bR.alloc nR _;have HB0:=Hd hb0;have HZ0:Hid (az (w.alloc (.cells Vd.toArray 67)) w.heap.size Vd):=aA w Vd _;have uP:Hid (ak (w.alloc (.cells Vd.toArray 67)) g b m s Z x):=h.below hb0;obtain⟨A,c,hl⟩:=h.look_ok hi;have HL:=Hd hl;have kG:Hid (∀k,af b m s x.t k->k<w.heap.size):=h.inside;have IA:Hid (∀k,Z.3 k->k<w.heap.size):=fun k hk=>(h.old k hk).1;have iL:Hid ((w.alloc (.cells Vd.toArray 67)).heap.size=w.heap.size+1):=by show _=_;simp
 obtain⟨hh,hhe⟩:=aC (has x.t i)
 rw[hhe]at HL ⊢
 obtain⟨n,hn⟩:=aC (gX x i)
 obtain⟨u,hu⟩:=aC (fZ x i)
 rw[hn,hu]at HL;rw[hu];clear hb0 hl h hhe hn hu;go_enter func35,ntmps35
 go_upto_region 1 with(fail)
 generalize (w.alloc (.cells Vd.toArray 67))=w0 at*;obtain⟨⟨-,-,-,-,-,c5⟩,i0⟩:=uP.o.top;have hlk:=(HL.o w0 HB0.o).1;have HZ2:Hid (az (w0.alloc (.cells Vi.toArray 137)) w0.heap.size Vi):=aA w0 Vi _;have iO:Hid (bz w0 (w0.alloc (.cells Vi.toArray 137))):=bR.alloc nR _
 go_upto_region 2 with(first|(with_reducible refine gS ?_;first|(refine ay 137 _ _ rfl rfl rfl _ 0 rfl (dZ n A c u) rfl (Vi) HZ2.o (dZ n A c u) rfl (nE rfl) ag (Gg _ _ _ _) ?_;intro w3 HW3 dM)))
 have HB3:Hid (bz w0 w3):=HW3.o.below iO.o nR;have HZ3:Hid (az w3 w.heap.size Vd):=HZ0.o.below' HB3.o;have Zq:=Hd (HL.o w3 (HB0.o.trans (HB3.o.mono HB0.o.size))).2;clear hlk HL c5 i0 HZ2 iO HW3 HZ0;have I8:Hid (w.heap.size≠w0.heap.size):=by show _≠_;have:=iL.o;omega
 go_wp2_with (first|(with_reducible refine gL ?_;first|(refine wt 67 20 rfl rfl rfl dM.o (u.cs) rfl underlying67 rfl ?_))|(with_reducible refine gS ?_;first|(refine ay 67 _ _ rfl rfl rfl _ 0 rfl (u.cs) rfl (Vd) HZ3.o (u.cs) rfl (nE rfl) ag (Mp.one1 _) ?_;intro w4 xC nZ)));exact aS rfl rfl rfl nZ.o underlying67 rfl ag ⟨rfl,xC.o.below (HB0.o.trans (HB3.o.mono HB0.o.size)) nR⟩
theorem Si(h:ak w g b m s Z x)(hfx:∀j,Fit (x.nd j))(i:Int)(hi:I64 i) :
  Calls prog 20 #[.pointer (some ⟨g,0,none⟩),.int .i64 i] w fun e w'=>∃A c,e=.returned (.tuple #[.agg ((gX x i).cs A c).toArray,.bool (has x.t i)])∧bz w w'∧dD Z.3 (af b m s x.t) w' (gX x i) A∧∀a,A=some a->(gX x i).lk.l≠[]->w.heap.size<=a.block∧∀j,w'.frozen? ⟨a.block,j,none⟩=false:=by
 have Wi:Hid ((gX x i).lk.l.length<=300):=by
  show _<=_;unfold gX;split
  ·exact(hfx i).len
  ·exact Nat.zero_le _
 clear hfx;have hb0:bz w (w.alloc (.cells Va.toArray 77)):=bR.alloc nR _;have HB0:=Hd hb0;have HZ0:Hid (az (w.alloc (.cells Va.toArray 77)) w.heap.size Va):=aA w Va _;have uP:Hid (ak (w.alloc (.cells Va.toArray 77)) g b m s Z x):=h.below hb0;obtain⟨A,c,hl⟩:=h.look_ok hi;have HL:=Hd hl;have kG:Hid (∀k,af b m s x.t k->k<w.heap.size):=h.inside;have IA:Hid (∀k,Z.3 k->k<w.heap.size):=fun k hk=>(h.old k hk).1;have iL:Hid ((w.alloc (.cells Va.toArray 77)).heap.size=w.heap.size+1):=by show _=_;simp
 obtain⟨hh,hhe⟩:=aC (has x.t i)
 rw[hhe]at HL ⊢
 obtain⟨n,hn⟩:=aC (gX x i)
 obtain⟨u,hu⟩:=aC (fZ x i)
 rw[hn,hu]at HL;rw[hn]at Wi ⊢;clear hb0 hl h hhe hn hu;go_enter func20,ntmps20
 go_upto_region 1 with(fail)
 generalize (w.alloc (.cells Va.toArray 77))=w0 at*;obtain⟨⟨-,-,-,-,-,c5⟩,i0⟩:=uP.o.top;have hlk:=(HL.o w0 HB0.o).1;have HZ2:Hid (az (w0.alloc (.cells Vi.toArray 137)) w0.heap.size Vi):=aA w0 Vi _;have iO:Hid (bz w0 (w0.alloc (.cells Vi.toArray 137))):=bR.alloc nR _
 go_upto_region 2 with(first|(with_reducible refine gS ?_;first|(refine ay 137 _ _ rfl rfl rfl _ 0 rfl (dZ n A c u) rfl (Vi) HZ2.o (dZ n A c u) rfl (nE rfl) ag (Gg _ _ _ _) ?_;intro w3 HW3 dM)))
 have HB3:Hid (bz w0 w3):=HW3.o.below iO.o nR;have HZ3:Hid (az w3 w.heap.size Va):=HZ0.o.below' HB3.o;have Zq:=Hd (HL.o w3 (HB0.o.trans (HB3.o.mono HB0.o.size))).2;clear hlk HL c5 i0 HZ2 iO HW3 HZ0;have Yp:=Hd (Nr n A c (by have:=Wi.o;omega) w3 Zq.o.1 Z.3 (af b m s x.t) (fun k hk=>by have:=IA.o k hk;have:=HB0.o.size;have:=HB3.o.size;omega) (fun k hk=>by have:=kG.o k hk;have:=HB0.o.size;have:=HB3.o.size;omega));unfold VQ at Yp
 go_wp2_with (first|(with_reducible refine gL ?_;first|(refine wt 77 0 rfl rfl rfl dM.o (n.cs A c) rfl underlying77 rfl ?_)));refine Yp.o.mono ?_;rintro e w4 ⟨A4,c4,rfl,hn4,hb4,hg4⟩;have HZ4:=Hd (HZ3.o.below' hb4);have HB4:=Hd hb4;have We:=Hd (And.intro hn4 hg4);clear hn4 hb4 hg4 Yp HZ3;go_wp2_with (first|(with_reducible refine gS ?_;first|(refine ay 77 _ _ rfl rfl rfl _ 0 rfl (n.cs A4 c4) rfl (Va) HZ4.o (n.cs A4 c4) rfl (nE rfl) ag (Nd.one _ _ _) ?_;intro w5 yA uS)))
 have hlow:w.heap.size<w3.heap.size:=by have:=iL.o;have:=HB3.o.size;omega
 have TB:∀a,A4=some a->n.lk.l≠[]->a.block≠w.heap.size:=fun a ea hne e=>by have:=We.o.2 a ea hne;omega
 exact aS rfl rfl rfl uS.o underlying77 rfl ag ⟨A4,c4,rfl,yA.o.below ((HB0.o.trans (HB3.o.mono HB0.o.size)).trans (HB4.o.mono (by omega))) nR,⟨Row.stays We.o.1.1 fun a ea hne=>yA.o.far (TB a ea hne),We.o.1.2,We.o.1.3⟩,fun a ea hne=>⟨by have:=We.o.2 a ea hne;omega,fun j=>(World.frozen?_of_block (a:=⟨a.block,j,none⟩) (yA.o.far (TB a ea hne))).trans ((We.o.2 a ea hne).2 j)⟩⟩
end
end
section
open Go.RowKit fG gm aF Go.Maps
abbrev a1s:TypeId:=90
theorem dQ{P:Program}{ops:Array Oper}{rest:List Oper}{o:Oper}{a:Act}{Q:Exit->Act->World->Prop}{w w':World}(t:TypeId)(parts:Array (Nat×Operand))(ho:o.op=.build t parts)(hgd:Region.wanted o (yielded ops a.tmps)=true){vals:Array (Nat×Value)}(hv:(parts.map fun q=>(q.1,a.eval q.2))=vals){v:Value}(hrun:(Instr.build t vals).run P w=.ok v w')
  (h:wpList P ops Q rest (a.put o.dst v) w'):wpList P ops Q (o::rest) a w:=by
 subst hv;unfold wpList;rw[if_pos hgd];refine .inl ?_;unfold Oper.wp execOp;simp only[ho,Sem.run_bind,Result.andThen_ok,hrun];exact h
def sccs(b m:Nat)(Z:ZZ):List Value:=[.iface 88 (.pointer (some ⟨b,0,none⟩)),.pointer (some ⟨b,0,none⟩),.int .i64 Z.1,.int .i64 Z.2.1,.int .i64 Z.2.2,.map (some m)]
theorem H7(b m:Nat)(W H M:Int)(w:World):(Instr.build rE #[(0,.iface 88 (.pointer (some ⟨b,0,none⟩))),(1,.pointer (some ⟨b,0,none⟩)),(2,.agg (Vq W H M).toArray),(3,.map (some m))]).run prog w =
  .ok (.agg #[.iface 88 (.pointer (some ⟨b,0,none⟩)),.pointer (some ⟨b,0,none⟩),.int .i64 W,.int .i64 H,.int .i64 M,.map (some m)]) w:=by kernel_rfl
def OfQ(b m:Nat)(Z:ZZ)(w:World)(e:Ending)(w':World):Prop:=∃g,e=.returned (.pointer (some ⟨g,0,none⟩))∧w.heap.size<=g∧au w' g (sccs b m Z) rE∧bz w w'
theorem ZT(Z:ZZ)(b m:Nat)(w:World) :
  Calls prog 51 #[.agg (Vq Z.1 Z.2.1 Z.2.2).toArray,.pointer (some ⟨b,0,none⟩),.map (some m)] w (OfQ b m Z w):=by
 go_enter func51,ntmps51;go_wp2_with ((with_reducible refine gU ?_);refine dQ _ _ rfl rfl (by simp[go_sem]) (H7 b m Z.1 Z.2.1 Z.2.2 _) ?_);go_ret;exact⟨_,rfl,by omega,by simpa[sccs]using au.new (w.alloc _) (sccs b m Z) rE,(bR.alloc nR _).alloc (by simp) _⟩
def plain0:LV:=[(0,YI Nd.plain none 0 Mp.one)]
structure fH(base:Nat)(Z:ZZ)(i4 i5 i10 i11 i12 i13:Bool)(v29 v30 v35 v36 v6:Value)(w:World):Prop where
 jr:base<=w.heap.size
 tree:i4=true->∃b s,v29=.pointer (some ⟨b,0,none⟩)∧aX w b s []∧(∀k,gq b s [] k->base<=k)∧(i5=true->∀m,v30=.map (some m)->¬gq b s [] m)
 map:i5=true->∃m,v30=.map (some m)∧VM w m (bif i10 then plain0 else [])∧base<=m
 mv:i11=true->v35=v30
 Rq:i12=true->∃g b s m,v36=.pointer (some ⟨g,0,none⟩)∧base<=g∧au w g (sccs b m Z) rE∧aX w b s []∧VM w m plain0∧(∀k,af b m s [] k->base<=k)∧¬gq b s [] m∧¬af b m s [] g
 o:i13=true->v6=v36
 YO:i10=true->i5=true
 YN:i11=true->i10=true
 WO:i12=true->i4=true∧i11=true
 YM:i13=true->i12=true
section
variable {base:Nat}{Z:ZZ}{i4 i5 i10 i11 i12 i13:Bool}{v29 v30 v35 v36 v6:Value}{w w':World}
theorem fH.slots{u29 u30 u35 u36 u6:Value}(h:fH base Z i4 i5 i10 i11 i12 i13 v29 v30 v35 v36 v6 w)(e1:u29=v29)(e2:u30=v30)(e3:u35=v35)(e4:u36=v36)(e5:u6=v6):fH base Z i4 i5 i10 i11 i12 i13 u29 u30 u35 u36 u6 w:=by
 rw[e1,e2,e3,e4,e5];exact h
theorem fH.below(h:fH base Z i4 i5 i10 i11 i12 i13 v29 v30 v35 v36 v6 w)(hb:bz w w'):fH base Z i4 i5 i10 i11 i12 i13 v29 v30 v35 v36 v6 w' where
 jr:=Nat.le_trans h.jr hb.size
 tree e:=by
  obtain⟨b,s,h1,h2,h3⟩:=h.tree e;exact⟨b,s,h1,h2.below hb,h3⟩
 map e:=by
  obtain⟨m,h1,h2,h3⟩:=h.map e;exact⟨m,h1,h2.below hb,h3⟩
 mv:=h.mv
 Rq e:=by
  obtain⟨g,b,s,m,h1,h2,h3,h4,h5,h6⟩:=h.Rq e;exact⟨g,b,s,m,h1,h2,h3.stays (hb.block _ h3.inside),h4.below hb,h5.below hb,h6⟩
 o:=h.o
 YO:=h.YO
 YN:=h.YN
 WO:=h.WO
 YM:=h.YM
theorem lI{i j:Bool}(h:i=true->j=true)(e:j=false):i=false:=by cases i with|false=>rfl|true=>rw[h rfl]at e;cases e
theorem fH.start(hb:base<=w.heap.size):fH base Z false false false false false false v29 v30 v35 v36 v6 w:=
 ⟨hb,nofun,nofun,nofun,nofun,nofun,nofun,nofun,nofun,nofun⟩
theorem fH.grow(h:fH base Z i4 i5 i10 i11 i12 i13 v29 v30 v35 v36 v6 w)(h4:i4=false){b:Nat}{s:Sh}{u29:Value}(hb:bz w w')(h1:aX w' b s [])(h2:∀k,gq b s [] k->w.heap.size<=k)(e29:u29=.pointer (some ⟨b,0,none⟩)):fH base Z true i5 i10 i11 i12 i13 u29 v30 v35 v36 v6 w':=
 have h12:=lI (fun e=>(h.WO e).1) h4;have h13:=lI h.YM h12;have h':=h.below hb
 ⟨h'.jr,fun _=>⟨b,s,e29,h1,fun k hk=>Nat.le_trans h.jr (h2 k hk),fun e m em hm=>by
  obtain⟨m',e1,e2,-⟩:=h.map e;rw[em]at e1
  injection e1 with e1
  injection e1 with e1
  have:=h2 m hm;have:=e2.inside
  omega⟩,h'.map,h'.mv,(fun e=>by rw[h12]at e;cases e),(fun e=>by rw[h13]at e;cases e),h'.YO,h'.YN,(fun e=>⟨rfl,(h'.WO e).2⟩),h'.YM⟩
theorem fH.make{u30:Value}(h:fH base Z i4 i5 i10 i11 i12 i13 v29 v30 v35 v36 v6 w)(h5:i5=false)(e30:u30=.map (some w.heap.size)):fH base Z i4 true i10 i11 i12 i13 v29 u30 v35 v36 v6 (w.alloc (.map #[] 0)):=by
 have h10:=lI h.YO h5;have h11:=lI h.YN h10;subst e30 h5 h10 h11;have hb:bz w (w.alloc (.map #[] 0)):=bR.alloc nR _;have h':=h.below hb;refine⟨h'.jr,fun e=>?_,fun _=>⟨_,rfl,VM.made w,h.jr⟩,nofun,h'.Rq,h'.o,(nofun),(nofun),h'.WO,h'.YM⟩;obtain⟨b0,s0,h10,h20,h30,-⟩:=h.tree e;refine⟨b0,s0,h10,h20.below hb,h30,fun _ m em hm=>?_⟩
 injection em with em
 injection em with em
 have:=h20.raw.inside m hm;omega
theorem fH.put(h:fH base Z i4 i5 i10 i11 i12 i13 v29 v30 v35 v36 v6 w)(h5:i5=true)(h10:i10=false):∃m w',v30=.map (some m)∧(Instr.mapUpdate eY (.map (some m)) (.int .i64 0) (YI Nd.plain none 0 Mp.one)).run prog w=.ok () w'∧Below base w w'∧fH base Z i4 i5 true i11 i12 i13 v29 v30 v35 v36 v6 w':=by
 subst h5;have h11:=lI h.YN h10;have h12:=lI (fun e=>(h.WO e).2) h11;subst h10;obtain⟨m,h1,h2,h3⟩:=h.map rfl;obtain⟨w',hrun,hm',hg⟩:=h2.store fD (i:=0) (by constructor<;>decide) (YI Nd.plain none 0 Mp.one) (by show[_].length<=_;simp);have hne:∀k,k<w.heap.size->k≠m->w'.heap[k]?=w.heap[k]?:=fun k hk hn=>hg.block k hk fun e=>hn (Option.some.inj e);refine⟨m,w',h1,hrun,bR.grown hg h.jr fun k e=>by rw[←Option.some.inj e];exact h3,⟨Nat.le_trans h.jr hg.size,fun e=>?_,fun _=>⟨m,h1,hm',h3⟩,h.mv,fun e=>?_,h.o,fun _=>rfl,fun _=>rfl,h.WO,h.YM⟩⟩
 ·obtain⟨b,s,e1,e2,e3,e4⟩:=h.tree e;exact⟨b,s,e1,e2.stays fun k hk=>hne k (e2.raw.inside k hk) fun e5=>e4 rfl m h1 (e5 ▸ hk),e3,e4⟩
 ·rw[h12]at e;cases e
theorem fH.last(h:fH base Z i4 i5 i10 i11 i12 i13 v29 v30 v35 v36 v6 w)(h4:i4=true)(h11:i11=true)(h12:i12=false):∃b m,v29=.pointer (some ⟨b,0,none⟩)∧v35=.map (some m)∧∀e w',OfQ b m Z w e w'->∃u,e=.returned u∧bz w w'∧fH base Z i4 i5 i10 i11 true i13 v29 v30 v35 u v6 w':=by
 have h13:=lI h.YM h12;have h10:=h.YN h11;have h5:=h.YO h10;subst h4 h5 h10 h11 h12;obtain⟨b,s,e1,e2,e3,e4⟩:=h.tree rfl;obtain⟨m,f1,f2,f3⟩:=h.map rfl;refine⟨b,m,e1,(h.mv rfl).trans f1,?_⟩;rintro e w' ⟨g,rfl,g1,g2,g3⟩;have h':=h.below g3;have hnf:=e4 rfl m f1;refine⟨_,rfl,g3,⟨h'.jr,h'.tree,h'.map,h'.mv,fun _=>⟨g,b,s,m,rfl,Nat.le_trans h.jr g1,g2,e2.below g3,f2.below g3,fun k hk=>?_,hnf,fun hk=>?_⟩,(fun e=>by rw[h13]at e;cases e),h'.YO,h'.YN,(fun _=>⟨rfl,rfl⟩),(fun _=>rfl)⟩⟩
 ·rcases hk with e|e
  ·rw[e];exact f3
  ·exact e3 k e
 ·rcases hk with e|e
  ·have:=f2.inside;omega
  ·have:=e2.raw.inside g e;omega
theorem fH.copy{u35:Value}(h:fH base Z i4 i5 i10 i11 i12 i13 v29 v30 v35 v36 v6 w)(h10:i10=true)(e35:u35=v30):fH base Z i4 i5 i10 true i12 i13 v29 v30 u35 v36 v6 w:=⟨h.jr,h.tree,h.map,fun _=>e35,h.Rq,h.o,h.YO,fun _=>h10,fun e=>⟨(h.WO e).1,rfl⟩,h.YM⟩
theorem fH.tell{u6:Value}(h:fH base Z i4 i5 i10 i11 i12 i13 v29 v30 v35 v36 v6 w)(h12:i12=true)(e6:u6=v36):fH base Z i4 i5 i10 i11 i12 true v29 v30 v35 v36 u6 w:=⟨h.jr,h.tree,h.map,h.mv,h.Rq,fun _=>e6,h.YO,h.YN,h.WO,fun _=>h12⟩
theorem fH.oV(h:fH base Z i4 i5 i10 i11 true true v29 v30 v35 v36 v6 w)(hE:∀k,Z.3 k->k<base):∃g b m s,v6=.pointer (some ⟨g,0,none⟩)∧ak w g b m s Z ⟨[],fun _=>Nd.plain,fun _=>Mp.one⟩∧(∀k,af b m s [] k->base<=k)∧base<=g:=by
 obtain⟨g,b,s,m,h1,h2,h3,h4,h5,h6,h7,h8⟩:=h.Rq rfl;refine⟨g,b,m,s,(h.o rfl).trans h1,⟨h3,h4,⟨plain0,h5,fun i hi=>?_,fun i hi=>?_⟩,h8,h7,fun k hk=>⟨?_,fun e=>?_,fun e=>?_⟩⟩,h6,h2⟩
 ·by_cases e:i=0
  ·rw[e];rfl
  ·exact absurd (by simp[plain0,omap.look,Ne.symm e]) hi
 ·have e:i=0:=by
   rcases ah.1 hi with e|e
   ·exact e
   ·cases e
  subst e;exact⟨_,rfl,none,0,rfl,pG rfl _,(fun a e=>nomatch e),(fun a e=>nomatch e)⟩
 ·have:=hE k hk;have:=h.jr;omega
 ·have:=h6 k e;have:=hE k hk;omega
 ·have:=hE k hk;omega
end
end
section
open Go.RowKit fG gm aF Go.Maps
def XJ(Z:ZZ)(w:World)(e:Ending)(w':World):Prop:=
 ∃g b m s,e=.returned (.tuple #[.pointer (some ⟨g,0,none⟩),.int .i64 0])∧ak w' g b m s Z ⟨[],fun _=>Nd.plain,fun _=>Mp.one⟩∧bz w w'∧(∀k,af b m s [] k->w.heap.size<=k)∧w.heap.size<=g
section
variable {w:World}
theorem Gu(w:World):(Instr.makeMap eY none).run prog w=.ok (.map (some w.heap.size)) (w.alloc (.map #[] 0)):=rfl
theorem J9(a b c:Int)(w:World):(Instr.build a1s #[(0,.int .i64 a),(1,.int .i64 b),(2,.int .i64 c)]).run prog w=.ok (.agg (Vq a b c).toArray) w:=by kernel_rfl
theorem Sj(Z:ZZ)(hE:∀k,Z.3 k->k<w.heap.size)(h1:1<=Z.1∧Z.1<=4096)(h2:1<=Z.2.1∧Z.2.1<=4096)(h3:1<=Z.2.2∧Z.2.2<=65536) :
  Calls prog 24 (Vq Z.1 Z.2.1 Z.2.2).toArray w (XJ Z w):=by
 have HE:=Hd hE;obtain⟨a1,a2⟩:=h1;obtain⟨b1,b2⟩:=h2;obtain⟨d1,d2⟩:=h3;have HQ:Hid (XJ Z w=XJ Z w):=rfl;clear hE;go_enter func24,ntmps24
 go_upto_region 1 with(fail)
 go_cut [23] from 9 (fun u wx=>u=.bool false∧wx=w)
 case first=>
  go_wp2_with (fail)
  all_goals first
   |(go_meet;case rel=>exact⟨by first|rfl|(simp;omega),rfl⟩)
   |(exfalso;omega)
 case rest=>
 obtain⟨rfl,rfl⟩:=hcut;go_wp2_with (fail);refine(yV wc).mono ?_;rintro e w1 ⟨rfl,hb1⟩;have HB1:=Hd hb1;have HZ2:Hid (az (w1.alloc (.cells Va.toArray 77)) w1.heap.size Va):=aA w1 Va _;have iO:Hid (Below w1.heap.size w1 (w1.alloc (.cells Va.toArray 77))):=bR.alloc nR _;clear hb1
 go_upto_region 4 with(first|(with_reducible refine gS ?_;first|(refine ay 77 _ _ rfl rfl rfl _ 0 rfl (Nd.plain.cs none 0) rfl (Va) HZ2.o (Nd.plain.cs none 0) rfl (nE rfl) ag (Nd.one _ _ _) ?_;intro w3 HW3 dM)))
 have HB3:Hid (bz wc w3):=HB1.o.trans ((HW3.o.below iO.o nR).mono HB1.o.size)
 obtain⟨k8,hk8⟩:=aC w1.heap.size
 rw[hk8]at dM ⊢;clear HZ2 iO HW3 HB1 hk8
 refine QC (Below w3.heap.size) (fun L V wx=>fH w3.heap.size Z (L 4) (L 5) (L 10) (L 11) (L 12) (L 13) (V 29) (V 30) (V 35) (V 36) (V 6) wx) [25,26,27,28,29,30,31,32,33,34,35,36,6,7] (fun _=>bR) (fun _ _ _ h k=>h.trans k) (fun i=>match i with
  |0=>rV (.int .i64 Z.1)
  |1=>rV (.int .i64 Z.2.1)
  |2=>rV (.int .i64 Z.2.2)
  |3=>rV (.agg ((Vq Z.1 Z.2.1 Z.2.2)).toArray)
  |6=>rV (.agg (Nd.plain.cs none 0).toArray)
  |7=>rp k8 0
  |8=>rV (.agg (Mp.one.cs).toArray)
  |9=>rV (.agg (dZ Nd.plain none 0 Mp.one).toArray)
  |14=>rV (.int .i64 0)
  |_=>ra) (bR.drew) (fH.start (Below.refl 0 w3).drew.size) ⟨?_,?_,?_,?_,?_,?_,?_,?_,?_,?_,?_,?_,?_,?_,?_,trivial⟩ ?_
 any_goals (first|refine fK fun L a w1 hh=>?_|fail)
 have h0:=hh.o 0 (v:=.int .i64 Z.1) rfl;rotate_left;have h1:=hh.o 1 (v:=.int .i64 Z.2.1) rfl;rotate_left;have h2:=hh.o 2 (v:=.int .i64 Z.2.2) rfl;rotate_left
 ·have pO:=rq (hh.d 0 25);have IX:=rq (hh.d 1 26);have h27:=rq (hh.d 2 27);have hJ:=Hd hh.st;exact wp_build _ _ rfl (by simp[go_sem,pO,IX,h27]) (J9 Z.1 Z.2.1 Z.2.2 w1) ⟨_,rfl,bR,rfl,fH.slots hJ.o sn sn sn sn sn⟩
 ·have hJ:=Hd hh.st;have hsz:=Hd hh.size;have hC:=Hd (tnew w1);have hun:=Hd hh.un;clear hh;go_simp;refine hC.o.mono ?_;rintro e w9 ⟨b9,s9,rfl,lu,bD,hf9⟩;exact⟨_,rfl,bD.mono hJ.o.jr,trivial,fH.slots (hJ.o.grow hun.o bD lu hf9 rfl) (bM.bI (by rw[hsz.o];simp)) sn sn sn sn⟩
 ·have hJ:=Hd hh.st;have hsz:=Hd hh.size;have hmm:=Gu w1;have hu:=Hd (hh.st.make hh.un rfl);clear hh;go_simp;exact⟨_,rfl,bR.alloc hJ.o.jr _,trivial,fH.slots hu.o sn (bM.bI (by rw[hsz.o];simp)) sn sn sn⟩
 ·have h8:=hh.p 8 k8 0;have hB:=Hd (dM.o.below' hh.rel);have hJ:=Hd hh.st;exact aK 77 _ rfl k8 0 (by simpa[go_sem]using h8) _ hB.o (Nd.plain.cs none 0) rfl _ underlying77 rfl ag ⟨_,rfl,bR,rfl,fH.slots hJ.o sn sn sn sn sn⟩
 have h8:=hh.p 8 k8 0;have i0:=(dM.o.below' hh.rel).inside;rotate_left
 ·have h32:=rq (hh.d 7 32);have hB:=Hd (dM.o.below' hh.rel);have hJ:=Hd hh.st;exact aK 67 _ rfl k8 0 (by simpa[go_sem]using h32) _ hB.o (Mp.one.cs) rfl _ underlying67 rfl ag ⟨_,rfl,bR,rfl,fH.slots hJ.o sn sn sn sn sn⟩
 ·have h31:=rq (hh.d 6 31);have VV:=rq (hh.d 8 33);have hJ:=Hd hh.st;exact wp_build _ _ rfl (by simp[go_sem,h31,VV]) (kV Nd.plain none 0 Mp.one w1) ⟨_,rfl,bR,rfl,fH.slots hJ.o sn sn sn sn sn⟩
 ·have Xm:=rq (hh.d 9 34);obtain⟨m9,w9,e9,hrun,bD,hs9⟩:=hh.st.put (hh.up 5 ag) hh.un;have h30:a.tmps[30]?.getD undef=.map (some m9):=rq (e9);unfold YI at hrun;clear hh;go_simp;exact⟨⟨undef,trivial⟩,fH.slots hs9 rfl e9.symm rfl rfl rfl⟩
 ·have hsz:=Hd hh.size;have h30:a.tmps[30]?.getD undef=bM.sl a 30:=by unfold bM.sl;rw[Array.getD_eq_getD_getElem?]
  have hu:=Hd (hh.st.copy (hh.up 10 ag) rfl);clear hh;go_simp;exact⟨_,rfl,bR,trivial,fH.slots hu.o sn sn (bM.bI (by rw[hsz.o];simp)) sn sn⟩
 ·have h28:=rq (hh.d 3 28);have hJ:=Hd hh.st;have hsz:=Hd hh.size;obtain⟨b9,m9,e29,e35,hQ0⟩:=hh.st.last (hh.up 4 ag) (hh.up 11 ag) hh.un;have CW:a.tmps[29]?.getD undef=.pointer (some ⟨b9,0,none⟩):=rq (e29);have h35:a.tmps[35]?.getD undef=.map (some m9):=rq (e35);have hQ:=Hd hQ0;have hC:=Hd (ZT Z b9 m9 w1);clear hQ0;clear hh;go_simp;refine hC.o.mono ?_;intro e w9 hq;obtain⟨u9,rfl,bD,hs9⟩:=hQ.o e w9 hq;exact⟨_,rfl,bD.mono hJ.o.jr,trivial,fH.slots hs9 sn sn sn (bM.bI (by rw[hsz.o];simp)) sn⟩
 ·have hsz:=Hd hh.size;have Xl:a.tmps[36]?.getD undef=bM.sl a 36:=by unfold bM.sl;rw[Array.getD_eq_getD_getElem?]
  have hu:=Hd (hh.st.tell (hh.up 12 ag) rfl);clear hh;go_simp;exact⟨_,rfl,bR,trivial,fH.slots hu.o sn sn sn sn (bM.bI (by rw[hsz.o];simp))⟩
 rotate_left
 any_goals (have hJ:=hh.j;clear hh;go_simp;exact⟨_,rfl,bR,rfl,fH.slots hJ.o sn sn sn sn sn⟩)
 intro L w4 val hL hJ hR hv;have h7:val 7=.int .i64 0:=hv 14 7 ag;have HR4:=Hd hR
 have hN:fH w3.heap.size Z (L 4) (L 5) (L 10) (L 11) true true (val 29) (val 30) (val 35) (val 36) (val 6) w4:=by
  have h:=hJ;rw[hL 12 (by decide),hL 13 (by decide)]at h;exact h
 obtain⟨g,b,m,s,e6,hsc,hft,hgb⟩:=hN.oV (fun k hk=>Nat.lt_of_lt_of_le (HE.o k hk) HB3.o.size);have V4:=Hd (And.intro hsc (And.intro hft hgb));clear hv hL hJ hR hN hsc hft hgb;simp only[regs.aG,List.map_cons,List.map_nil,h7];simp only[Act.put,List.setIfInBounds_toArray,List.set_cons_zero,List.set_cons_succ];clear h7
 skip
 rw[e6];clear e6;go_wp2_with (fail);go_ret2;have hz:=HB3.o.size;exact⟨g,b,m,s,rfl,V4.o.1,HB3.o.trans (HR4.o.mono HB3.o.size),fun k hk=>Nat.le_trans hz (V4.o.2.1 k hk),Nat.le_trans hz V4.o.2.2⟩
end
end
section
open Go.RowKit fG gm aF Go.Maps
abbrev iP:TypeId:=181
theorem uV:prog.underlying iP=some (.map 3 67):=underlying181
theorem QX(w:World):(zeroValue 67).run prog w=.ok (.agg Mp.o.cs.toArray) w:=by kernel_rfl
def Bc(w:World)(mf:Nat)(fr:Int->Option Mp):Prop:=∃es,VM w mf es∧∀j,omap.look es j=(fr j).map fun q=>.agg q.cs.toArray
theorem Bc.stays{w w':World}{mf:Nat}{fr:Int->Option Mp}(h:Bc w mf fr)(hb:w'.heap[mf]?=w.heap[mf]?):Bc w' mf fr:=by
 obtain⟨es,h1,h2⟩:=h;exact⟨es,h1.stays hb,h2⟩
theorem Bc.inside{w:World}{mf:Nat}{fr:Int->Option Mp}(h:Bc w mf fr):mf<w.heap.size:=h.elim fun _ h=>h.1.inside
theorem Bc.below{w w':World}{mf:Nat}{fr:Int->Option Mp}(h:Bc w mf fr)(hb:bz w w'):Bc w' mf fr:=h.stays (hb.block _ h.inside)
theorem Bc.look{w:World}{mf:Nat}{fr:Int->Option Mp}(h:Bc w mf fr){i:Int}(hi:I64 i):(Instr.lookup iP (.map (some mf)) (.int .i64 i) true).run prog w=.ok (.tuple #[.agg (((fr i).getD Mp.o).cs).toArray,.bool (fr i).isSome]) w:=by
 obtain⟨es,h1,h2⟩:=h;have h3:=h1.look_ok uV (QX w) hi;rw[h2]at h3;cases e:fr i with
 |none=>rw[e]at h3;exact h3
 |some q=>rw[e]at h3;exact h3
theorem PE(n:Nd)(A:Option Addr)(c:Nat)(w:World):(Instr.field 77 (.agg (n.cs A c).toArray) 0).run prog w=.ok (.agg n.m.cs.toArray) w:=by kernel_rfl
theorem G9(n:Nd)(A:Option Addr)(c:Nat)(u:Mp)(w:World):(Instr.field qy (.agg (dZ n A c u).toArray) 1).run prog w=.ok (.agg u.cs.toArray) w:=by kernel_rfl
theorem Uk(q:Mp)(w:World):(Instr.buildSlice 252 1 #[(0,.agg q.cs.toArray)]).run prog w=.ok (.slice (some ⟨w.heap.size,0,none⟩) 1 1) (w.alloc (.cells q.cs.toArray 67)):=by kernel_rfl
def gu(x:aJ)(fr:Int->Option Mp)(i:Int):Mp×Int:=if i=0 then ((gX x i).m,0) else (gX x i).m.eP [(fr (par x.t i)).getD (fZ x (par x.t i))]
section
variable {w w':World}{g b m:Nat}{s:Sh}{Z:ZZ}{x:aJ}
theorem ak.MM(h:ak w g b m s Z x){i:Int}(hi:I64 i):∃A c,∀W,bz w W->(Instr.lookup eY (.map (some m)) (.int .i64 i) false).run prog W=.ok (.agg (dZ (gX x i) A c (fZ x i)).toArray) W:=by
 obtain⟨A,c,hl⟩:=h.zo hi;exact⟨A,c,fun W hb=>(hl W hb).1⟩
theorem Jo(h:ak w g b m s Z x)(i:Int)(hi:I64 i){mf:Nat}{fr:Int->Option Mp}(hf:Bc w mf fr) :
  Calls prog 77 #[.pointer (some ⟨g,0,none⟩),.int .i64 i,.map (some mf)] w (aZ (.tuple #[.agg ((gu x fr i).1.cs).toArray,.int .i64 (gu x fr i).2]) w):=by
 obtain⟨R,hR⟩:=aC (gu x fr i)
 have HR:=Hd hR;rw[hR];unfold gu at HR;obtain⟨A,c,hl⟩:=h.MM hi
 obtain⟨n,hn⟩:=aC (gX x i)
 obtain⟨u,hu⟩:=aC (fZ x i)
 obtain⟨p,hp⟩:=aC (par x.t i)
 rw[hn,hu]at hl;rw[hn,hp]at HR;have HL:=Hd hl;have HP:=Hd hp;have X3:Hid (I64 p):=by rw[←hp];exact DX h.tree.ok i
 have HS:=Hd h;have HF:=Hd hf;have HI:=Hd hi;have HB0:Hid (bz w (w.alloc (.cells Vd.toArray 67))):=bR.alloc nR _;have HZ0:Hid (az (w.alloc (.cells Vd.toArray 67)) w.heap.size Vd):=aA w Vd _;have iL:Hid ((w.alloc (.cells Vd.toArray 67)).heap.size=w.heap.size+1):=by show _=_;simp
 clear hR hl hn hu hp h hf hi;go_enter func77,ntmps77
 go_upto_region 1 with(fail)
 generalize (w.alloc (.cells Vd.toArray 67))=w0 at*;obtain⟨⟨-,-,-,-,-,c5⟩,i0⟩:=(HS.o.below HB0.o).top;have hlk:=HL.o w0 HB0.o;have hf1:=zQ n A c u w0;have hf2:=PE n A c w0;have HZ2:Hid (az (w0.alloc (.cells Vd.toArray 67)) w0.heap.size Vd):=aA w0 Vd _;have iO:Hid (Below w0.heap.size w0 (w0.alloc (.cells Vd.toArray 67))):=bR.alloc nR _
 go_upto_region 2 with(first|(with_reducible refine gS ?_;first|(refine ay 67 _ _ rfl rfl rfl _ 0 rfl (n.m.cs) rfl (Vd) HZ2.o (n.m.cs) rfl (nE rfl) ag (Mp.one1 _) ?_;intro w3 HW3 dM)))
 have HB3:Hid (Below w0.heap.size w0 w3):=HW3.o.below iO.o nR;have kZ:=Hd (HB0.o.trans (HB3.o.mono HB0.o.size));have HZ3:Hid (az w3 w.heap.size Vd):=HZ0.o.below' HB3.o
 have gQ:Hid (w.heap.size<w0.heap.size∧w0.heap.size<w3.heap.size):=⟨by have:=iL.o;omega,dM.o.inside⟩
 clear hlk hf1 hf2 c5 i0 HZ2 iO HW3 HZ0 HL
 obtain⟨k8,hk8⟩:=aC w0.heap.size
 rw[hk8]at dM gQ ⊢;clear hk8 iL;by_cases h0:i=0
 ·subst h0;have HE:Hid (R=(n.m,0)):=by show _=_;rw[←HR.o,if_pos rfl]
  clear HR;go_wp2_with (first|(with_reducible refine gL ?_;first|(refine wt 67 0 rfl rfl rfl dM.o (n.m.cs) rfl underlying67 rfl ?_))|(with_reducible refine gS ?_;first|(refine ay 67 _ _ rfl rfl rfl _ 0 rfl (n.m.cs) rfl (Vd) HZ3.o (n.m.cs) rfl (nE rfl) ag (Mp.one1 _) ?_;intro w4 xC nZ)));rw[HE.o];exact aS rfl rfl rfl nZ.o underlying67 rfl ag ⟨rfl,xC.o.below kZ.o nR⟩
 have t1:(i==0)=false:=by simpa using h0
 have HE:Hid (R=n.m.eP [(fr p).getD (fZ x p)]):=by show _=_;rw[←HR.o,if_neg h0]
 clear HR h0;have qO:=Hd (HS.o.below kZ.o);have Le:=Hd (xY qO.o.tree i HI.o);rw[HP.o]at Le;obtain⟨⟨c0,-,-,-,-,-⟩,i0⟩:=qO.o.top;have hinv:=oH (.pointer (some ⟨b,0,none⟩));go_wp2_with (fail);refine Le.o.mono ?_;rintro e w4 ⟨rfl,hb4⟩;have HB4:=Hd hb4;have jq:=Hd (kZ.o.trans (hb4.mono kZ.o.size));have nZ:Hid (az w4 k8 n.m.cs):=dM.o.below' hb4;have HZ4:Hid (az w4 w.heap.size Vd):=HZ3.o.below' hb4
 have HL4:Hid (w.heap.size<k8∧k8<w4.heap.size):=⟨gQ.o.1,Nat.lt_of_lt_of_le gQ.o.2 hb4.size⟩
 clear hb4 Le hinv c0 i0 qO dM HZ3 HB3 HB4 kZ gQ t1;have hlk:=(HF.o.below jq.o).look X3.o
 obtain⟨q,hq⟩:=aC ((fr p).getD Mp.o)
 rw[hq]at hlk;have HQ:=Hd hq;have HZ5:Hid (az (w4.alloc (.cells Vd.toArray 67)) w4.heap.size Vd):=aA w4 Vd _;have iO:Hid (Below w4.heap.size w4 (w4.alloc (.cells Vd.toArray 67))):=bR.alloc nR _;clear hq
 go_upto_region 6 with(first|(with_reducible refine gS ?_;first|(refine ay 67 _ _ rfl rfl rfl _ 0 rfl (q.cs) rfl (Vd) HZ5.o (q.cs) rfl (nE rfl) ag (Mp.one1 _) ?_;intro w5 yA uS)))
 have gI:Hid (Below w4.heap.size w4 w5):=yA.o.below iO.o nR;have VO:=Hd (jq.o.trans (gI.o.mono jq.o.size));have VB:Hid (az w5 k8 n.m.cs):=nZ.o.below' gI.o;have QO:Hid (az w5 w.heap.size Vd):=HZ4.o.below' gI.o
 obtain⟨k9,hk9⟩:=aC w4.heap.size
 have HL5:Hid (w.heap.size<k8∧k8<k9∧k9<w5.heap.size):=⟨HL4.o.1,by rw[←hk9];exact HL4.o.2,by rw[←hk9];exact uS.o.inside⟩
 rw[hk9]at uS ⊢;clear hlk HZ5 iO yA nZ HZ4 HL4 jq hk9 gI;cases hfr:(fr p) with
 |some q2=>
  obtain rfl:q2=q:=by have:=HQ.o;rw[hfr]at this;exact this
  have HE2:Hid (R=n.m.eP [q2]):=by show _=_;rw[HE.o,hfr];rfl
  clear hfr HE;have t3:(some q2:Option Mp).isSome=true:=rfl;go_wp2_with (first|(with_reducible refine gL ?_;first|(refine wt 67 0 rfl rfl rfl VB.o (n.m.cs) rfl underlying67 rfl ?_)|(refine wt 67 0 rfl rfl rfl uS.o (q2.cs) rfl underlying67 rfl ?_))|((with_reducible refine gB ?_);refine jv _ _ _ rfl rfl (by simp[go_sem]) (Uk q2 _) ?_))
  have hmr:AO (w5.alloc (.cells q2.cs.toArray 67)) (some ⟨w5.heap.size,0,none⟩) [q2]:=by
   have:=Gs w5 [q2] 67 rfl
   rwa [show([q2]:List Mp).flatMap Mp.cs=q2.cs from by simp]at this
  refine(Gt n.m _ [q2] 1 _ hmr (by simp)).mono ?_;rintro e w9 ⟨rfl,bD⟩;have hb8:bz w5 w9:=(bR.alloc nR _).trans (bD.mono (by simp));rw[show(n.m.eP [q2]).1.v=.agg (n.m.eP [q2]).1.cs.toArray from rfl];have uT:=Hd (VO.o.trans (hb8.mono VO.o.size));have HZ9:Hid (az w9 w.heap.size Vd):=QO.o.below' hb8;rw[←HE2.o];obtain⟨RM,RE⟩:=R;clear hmr bD hb8
  dsimp only
  go_wp2_with (first|(with_reducible refine gS ?_;first|(refine ay 67 _ _ rfl rfl rfl _ 0 rfl (RM.cs) rfl (Vd) HZ9.o (RM.cs) rfl (nE rfl) ag (Mp.one1 _) ?_;intro wz HWz HKz)));exact aS rfl rfl rfl HKz.o underlying67 rfl ag ⟨rfl,HWz.o.below uT.o nR⟩
 |none=>
  obtain rfl:Mp.o=q:=by have:=HQ.o;rw[hfr]at this;exact this
  have HE2:Hid (R=n.m.eP [fZ x p]):=by show _=_;rw[HE.o,hfr];rfl
  clear hfr HE HQ;have t3:(none:Option Mp).isSome=false:=rfl;obtain⟨A6,c6,hl6⟩:=HS.o.MM X3.o
  obtain⟨n6,YV⟩:=aC (gX x p)
  obtain⟨u6,JM⟩:=aC (fZ x p)
  have hlk:=hl6 w5 VO.o;rw[YV,JM]at hlk;rw[JM]at HE2;have hf3:=G9 n6 A6 c6 u6 w5;obtain⟨⟨-,-,-,-,-,c5⟩,i0⟩:=(HS.o.below VO.o).top;clear hl6 YV JM
  go_upto_region 8 with(first|(with_reducible refine gS ?_;first|(refine ay 67 _ _ rfl rfl rfl _ 0 rfl (u6.cs) rfl (Mp.o.cs) uS.o (u6.cs) rfl (nE rfl) ag (Mp.one1 _) ?_;intro w6 uG E8)))
  have a3C:Hid (bz w w6):=uG.o.below VO.o (by have:=HL5.o;omega);have a4E:Hid (az w6 k8 n.m.cs):=uG.o.blk (by have:=HL5.o;omega) VB.o;have HZ6:Hid (az w6 w.heap.size Vd):=uG.o.blk (by have:=HL5.o;omega) QO.o;clear hlk hf3 c5 i0 uG VB QO uS
  go_wp2_with (first|(with_reducible refine gL ?_;first|(refine wt 67 0 rfl rfl rfl a4E.o (n.m.cs) rfl underlying67 rfl ?_)|(refine wt 67 0 rfl rfl rfl E8.o (u6.cs) rfl underlying67 rfl ?_))|((with_reducible refine gB ?_);refine jv _ _ _ rfl rfl (by simp[go_sem]) (Uk u6 _) ?_))
  have hmr:AO (w6.alloc (.cells u6.cs.toArray 67)) (some ⟨w6.heap.size,0,none⟩) [u6]:=by
   have:=Gs w6 [u6] 67 rfl
   rwa [show([u6]:List Mp).flatMap Mp.cs=u6.cs from by simp]at this
  refine(Gt n.m _ [u6] 1 _ hmr (by simp)).mono ?_;rintro e w9 ⟨rfl,bD⟩;have hb8:bz w6 w9:=(bR.alloc nR _).trans (bD.mono (by simp));rw[show(n.m.eP [u6]).1.v=.agg (n.m.eP [u6]).1.cs.toArray from rfl];have uT:=Hd (a3C.o.trans (hb8.mono a3C.o.size));have HZ9:Hid (az w9 w.heap.size Vd):=HZ6.o.below' hb8;rw[←HE2.o];obtain⟨RM,RE⟩:=R;clear hmr bD hb8
  dsimp only
  go_wp2_with (first|(with_reducible refine gS ?_;first|(refine ay 67 _ _ rfl rfl rfl _ 0 rfl (RM.cs) rfl (Vd) HZ9.o (RM.cs) rfl (nE rfl) ag (Mp.one1 _) ?_;intro wz HWz HKz)));exact aS rfl rfl rfl HKz.o underlying67 rfl ag ⟨rfl,HWz.o.below uT.o nR⟩
end
end
section
open Go.RowKit aF xk Go.Shelf
attribute [local go_sem] Oper.semAt_some
theorem Kv(A:Option Addr)(n c:Nat)(w:World):Calls prog 75 #[.slice A n c] w fun e w'=>e=.returned (.func (.func 99) #[] #[.pointer (some ⟨w.heap.size,0,none⟩)])∧w'=w.alloc (.cells #[.slice A n c] 185):=by
 go_enter func75,ntmps75;go_wp2_with (fail);go_ret;exact⟨rfl,rfl⟩
structure o6(bx:Nat)(A:Option Addr)(c:Nat)(l:List Value)(W:World):Prop where
 box:W.cell? ⟨bx,0,none⟩=some (.slice A l.length c)
 at_:∀j (hj:j<l.length),∃g,A=some ⟨g,0,none⟩∧W.cell? ⟨g,j,none⟩=some (l[j])
theorem o6.bk{bx:Nat}{A:Option Addr}{c:Nat}{l:List Value}{W W':World}{B:Nat}(h:o6 bx A c l W)(hb:Bk B W W'):o6 bx A c l W':=
 ⟨eG hb h.box,fun j hj=>by
  obtain⟨g,e,hc⟩:=h.at_ j hj
  exact⟨g,e,eG hb hc⟩⟩
def oL(l:List Value):List (Array Value):=(List.range l.length).map fun j=>#[.int .i64 ((l.length:Int) - 1 - (j:Nat)),(l.getD (l.length - 1 - j) undef)]
theorem lS(l:List Value):(oL l).length=l.length:=by simp[oL]
theorem Dj(l:List Value){j:Nat}(hj:j<(oL l).length):(oL l)[j]=#[.int .i64 ((l.length:Int) - 1 - (j:Nat)),(l.getD (l.length - 1 - j) undef)]:=by simp[oL]
theorem Ku{bx:Nat}{A:Option Addr}{c:Nat}{l:List Value}{W:World}(hl:l.length<=100000)(h:o6 bx A c l W) :
  uF prog 99 #[.pointer (some ⟨bx,0,none⟩)] (oL l) (fun _=>Eq) (fun A' B=>o6 bx A c l A'->o6 bx A c l B) W:=by
 intro lp J Jx _ _ hY h0;have HY:=Hd hY;have HL:=Hd hl;have c0:=h.box;have HB:=Hd h;clear hY hl h;refine(callsIn_wide (n:=0)).1 (callsIn_of_wp func99 rfl trivial ?_ rfl);simp only[ntmps99,List.size_toArray,List.length_cons,List.length_nil,Nat.reduceAdd,Nat.reduceSub,Array.replicate_succ,Array.replicate_zero,List.push_toArray,List.append_toArray,List.nil_append,List.cons_append];have hlb:(l.length:Int)<=100000:=by have:=HL.o;omega
 gi_wp2_with (fail)
 gi_loopw [3] (fun x wr=>∃j:Nat,j<=l.length∧x=.int .i64 ((l.length:Int) - 1 - (j:Nat))∧Hid (J j wr)∧Hid (o6 bx A c l wr)) (fun x _=>(intOf x+1).toNat)
 case atStart=>exact⟨0,Nat.zero_le _,by simp,h0,HB⟩
 case round=>
  obtain⟨j,hj,rfl,HJ,HK⟩:=hrel;by_cases hlt:j<l.length
  ·have hlt':j<(oL l).length:=by rw[lS];exact hlt
   obtain⟨fn,tmps,assign,body,hy,hR⟩:=HY.o j hlt' wr HJ.o;rw[Dj]at hy
   obtain⟨m,hm⟩:=aC (l.length - 1 - j)
   have e:(l.length:Int) - 1 - (j:Nat)=(m:Nat):=by omega
   have hml:m<l.length:=by omega
   have e2:((m:Nat):Int) - 1=(l.length:Int) - 1 - ((j+1:Nat):Int):=by omega
   obtain⟨g,rA,k1⟩:=HK.o.at_ m hml;rw[hm,List.getD_eq_getElem?_getD,List.getElem?_eq_getElem hml,Option.getD_some]at hy;have cb:=HK.o.box;subst rA;rw[e]at hy ⊢;generalize l[m]=x at*;have hmb:((m:Nat):Int)<=100000:=by omega
   have HE2:=Hd e2;have HM:=Hd hm;have HR:=Hd hR;clear e e2 hm hR
   gi_wp2_with (fail)
   refine⟨rfl,HR.o.mono ?_⟩;rintro e W3 ⟨-,(⟨rfl,hJ3,hk3⟩|⟨rfl,hJx3⟩)⟩
   ·have HB3:Hid (o6 bx (some ⟨g,0,none⟩) c l W3):=hk3 HK.o;have uI:=Hd hJ3;clear hJ3 hk3 HJ HK
    gi_wp2_with (fail)
    go_roundw
    case rel=>exact⟨j+1,by omega,by rw[←HE2.o],uI,HB3⟩
    case measure=>simp[intOf]
   ·have uI:=Hd hJx3;clear hJx3 HJ HK
    gi_wp2_with (fail)
    refine bodyPost_ret (results_none rfl _ _ _) rfl ?_;exact⟨⟨_,rfl⟩,.inr ⟨j+1,by rw[lS];omega,uI.o⟩⟩
  ·have e:(l.length:Int) - 1 - (j:Nat)=-1:=by omega
   obtain rfl:j=l.length:=by omega
   have HJ2:Hid (J (oL l).length wr):=by rw[lS];exact HJ
   rw[e];clear e HJ HK
   gi_wp2_with (fail)
   go_end0
   exact⟨⟨_,rfl⟩,.inl HJ2.o⟩
end
section
open Go.RowKit fG gm aF Go.Maps
def eqN(n1 n2:Nd):Bool:=a3W n1.m n1.op n1.hi n1.cl n1.r n2.m n2.op n2.hi n2.cl n2.r (a3X n1.lk.k n1.lk.W n1.lk.H n1.lk.p n1.lk.iw n1.lk.ih n1.lk.l n2.lk.k n2.lk.W n2.lk.H n2.lk.p n2.lk.iw n2.lk.ih n2.lk.l)
end
section
open Go.RowKit fG gm aF Go.Maps
def LJ(m:Mp)(w:Option Mp):Option Mp:=w.bind fun w=>if (m.eP [w]).2=0 then some (m.eP [w]).1 else none
def aN(t:T)(nd:Int->Nd)(i:Int):Option Mp:=(line t i).foldr (fun j w=>LJ (nd j).m w) (some (nd 0).m)
theorem jQ(t:T)(nd:Int->Nd):aN t nd 0=some (nd 0).m:=by unfold aN;rw[kJ];rfl
theorem kM{t:T}(ok:Ok t)(nd:Int->Nd){i:Int}(hi:i∈ids t):aN t nd i=LJ (nd i).m (aN t nd (par t i)):=by
 unfold aN;rw[dJ ok hi];rfl
theorem OX{t t':T}(ok:Ok t)(ok':Ok t'){i:Int}(hi:i=0∨i∈ids t')(h:∀j∈line t' i,j∈ids t∧par t' j=par t j):line t' i=line t i:=by
 refine ok'.pV (P:=fun i=>(∀j∈line t' i,j∈ids t∧par t' j=par t j)->line t' i=line t i) (fun _=>by rw[kJ,kJ]) (fun i hi ih hs=>?_) hi h;rw[dJ ok' hi]at hs ⊢;obtain⟨h1,h2⟩:=hs i List.mem_cons_self;rw[dJ ok h1,ih fun j hj=>hs j (List.mem_cons_of_mem _ hj),h2]
theorem DC{t t':T}{nd ET:Int->Nd}{i:Int}(h1:line t' i=line t i)(h0:(ET 0).m=(nd 0).m)(h2:∀j∈line t i,(ET j).m=(nd j).m):aN t' ET i=aN t nd i:=by
 unfold aN;rw[h1,h0];generalize some (nd 0).m=z
 revert h2
 generalize line t i=l;intro h2
 induction l with
 |nil=>rfl
 |cons j l ih=>
  rw[List.foldr_cons,List.foldr_cons,h2 j List.mem_cons_self,ih fun k hk=>h2 k (List.mem_cons_of_mem _ hk)]
def dC(x:aJ)(S:Int->Prop):Prop:=∀i,has x.t i=true->(∀j∈line x.t i,¬S j)->¬S 0->aN x.t x.nd i=some (x.ws i)
theorem dC.step{x y:aJ}{S S':Int->Prop}(h:dC x S)(ok:Ok x.t)(ok':Ok y.t)(hS:∀j,S j->S' j)
  (hs:∀j,has y.t j=true->¬S' j->has x.t j=true∧(j≠0->par y.t j=par x.t j)∧(y.nd j).m=(x.nd j).m∧y.ws j=x.ws j):dC y S':=by
 intro i hi hl h0;have hh:=ah.1 hi
 have hj:∀j∈line y.t i,j∈ids x.t∧par y.t j=par x.t j∧(y.nd j).m=(x.nd j).m:=fun j hj=>by
  have h1:=tY ok' hh hj;obtain⟨h2,h3,h4,-⟩:=hs j (ah.2 (.inr h1)) (hl j hj);have hn:=ok'.uK h1;exact⟨(ah.1 h2).resolve_left hn,h3 hn,h4⟩
 have e:=OX ok ok' hh fun j hj'=>⟨(hj j hj').1,(hj j hj').2.1⟩
 have hr:=hs 0 (ah.2 (.inl rfl)) h0
 have hi2:¬S' i:=by
  rcases hh with e0|e0
  ·rw[e0];exact h0
  ·exact hl i (by rw[dJ ok' e0];exact List.mem_cons_self)
 have h5:=hs i hi hi2;rw[DC e hr.2.2.1 fun j hj'=>(hj j (by rw[e];exact hj')).2.2,h i h5.1 (fun j hj' k=>hl j (by rw[e];exact hj') (hS j k)) fun k=>h0 (hS 0 k),h5.2.2.2]
def touch(o:dH):Prop:=o.k=1∨o.k=3∨o.k=4
theorem En{M:Int}{x:aJ}(ok:Ok x.t)(o:dH):Ok (eU M x o).1.t:=by
 unfold eU;split
 ·unfold dV;split
  ·exact ok
  ·split
   ·exact ok
   ·exact(qM ok _ _ _).1
 split
 ·unfold fJ;split
  ·exact ok
  ·exact(sW ok _).1
 split
 ·unfold lK;split
  ·exact ok
  ·exact(qE ok _ _ _).1
 split
 ·unfold kQ;split
  ·exact ok
  ·split<;>exact ok
 ·exact ok
theorem ZJ{n:Nd}{o:dH}(h:o.k≠4):(bT n o).m=n.m:=by
 unfold bT;rw[if_neg h];split
 ·rfl
 split
 ·rfl
 split
 ·rfl
 split<;>rfl
theorem dC.op{M:Int}{x:aJ}{S:Int->Prop}(h:dC x S)(ok:Ok x.t){o:dH}(hz:(eU M x o).2=0):dC (eU M x o).1 fun j=>S j∨(j=o.i∧touch o):=by
 refine h.step ok (En ok o) (fun j hj=>.inl hj) fun j hj hn=>?_;have hn2:touch o->j≠o.i:=fun ht e=>hn (.inr ⟨e,ht⟩);clear hn h;unfold eU at hz hj ⊢;by_cases h1:o.k=1
 ·rw[if_pos h1]at hz hj ⊢;have hne:=hn2 (.inl h1);unfold dV at hz hj ⊢;by_cases e1:(gJ x.t o.i o.p o.n).2≠0
  ·rw[if_pos e1]at hz;exact absurd hz e1
  rw[if_neg e1]at hz hj ⊢;by_cases e2:M<((x.t.length+2:Nat):Int)
  ·rw[if_pos e2]at hz;cases hz
  rw[if_neg e2]at hj ⊢
  obtain⟨⟨t',e0⟩,ht⟩:∃q,gJ x.t o.i o.p o.n=q:=⟨_,rfl⟩
  have h0:e0=0:=by rw[ht]at e1;simpa using e1
  subst h0;obtain⟨b1,b2,b3,b4,b5,b6⟩:=qN ok ht;rw[ht]at hj ⊢;simp only at hj ⊢;have hw:Ok (gone [o.i] t'):=by have:=Ok.gone b1 b2;rwa [b5]at this
  have hp:=Dq hw ok b6 j;rw[yX b1.nd,if_neg (by simpa using hne)]at hp;exact⟨((b4 j).1 hj).resolve_left hne,fun _=>hp,by rw[upd_ne _ hne],upd_ne _ hne _⟩
 rw[if_neg h1]at hz hj ⊢;by_cases h2:o.k=2
 ·rw[if_pos h2]at hz hj ⊢;unfold fJ at hz hj ⊢;by_cases e1:(jF x.t o.i).2.2≠0
  ·rw[if_pos e1]at hz;exact absurd hz e1
  rw[if_neg e1]at hj ⊢;obtain⟨hi,hr⟩:=yS (by simpa using e1);rw[hr]at hj ⊢;simp only at hj ⊢;have hh:=(zH ok hi).1 hj;refine⟨hh.2,fun _=>?_,by simp⟩;rw[yX ok.nd,if_neg hh.1]
 rw[if_neg h2]at hz hj ⊢;by_cases h3:o.k=3
 ·rw[if_pos h3]at hz hj ⊢;have hne:=hn2 (.inr (.inl h3));unfold lK at hz hj ⊢;by_cases e1:(jT x.t o.i o.p o.n).2≠0
  ·rw[if_pos e1]at hz;exact absurd hz e1
  rw[if_neg e1]at hj ⊢;obtain⟨m1,m2,m3⟩:=zk (by simpa using e1);rw[m1]at hj ⊢;simp only at hj ⊢;refine⟨?_,fun _=>?_,by simp⟩
  ·rw[ah,iJ m2,←ah]at hj;exact hj
  ·rw[tJ ok.nd,if_neg hne]
 rw[if_neg h3]at hz hj ⊢;by_cases h4:4<=o.k∧o.k<=8
 ·rw[if_pos h4]at hz hj ⊢;unfold kQ at hz hj ⊢;by_cases e1:has x.t o.i=false
  ·rw[if_pos e1]at hz;cases hz
  rw[if_neg e1]at hz hj ⊢;by_cases e2:(bT Nd.plain o).chk≠0
  ·rw[if_pos e2]at hz;exact absurd hz e2
  rw[if_neg e2]at hj ⊢;refine⟨hj,fun _=>rfl,?_,rfl⟩;simp only;by_cases e3:j=o.i
  ·rw[e3,upd_same];exact ZJ fun e4=>hn2 (.inr (.inr e4)) e3
  ·rw[upd_ne _ e3]
 ·rw[if_neg h4]at hz;cases hz
theorem dC.mono{x:aJ}{S S':Int->Prop}(h:dC x S)(hs:∀j,S j->S' j):dC x S':=fun i hi hl h0=>h i hi (fun j hj k=>hl j hj (hs j k)) fun k=>h0 (hs 0 k)
theorem yx{M:Int}:∀(l:List dH) {x:aJ},Ok x.t->Ok (aO M x l).1.t
 |[],_,ok=>ok
 |o::l,x,ok=>by
  rw[bW];split
  ·exact ok
  ·exact yx l (En ok o)
theorem Am{M:Int}:∀(l:List dH) {x:aJ},(∀o∈l,kK o)->(∀i,Fit (x.nd i))->∀i,Fit ((aO M x l).1.nd i)
 |[],_,_,h=>h
 |o::l,x,ho,h=>by
  rw[bW];split
  ·exact h
  ·exact Am l (fun o' h'=>ho o' (List.mem_cons_of_mem _ h')) (Nl h (ho o List.mem_cons_self))
theorem Ak{M:Int}:∀(l:List dH) {x:aJ},Ok x.t->(aO M x l).1.t.length<=x.t.length+l.length
 |[],_,_=>nR
 |o::l,x,ok=>by
  rw[bW];split
  ·simp only;omega
  ·have h1:=Eo (M:=M) ok o;have h2:=Ak (M:=M) l (En (M:=M) ok o);simp only[List.length_cons];omega
theorem dC.all{M:Int}:∀(l:List dH) {x:aJ} {S:Int->Prop},Ok x.t->dC x S->(aO M x l).2.2=0->dC (aO M x l).1 fun j=>S j∨∃o∈l,j=o.i∧touch o
 |[],x,S,_,h,_=>h.mono fun j hj=>.inl hj
 |o::l,x,S,ok,h,hz=>by
  rw[bW]at hz ⊢;by_cases e:(eU M x o).2≠0
  ·rw[if_pos e]at hz;exact absurd hz e
  rw[if_neg e]at hz ⊢;refine(dC.all l (En ok o) (h.op ok (by simpa using e)) hz).mono fun j hj=>?_;rcases hj with(hj|hj)|⟨o',h1,h2⟩
  ·exact .inl hj
  ·exact .inr ⟨o,List.mem_cons_self,hj⟩
  ·exact .inr ⟨o',List.mem_cons_of_mem _ h1,h2⟩
end
end Go.Proofs.YthmegninhpihkaaGreat
