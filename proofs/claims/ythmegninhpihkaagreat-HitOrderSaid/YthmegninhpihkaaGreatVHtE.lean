import Derived.Test.YthmegninhpihkaaGreatVHtA
set_option maxHeartbeats 16000000
set_option maxRecDepth 100000
open Go.Proofs.Tryz
namespace Go.Proofs.YthmegninhpihkaaGreat
section
open Go.RowKit aF xk Go.Shelf
attribute [local go_sem] Oper.semAt_some
theorem Nz{n:Nat}{A B:World}(hb:bz A B):Bk n A B:=⟨hb.os,hb.tape,hb.output,hb.size,fun k hk=>.inl (hb.block k hk)⟩
def IZ(sb:Nat)(A B:World):Prop:=A.heap.size<=B.heap.size∧∀v,A.cell? ⟨sb,0,none⟩=some v ->
 (∃v',B.cell? ⟨sb,0,none⟩=some v'∧(v'.ownBlock=v.ownBlock∨∃g,v'.ownBlock=some g∧A.heap.size<=g))∧∀a u,A.cell? a=some u->a.block≠sb->v.ownBlock≠some a.block->B.cell? a=some u
theorem IZ.trans{sb:Nat}{A B C:World}(h:IZ sb A B)(k:IZ sb B C):IZ sb A C:=⟨Nat.le_trans h.1 k.1,fun v hv=>by
 obtain⟨⟨v1,hv1,h1⟩,h2⟩:=h.2 v hv;obtain⟨⟨v2,hv2,k1⟩,k2⟩:=k.2 v1 hv1;refine⟨⟨v2,hv2,?_⟩,fun a u ha hne ho=>k2 a u (h2 a u ha hne ho) hne fun e=>?_⟩
 ·rcases k1 with e|⟨g,e,hg⟩
  ·rw[e];exact h1
  ·exact .inr ⟨g,e,Nat.le_trans h.1 hg⟩
 ·have hlt:=World.block_lt_of_cell? A a ha;rcases h1 with e1|⟨g,e1,hg⟩
  ·exact ho (e1 ▸ e)
  ·rw[e1]at e;have:=Option.some.inj e
   omega⟩
theorem IZ.bk{sb B:Nat}{A A':World}(h:Bk B A A'):IZ sb A A':=⟨h.size,fun v hv=>⟨⟨v,eG h hv,.inl rfl⟩,fun _ _ ha _ _=>eG h ha⟩⟩
structure wG(sb:Nat)(w0 W:World):Prop where
 size:w0.heap.size<=W.heap.size
 keep:∀a u,w0.cell? a=some u->a.block≠sb->W.cell? a=some u
 var:∃v,W.cell? ⟨sb,0,none⟩=some v∧∀g,v.ownBlock=some g->w0.heap.size<=g
theorem wG.bk{sb B:Nat}{w0 A A':World}(h:wG sb w0 A)(hb:Bk B A A'):wG sb w0 A':=⟨Nat.le_trans h.size hb.size,fun a u ha hne=>eG hb (h.keep a u ha hne),by
 obtain⟨v,hv,ho⟩:=h.var
 exact⟨v,eG hb hv,ho⟩⟩
theorem wG.next{sb:Nat}{w0 A A':World}(h:wG sb w0 A)(hk:IZ sb A A'):wG sb w0 A':=by
 obtain⟨v,hv,ho⟩:=h.var;obtain⟨⟨v',hv',h1⟩,h2⟩:=hk.2 v hv;refine⟨Nat.le_trans h.size hk.1,fun a u ha hne=>h2 a u (h.keep a u ha hne) hne fun e=>?_,v',hv',fun g e=>?_⟩
 ·have:=World.block_lt_of_cell? w0 a ha;have:=ho _ e;omega
 ·rcases h1 with e1|⟨g',e1,hg⟩
  ·exact ho g (e1 ▸ e)
  ·rw[e1]at e;have:=Option.some.inj e;have:=h.size;omega
theorem yP{α:Type}{k sb:Nat}{enc:α->List Value}{w w':World}{A:Option Addr}{l:List α}(h:aV k enc w A l)(hk:wG sb w w')(hne:∀a,A=some a->l≠[]->a.block≠sb):aV k enc w' A l:=fun hn=>by
 obtain⟨b,o,e,hc⟩:=h hn;have hl:l≠[]:=fun e=>by rw[e]at hn;exact absurd hn (by simp)
 exact⟨b,o,e,fun j hj i u hu=>hk.keep _ _ (hc j hj i u hu) (hne ⟨b,o,none⟩ e hl)⟩
theorem Oo{α:Type}{sb:Nat}{enc:α->Value}{w w':World}{A:Option Addr}{l:List α}(h:Row enc w A l)(hk:wG sb w w')(hne:∀a,A=some a->l≠[]->a.block≠sb):Row enc w' A l:=fun hn=>by
 obtain⟨b,o,e,hc⟩:=h hn;have hl:l≠[]:=fun e=>by rw[e]at hn;exact absurd hn (by simp)
 exact⟨b,o,e,fun j hj=>hk.keep _ _ (hc j hj) (hne ⟨b,o,none⟩ e hl)⟩
def hits(L:List It)(X Y:Int):List Int:=if MC [X,Y]=true then (L.reverse.filter (·.covers X Y)).map (·.i) else []
def pM(l:List Int):List (Array Value):=l.map fun i=>#[.int .i64 i]
theorem MZ{l:List Int}{k:Nat}(h:k<(pM l).length):(pM l)[k]=#[.int .i64 (l.getD k 0)]:=by
 unfold pM at h ⊢;rw[List.length_map]at h;rw[List.getElem_map,List.getD_eq_getElem?_getD,List.getElem?_eq_getElem h];rfl
theorem Rf{L:List It}{p:It->Bool}{j:Nat}(hj:j<L.length)(hp:p L[j]=true):∃h:((L.take j).filter p).length<(pM ((L.filter p).map (·.i))).length,(pM ((L.filter p).map (·.i)))[((L.take j).filter p).length]=#[.int .i64 L[j].i]:=by
 have h:=Py p hj hp;obtain⟨h1,h2⟩:=List.getElem?_eq_some_iff.1 h;refine⟨by simpa[pM]using h1,?_⟩;simp only[pM,List.getElem_map];rw[h2]
theorem CZ(g:Nat)(X Y:Int)(w:World):Calls prog 34 #[.pointer (some ⟨g,0,none⟩),.int .i64 X,.int .i64 Y] w fun e w'=>e=.returned (.func (.func 61) #[] #[.pointer (some ⟨w.heap.size+1,0,none⟩),.pointer (some ⟨w.heap.size+2,0,none⟩),.pointer (some ⟨w.heap.size,0,none⟩)]) ∧
  w'=((w.alloc (.cells #[.pointer (some ⟨g,0,none⟩)] 25)).alloc (.cells #[.int .i64 X] 3)).alloc (.cells #[.int .i64 Y] 3):=by
 go_enter func34,ntmps34;go_wp2_with (fail);go_ret;exact⟨rfl,rfl⟩
structure Au(W:World)(bx b9 bp g:Nat)(X Y:Int):Prop where
 x:W.cell? ⟨bx,0,none⟩=some (.int .i64 X)
 y:W.cell? ⟨b9,0,none⟩=some (.int .i64 Y)
 p:W.cell? ⟨bp,0,none⟩=some (.pointer (some ⟨g,0,none⟩))
theorem Au.keep{W W':World}{bx b9 bp g:Nat}{X Y:Int}(h:Au W bx b9 bp g X Y)(hk:∀a u,W.cell? a=some u->a.block=bx∨a.block=b9∨a.block=bp->W'.cell? a=some u):Au W' bx b9 bp g X Y:=
 ⟨hk _ _ h.x (.inl rfl),hk _ _ h.y (.inr (.inl rfl)),hk _ _ h.p (.inr (.inr rfl))⟩
theorem Au.below{W W':World}{bx b9 bp g:Nat}{X Y:Int}(h:Au W bx b9 bp g X Y)(hb:bz W W'):Au W' bx b9 bp g X Y:=h.keep fun _ _ ha _=>(hb.cell (World.block_lt_of_cell? W _ ha)).trans ha
def DI:TypeId:=58
theorem CY{W:World}{g b m:Nat}{s:Sh}{Z:ZZ}{x:aJ}{bx b9 bp sb:Nat}{X Y:Int}{v0:Value}(h:ak W g b m s Z x)(hx:lV x)(hn:x.t.length<=900)(ht:Au W bx b9 bp g X Y)(hv:W.cell? ⟨sb,0,none⟩=some v0)(ho:v0.ownBlock=none)(hne:bx≠sb∧b9≠sb∧bp≠sb) :
  uF prog 61 (Vt bx b9 bp).toArray (pM (hits (items x) X Y)) (fun n=>Bk n) (IZ sb) W:=by
 intro lp J Jx hJR a19 hY h0;have HY:=Hd hY;have HJR:=Hd hJR;have a3i:=Hd a19;have HS:=Hd h;have HX:=Hd hx;have HN:=Hd hn;have HT:=Hd ht;have HV:=Hd (And.intro hv (And.intro ho hne));have AY:=Hd h0;clear hJR a19 hY h0 h hx hn ht hv ho hne;refine bQ func61 rfl ?_;simp only[ntmps61,List.size_toArray,List.length_cons,List.length_nil,Nat.reduceAdd,Nat.reduceSub,Array.replicate_succ,Array.replicate_zero,List.push_toArray,List.append_toArray,List.nil_append,List.cons_append]
 have HB0:Hid (Below W.heap.size W (W.alloc (.cells #[.func (.yield lp) #[] #[]] DI))):=bR.alloc nR _;have Zv:Hid (au (W.alloc (.cells #[.func (.yield lp) #[] #[]] DI)) W.heap.size [.func (.yield lp) #[] #[]] DI):=au.new W [.func (.yield lp) #[] #[]] _;unfold DI at HB0 Zv
 go_upto_region 1 with(fail)
 generalize (W.alloc (.cells #[.func (.yield lp) #[] #[]] 58))=w0 at*
 obtain⟨fb,hfb⟩:=aC W.heap.size
 have HFB:=Hd hfb;rw[hfb]at Zv ⊢;clear hfb;obtain⟨cx,cy,cp⟩:=HT.o.below HB0.o;have ix:=World.block_lt_of_cell? w0 _ cx;have iy:=World.block_lt_of_cell? w0 _ cy
 have I9:=Hd (WZ [X,Y] (some ⟨w0.heap.size,0,none⟩) 2 (w0.alloc (.cells #[.int .i64 X,.int .i64 Y] 3)) (fun _=>⟨_,0,rfl,fun j hj=>by
  have hb:=(aA w0 [.int .i64 X,.int .i64 Y] 3).cell
  match j,hj with
  |0,_=>exact hb 0
  |1,_=>exact hb 1⟩) (by simp))
 go_wp2_with (fail);refine I9.o.mono ?_;rintro e w1 ⟨rfl,hb1⟩;have HB1:Hid (bz w0 w1):=(bR.alloc nR _).trans (hb1.mono (by simp));clear hb1 I9 cx cy cp ix iy;have Lu:Hid (Below W.heap.size W w1):=HB0.o.trans (HB1.o.mono HB0.o.size);have Zu:=Hd (Zv.o.stays (HB1.o.block _ Zv.o.inside));obtain⟨cx,cy,cp⟩:=HT.o.below Lu.o;have ip:=World.block_lt_of_cell? w1 _ cp;have HHE:Hid (hits (items x) X Y=if MC [X,Y]=true then ((items x).reverse.filter (·.covers X Y)).map (·.i) else []):=rfl
 have HOX:Hid (MC [X,Y]=true->(-32768<=X∧X<=32767)∧-32768<=Y∧Y<=32767):=fun h=>by
  simp[MC]at h;omega
 generalize MC [X,Y]=ok at*;cases ok with
 |false=>
  have HE:Hid (hits (items x) X Y=[]):=HHE.o;clear cx cy cp ip;go_wp2_with (fail)
  refine dG W.heap.size trivial fun w' hb=>⟨_,results_none rfl _ _ _,⟨_,rfl⟩,.inl ?_⟩
  rw[HE.o];exact HJR.o _ _ _ (HJR.o _ _ _ AY.o (Nz Lu.o)) hb
 |true=>
  have HE:Hid (hits (items x) X Y=((items x).reverse.filter (·.covers X Y)).map (·.i)):=HHE.o;have HXY:=Hd (HOX.o rfl);have HLI:=Hd (SL (HS.o.below Lu.o) HX.o HN.o);clear HHE cx cy HB0 HB1 Zv HOX;go_wp2_with (fail);refine HLI.o.mono ?_;unfold UD;rintro e w2 ⟨A,c,l,rfl,hrow,hqs,hmap,hrb,hb2⟩;have Yt:Hid (Below W.heap.size W w2):=Lu.o.trans (hb2.mono Lu.o.size);have HF2:=Hd (Zu.o.stays (hb2.block _ Zu.o.inside));have AU:=Hd hrow;have Zm:=Hd hqs;have EH:=Hd hmap;have EW:=Hd hrb;have HSW:Hid (W.heap.size<=w1.heap.size):=Lu.o.size
  clear hrow hqs hmap hrb hb2 HLI cp ip Zu;go_wp2_with (fail);refine(Ky A l.length c w2).mono ?_;rintro e w3 ⟨rfl,hw3⟩;have hb3:Below w2.heap.size w2 w3:=by rw[hw3];exact bR.alloc nR _
  have yD:Hid (uJ w2.heap.size A c l w3):=⟨by rw[hw3];exact(au.new w2 [.slice A l.length c] _).blk.cell 0,aV.below AU.o hb3⟩
  have AZ:Hid (Below W.heap.size W w3):=Yt.o.trans (hb3.mono Yt.o.size);have HF3:=Hd (HF2.o.stays (hb3.block _ HF2.o.inside))
  have ny:Hid (∀q∈l,qR w3 q∧q.it.Ok):=fun q hq=>⟨(Zm.o q hq).1.below hb3,(Zm.o q hq).2.1⟩
  obtain⟨bb,hbb⟩:=aC w2.heap.size
  rw[hbb]at yD ⊢;have IV:Hid (sb<bb):=by have:=World.block_lt_of_cell? W _ HV.o.1;have:=Yt.o.size;show _<_;simp at*;omega
  have HVS:Hid (sb<W.heap.size):=World.block_lt_of_cell? W _ HV.o.1
  have HIL:Hid (l.length<=1000):=by
   have h1:=congrArg List.length EH.o;rw[List.length_map]at h1;have h2:(items x).length<=(aF.walk x.t 0).length:=List.length_filterMap_le _ _;have h3:=sO HX.o.ok;have h4:=HN.o;show _<=_;omega
  clear hw3 hb3 hbb HF2;generalize hL:(items x).reverse=L at*
  have ql:Hid (L.length=l.length):=by
   show _=_;rw[←hL,List.length_reverse,←EH.o,List.length_map]
  have HLQ:Hid (∀j (h:j<l.length),∃h2:j<L.length,(l[l.length - 1 - j]'(by omega)).it=L[j]):=fun j h=>by
   refine⟨by rw[ql.o];exact h,?_⟩;subst hL;rw[List.getElem_reverse];have h1:=EH.o;have h2:(items x).length=l.length:=by rw[←h1,List.length_map]
   have h3:(items x)[(items x).length - 1 - j]?=some (l[l.length - 1 - j]'(by omega)).it:=by
    rw[←h1,List.length_map,List.getElem?_map,List.getElem?_eq_getElem (by omega)];rfl
   exact(Option.some.inj ((List.getElem?_eq_getElem (by omega)).symm.trans h3)).symm
  have oh:Hid (wG sb w3 w3):=⟨nR,fun _ _ h _=>h,v0,(AZ.o.cell HVS.o).trans HV.o.1,fun g e=>by rw[HV.o.2.1]at e;cases e⟩
  have Zi:Hid (∀W',wG sb w3 W'->Au W' bx b9 bp g X Y∧uJ bb A c l W'∧(∀q∈l,qR W' q)∧W'.cell? ⟨fb,0,none⟩=some (.func (.yield lp) #[] #[])):=fun W' hk=>by
   have hn:=HV.o.2.2;refine⟨(HT.o.below AZ.o).keep fun a u ha hb=>hk.keep a u ha ?_,⟨hk.keep _ _ yD.o.box ?_,yP yD.o.row hk fun a ea hl=>?_⟩,fun q hq=>⟨yP (ny.o q hq).1.xy hk fun a ea hl=>?_,Oo (ny.o q hq).1.px hk fun a ea hl=>?_⟩,hk.keep _ _ (HF3.o.blk.cell 0) ?_⟩
   ·rcases hb with e|e|e<;>rw[e]
    ·exact hn.1
    ·exact hn.2.1
    ·exact hn.2.2
   ·have:=IV.o;show bb≠sb;omega
   ·have:=EW.o a ea hl;have:=HSW.o;have:=HVS.o;omega
   ·have:=(Zm.o q hq).2.2.1 a ea hl;have:=HSW.o;have:=HVS.o;omega
   ·have:=(Zm.o q hq).2.2.2 a ea hl;have:=HSW.o;have:=HVS.o;omega
   ·have:=HFB.o;have:=HVS.o;show fb≠sb;omega
  have uI:Hid (J 0 w3):=HJR.o _ _ _ AY.o (Nz AZ.o);have qO:Hid (W.heap.size<=w3.heap.size):=AZ.o.size;have X5:Hid (∀q∈l,q.it.Ok):=fun q hq=>(Zm.o q hq).2.1;have HY:=HY.o;rw[HE.o]at HY
  have XK:Hid (∀j it (w:World),L[j]?=some it->it.covers X Y=true->J ((L.take j).filter (·.covers X Y)).length w->YieldAt Fence.wide 0 prog lp #[.int .i64 it.i] w fun e B=>QN W.heap.size w B∧((e=.returned (.bool true)∧J (((L.take j).filter (·.covers X Y)).length+1) B∧IZ sb w B)∨(e=.returned (.bool false)∧Jx (((L.take j).filter (·.covers X Y)).length+1) B))):=fun j it w hj hc hJ=>by
   obtain⟨h,rfl⟩:=List.getElem?_eq_some_iff.1 hj;obtain⟨h1,h2⟩:=Rf (p:=(·.covers X Y)) h hc;have h3:=HY _ h1 w hJ;rw[h2]at h3;exact h3
  have EI:Hid (∀j it,L[j]?=some it->it.covers X Y=true->((L.take j).filter (·.covers X Y)).length+1<=(pM (hits (items x) X Y)).length):=fun j it hj hc=>by
   obtain⟨h,rfl⟩:=List.getElem?_eq_some_iff.1 hj;rw[HE.o];exact(Rf (p:=(·.covers X Y)) h hc).1
  have HLS:Hid (∀j it,L[j]?=some it->((L.take (j+1)).filter (·.covers X Y)).length=((L.take j).filter (·.covers X Y)).length+if it.covers X Y=true then 1 else 0):=fun j it hj=>by
   obtain⟨h,rfl⟩:=List.getElem?_eq_some_iff.1 hj;exact G6 _ h
  clear HY HS HX HN HT HV AY AU Zm EH EW Lu Yt AZ ny yD HF3 IV HFB hL HSW;go_wp2_with (fail)
  refine BM (gf:=86) (lb:=#[.pointer (some ⟨bb,0,none⟩)]) rfl (enters_of func86 ag rfl) (es:=oM l) (R:=fun _=>Eq) (Kp:=fun A' B=>uJ bb A c l A'->uJ bb A c l B)
   (fun W1 hb=>Kw (by have:=HIL.o;omega) (Zi.o W1 (oh.o.bk hb)).2.1) (fun h k x=>k (h x)) (fun A' B hb h=>⟨eG hb h.box,fun hn=>by
    obtain⟨b,o,e,hc⟩:=h.row hn
    exact⟨b,o,e,fun j hj i u hu=>eG hb (hc j hj i u hu)⟩⟩) (fun n A B e k o _ hk _=>e ▸ hk) (fun e he=>by obtain⟨j,_,rfl⟩:=List.mem_map.1 he;rfl)
   (fun j W'=>wG sb w3 W'∧J ((L.take j).filter (·.covers X Y)).length W') (fun c _ W'=>c=.ret∧∃k,k<=(pM (hits (items x) X Y)).length∧Jx k W') (fun k A B h hr=>?hI) (fun c k A B h hr=>?hIx) ⟨oh.o,uI.o⟩
   (fun j a' W'=>∃g6 v15 v16 q,a'={ tmps:=#[.func (.yield lp) #[] #[],.pointer (some ⟨bx,0,none⟩),.pointer (some ⟨b9,0,none⟩),.pointer (some ⟨bp,0,none⟩),.pointer (some ⟨fb,0,none⟩),undef,.pointer (some ⟨g6,0,none⟩),.int .i64 X,.int .i64 Y,.slice (some ⟨w0.heap.size,0,none⟩) 2 2,.bool true,.bool false,.pointer (some ⟨g,0,none⟩),.slice A l.length c,
    .func (.func 86) #[] #[.pointer (some ⟨bb,0,none⟩)],v15,v16,undef,undef,undef,undef,undef,undef,undef,undef,undef,undef,undef],defers:=[] }∧l[l.length - 1 - j]?=some q∧az W' g6 q.cs) (fun k a' A B h hb=>?hAs) ?assign ?body ?done ?stop
  case hI=>
   rcases hr with ⟨n,hn,rfl⟩|hb
   ·exact h
   ·exact⟨h.1.bk hb,HJR.o _ _ _ h.2 (hb.mono qO.o)⟩
  case hIx=>
   rcases hr with ⟨n,hn,rfl⟩|hb
   ·exact h
   ·obtain⟨h1,k,hk,h2⟩:=h;exact⟨h1,k,hk,a3i.o _ _ _ h2 (hb.mono qO.o)⟩
  case hAs=>
   obtain⟨g6,v15,v16,q,e,hq,T,hc⟩:=h;exact⟨g6,v15,v16,q,e,hq,T,hb.keep hc rfl⟩
  case assign=>
   intro l2 j hj W9 KK _ Ef;have hjl:j<l.length:=by rw[jW]at hj;exact hj
   rw[Dk]
   obtain⟨M,hM⟩:=aC (l.length - 1 - j)
   have hml:M<l.length:=by omega
   have hq:=List.getElem?_eq_getElem hml;rw[hM,List.getD_eq_getElem?_getD,List.getElem?_map,hq,Option.map_some,Option.getD_some];rw[hM]at Ef;generalize l[M]=q at*
   have HKK:Hid (∀g6 v15 W',bz W9 W'->az W' g6 q.cs->KK { tmps:=#[.func (.yield lp) #[] #[],.pointer (some ⟨bx,0,none⟩),.pointer (some ⟨b9,0,none⟩),.pointer (some ⟨bp,0,none⟩),.pointer (some ⟨fb,0,none⟩),undef,.pointer (some ⟨g6,0,none⟩),.int .i64 X,.int .i64 Y,.slice (some ⟨w0.heap.size,0,none⟩) 2 2,.bool true,.bool false,.pointer (some ⟨g,0,none⟩),.slice A l.length c,
    .func (.func 86) #[] #[.pointer (some ⟨bb,0,none⟩)],v15,.agg q.cs.toArray,undef,undef,undef,undef,undef,undef,undef,undef,undef,undef,undef],defers:=[] } W'):=fun g6 v15 W' hb hB=>Ef _ _ hb ⟨g6,v15,_,q,rfl,hq,hB⟩
   clear Ef hq hM hml hjl hj;have Zy:Hid (bz W9 (W9.alloc (.cells Vm.toArray 167))):=bR.alloc nR _;have HZA:Hid (az (W9.alloc (.cells Vm.toArray 167)) W9.heap.size Vm):=aA W9 Vm _
   gi_wp2_with ((with_reducible show wpListIn _ _ _ _ _ (Oper.mk _ (Op.store 167 _ _) _ _ _ _::_) _ _);refine Jc (r:=some l2) (fun _ e=>nomatch e) rfl (dn 167 _ _ rfl W9.heap.size 0 (by simp[go_sem]) q.cs (by simp[go_sem]) _ HZA.o (nE rfl) ag (by rfl) ?_);intro W8 hW8 rQ)
   exact HKK.o _ _ _ (hW8.below Zy.o nR) rQ
  case body=>
   rintro l2 j hj a' Wb ⟨hk,hJ⟩ ⟨g6,v15,v16,q,rfl,hq,hb6⟩;have hjl:j<l.length:=by rw[jW]at hj;exact hj
   obtain⟨hjL,e⟩:=HLQ.o j hjl;obtain⟨hml,hq2⟩:=List.getElem?_eq_some_iff.1 hq;have hmem:q∈l:=hq2 ▸ List.getElem_mem hml;rw[hq2]at e;obtain⟨hT,hBI,hIt,hF⟩:=Zi.o Wb hk;have HCV:=Hd (O1 q X Y Wb (hIt q hmem) (X5.o q hmem) HXY.o.1 HXY.o.2);have cx:=hT.x;have cy:=hT.y;have ix:=World.block_lt_of_cell? Wb _ cx;have iy:=World.block_lt_of_cell? Wb _ cy;have sD:=Hd hb6;have HK:=Hd hk;have HJ:=Hd hJ;have HEQ:Hid (L[j]?=some q.it):=by show _=_;rw[List.getElem?_eq_getElem hjL,←e]
   have Qo:=Hd (HLS.o j _ HEQ.o);have HLJ:=Hd (EI.o j _ HEQ.o);have HYJ:=Hd (fun w=>XK.o j _ w HEQ.o);clear hT hBI hIt hF hk hJ hb6 hq hml hq2 hmem e hjl hj hjL
   gi_wp2_with ((with_reducible show wpListIn _ _ _ _ _ (Oper.mk _ (Op.load 167 _) _ _ _ _::_) _ _);refine Jc (r:=some l2) (fun _ e=>nomatch e) rfl (aK 167 _ rfl g6 0 (by simp[go_sem]) q.cs sD.o q.cs rfl _ underlying167 rfl ag ?_))
   refine⟨trivial,rfl,CallsIn.inRound l2 ((callsIn_wide (n:=0)).2 (HCV.o.mono ?_))⟩;rintro e w9 ⟨rfl,bD⟩;have Wh:Hid (wG sb w3 w9):=HK.o.bk (Nz (n:=0) bD);have HJ9:Hid (J ((L.take j).filter (·.covers X Y)).length w9):=HJR.o _ _ _ HJ.o (Nz bD);have HKB:Hid (QN w3.heap.size Wb w9):=fun k o _ hk _=>(bD.block k (Array.getElem?_eq_some_iff.1 hk).1).trans hk;have c6:=(sD.o.below' bD).c 0 rfl;have i6:=(sD.o.below' bD).inside;have cf:=(Zi.o _ Wh.o).2.2.2;have jf:=World.block_lt_of_cell? w9 _ cf;clear bD cx cy ix iy sD HK HJ HCV;generalize q.it.covers X Y=cv at*
   cases cv with
   |false=>
    have HS2:Hid (((L.take (j+1)).filter (·.covers X Y)).length=((L.take j).filter (·.covers X Y)).length):=by show _=_;rw[Qo.o];simp
    clear c6 i6 cf jf
    gi_wp2_with (fail)
    refine⟨fun _ e=>(nomatch e),?_⟩
    gi_wp2_with (fail)
    exact⟨HKB.o,fun _=>(Zi.o _ Wh.o).2.1,Wh.o,HS2.o ▸ HJ9.o⟩
   |true=>
    have HS2:Hid (((L.take (j+1)).filter (·.covers X Y)).length=((L.take j).filter (·.covers X Y)).length+1):=by show _=_;rw[Qo.o];simp
    have hY:=HYJ.o w9 rfl HJ9.o;obtain⟨fn,tmps,assign,body,hy,hR⟩:=hY;have HR:=Hd hR;clear hR
    gi_wp2_with (fail)
    refine⟨rfl,(show RoundIn (Fence.wide.inRound l2) 0 _ _ _ _ _ _ _ _ from HR.o).mono ?_⟩;rintro e W3 ⟨hkb,(⟨rfl,hJ3,hk3⟩|⟨rfl,hJx3⟩)⟩
    ·have HZ:Hid (QN w3.heap.size Wb W3∧wG sb w3 W3∧J (((L.take j).filter (·.covers X Y)).length+1) W3):=⟨fun k o hn hk ho=>hkb k o (Nat.le_trans qO.o hn) (HKB.o k o hn hk ho) ho,Wh.o.next hk3,hJ3⟩
     clear hkb hJ3 hk3 hy c6 i6 cf jf
     gi_wp2_with (fail)
     exact⟨HZ.o.1,fun _=>(Zi.o _ HZ.o.2.1).2.1,HZ.o.2.1,HS2.o ▸ HZ.o.2.2⟩
    ·have HZ:Hid (QN w3.heap.size Wb W3∧∃k,k<=(pM (hits (items x) X Y)).length∧Jx k W3):=⟨fun k o hn hk ho=>hkb k o (Nat.le_trans qO.o hn) (HKB.o k o hn hk ho) ho,_,HLJ.o trivial,hJx3⟩
     clear hkb hJx3 hy c6 i6 cf jf
     gi_wp2_with (fail)
     exact⟨HZ.o.1,rfl,HZ.o.2⟩
  case done=>
   rintro D W9 hD ⟨hk,hJ⟩ hd;rw[jW,←ql.o,List.take_length]at hJ;go_wp2_with (fail)
   refine CJ W.heap.size ⟨⟨D,rfl,Nat.le_trans qO.o hD,hd,by simp⟩,trivial⟩ fun w' hb=>⟨_,results_none rfl _ _ _,⟨_,rfl⟩,.inl ?_⟩
   rw[HE.o,pM,List.length_map,List.length_map];exact HJR.o _ _ _ hJ hb
  case stop=>
   rintro D c9 j W9 hD hj ⟨rfl,k,hk,hJx⟩ hd;go_wp2_with (fail)
   exact dG W.heap.size ⟨⟨D,rfl,Nat.le_trans qO.o hD,hd,by simp⟩,trivial⟩ fun w' hb=>⟨_,results_none rfl _ _ _,⟨_,rfl⟩,.inr ⟨k,hk,a3i.o _ _ _ hJx hb⟩⟩
end
section
open Go.RowKit aF xk Go.Shelf
attribute [local go_sem] Oper.semAt_some
theorem GN{x:aJ}(X Y:Int)(hx:lV x)(hn:x.t.length<=900):(hits (items x) X Y).length<=1000:=by
 have h2:(items x).length<=(aF.walk x.t 0).length:=List.length_filterMap_le _ _;have h3:=sO hx.ok;unfold hits;split
 ·have:=List.length_filter_le (·.covers X Y) (items x).reverse;rw[List.length_reverse]at this;rw[List.length_map];omega
 ·simp
theorem KE{W:World}{g b m:Nat}{s:Sh}{Z:ZZ}{x:aJ}{bx b9 bp:Nat}{X Y:Int}(h:ak W g b m s Z x)(hx:lV x)(hn:x.t.length<=900)(ht:Au W bx b9 bp g X Y) :
  Calls prog 60 #[.slice none 0 0,.func (.func 61) #[] (Vt bx b9 bp).toArray] W fun e w'=>∃v,e=.returned v∧aU w' W.heap.size v (hits (items x) X Y)∧Below W.heap.size W w':=by
 have HS:=Hd h;have HX:=Hd hx;have HN:=Hd hn;have HT:=Hd ht
 have I8:Hid (bx≠W.heap.size∧b9≠W.heap.size∧bp≠W.heap.size):=by
  have h1:=World.block_lt_of_cell? W _ ht.x;have h2:=World.block_lt_of_cell? W _ ht.y;have h3:=World.block_lt_of_cell? W _ ht.p;simp only at h1 h2 h3;refine⟨?_,?_,?_⟩<;>omega
 have AX:=Hd (GN X Y hx hn);clear h hx hn ht;refine bQ func60 rfl ?_;simp only[ntmps60,List.size_toArray,List.length_cons,List.length_nil,Nat.reduceAdd,Nat.reduceSub,Array.replicate_succ,Array.replicate_zero,List.push_toArray,List.append_toArray,List.nil_append,List.cons_append];have HB0:Hid (Below W.heap.size W (W.alloc (.cells #[.slice none 0 0] 35))):=bR.alloc nR _;have oh:Hid (au (W.alloc (.cells #[.slice none 0 0] 35)) W.heap.size [.slice none 0 0] bU):=au.new W [.slice none 0 0] _
 go_upto_region 1 with(fail)
 generalize (W.alloc (.cells #[.slice none 0 0] 35))=w0 at*;have hs0:W.heap.size<w0.heap.size:=oh.o.inside
 obtain⟨sb,hsb⟩:=aC W.heap.size
 have NR:=Hd hsb;rw[hsb]at oh I8 hs0 ⊢;have uP:=Hd hs0;clear hsb hs0;go_wp2_with (fail)
 refine jZ (gf:=61) (lb:=(Vt bx b9 bp).toArray) rfl (enters_of func61 ag rfl) (es:=pM (hits (items x) X Y)) (R:=fun n=>Bk n) (Kp:=IZ sb)
  (fun W1 hb=>?hit) IZ.trans (fun A B hb=>IZ.bk hb) (fun n A B h k o hk hA _=>(h.low (Array.getElem?_eq_some_iff.1 hA).1 hk).trans hA)
  (fun e he=>by obtain⟨j,_,rfl⟩:=List.mem_map.1 he;rfl)
  (fun k W'=>Below sb W W'∧w0.heap.size<=W'.heap.size∧∃v,au W' sb [v] bU∧aU W' w0.heap.size v ((hits (items x) X Y).take k))
  (fun _ _ _=>False) (fun k A B h hr=>?hI) (fun _ _ _ _ h _=>h.elim) ⟨NR.o ▸ HB0.o,nR,_,oh.o,ax.nil _ _⟩ ?a1 ?assign ?body ?done (fun _ _ _ _ _ _ h _=>h.elim)
 case hit=>
  have hb1:Below W.heap.size W W1:=HB0.o.trans (hb.below HB0.o.size HB0.o.size);exact CY (HS.o.below hb1) HX.o HN.o (HT.o.below hb1) ((oh.o.bk hb).blk.cell 0) rfl I8.o
 case hI=>
  obtain⟨hk,hs,v,hv,ho⟩:=h;have hb:Bk w0.heap.size A B:=hr.elim (fun⟨n,hn,h⟩=>h.mono hn) id;exact⟨hk.trans (hb.below (Nat.le_of_lt uP.o) (NR.o ▸ hk.size)),Nat.le_trans hs hb.size,v,hv.bk hb,ax.bk ho hb⟩
 case assign=>
  intro l j hj W9 KK Ef;rw[MZ]
  gi_wp2
  exact Ef
 case done=>
  rintro D W9 hD ⟨hk,-,v,hv,ho⟩ hd;rw[show(pM (hits (items x) X Y)).length=(hits (items x) X Y).length from List.length_map _,List.take_length]at ho;have cb:=hv.blk.cell 0;have zb:=hv.inside;simp only[List.getElem?_cons_zero]at cb;have hDw:sb<=D:=Nat.le_trans (Nat.le_of_lt uP.o) hD;have HZ:=Hd (And.intro hk (And.intro ho hd));clear hk hv ho;go_wp2_with (fail)
  refine dG sb ⟨⟨D,rfl,hDw,hd,by simp⟩,trivial⟩ fun w' hb=>⟨_,results_tmp rfl _ _ _,?_⟩
  obtain⟨hk,ho,-⟩:=HZ.o;exact⟨v,rfl,ax.weaken (ax.bk ho hb) (by have:=uP.o;have:=NR.o;omega),NR.o ▸ hk.trans (hb.below nR (NR.o ▸ hk.size))⟩
 case body=>
  rintro l j hj W9 ⟨hk,hsz,v,hv,ho⟩;have hjl:j<(hits (items x) X Y).length:=by unfold pM at hj;simpa using hj
  have htk:(hits (items x) X Y).take (j+1)=(hits (items x) X Y).take j++[(hits (items x) X Y)[j]]:=List.take_succ_eq_append_getElem hjl;rw[List.getElem?_eq_getElem hjl,Option.getD_some];generalize (hits (items x) X Y)[j]=i at*;have hll:((hits (items x) X Y).take j).length<=1000:=by rw[List.length_take];have:=AX.o;omega
  have hbw:bz W9 (W9.alloc (.cells #[.int .i64 i] 3)):=bR.alloc nR _;have hs9:(W9.alloc (.cells #[.int .i64 i] 3)).heap.size=W9.heap.size+1:=by simp
  obtain⟨v',w7,hrun,iQ,hgr,hat⟩:=Eu (g:=W9.heap.size) (o:=0) (c:=1) (xs:=[i]) (ax.below ho hbw) (fun _=>⟨_,0,rfl,fun k hk=>by
   match k,hk with
   |0,_=>exact(aA W9 [.int .i64 i] _).cell 0⟩) (by rw[List.length_singleton];omega) (by omega)
  obtain⟨A3,n3,c3,rfl⟩:=ax.shape ho;obtain⟨A4,n4,c4,hv4⟩:=ax.shape iQ;have hob:∀k,(Value.slice A3 n3 c3).ownBlock=some k->w0.heap.size<=k∧k<W9.heap.size:=fun k hk'=>ax.block ho hk';have hsl:=uP.o;have b7:au w7 sb [.slice A3 n3 c3] bU:=(hv.stays (hbw.block _ hv.inside)).stays (hgr.block _ (by have:=hv.inside;omega) fun e=>by have:=hob _ e.symm;omega);have cb:=hv.blk.cell 0;have zb:=hv.inside;simp only[List.getElem?_cons_zero]at cb
  have TB:∀k,k<W9.heap.size->k≠sb->(Value.slice A3 n3 c3).ownBlock≠some k->(w7.setCell ⟨sb,0,none⟩ v').heap[k]?=W9.heap[k]?:=fun k hk1 hk2 hk3=>(heap_setCell_other _ _ _ _ (show k≠sb from hk2)).trans ((hgr.block _ (by omega) fun e=>hk3 e.symm).trans (hbw.block _ hk1));have h7s:W9.heap.size<=(w7.setCell ⟨sb,0,none⟩ v').heap.size:=by have:=hgr.size;simp[World.setCell];omega
  have HF:Hid (KB W9 (w7.setCell ⟨sb,0,none⟩ v')∧IZ sb W9 (w7.setCell ⟨sb,0,none⟩ v')∧Below sb W (w7.setCell ⟨sb,0,none⟩ v')∧w0.heap.size<=(w7.setCell ⟨sb,0,none⟩ v').heap.size ∧
    ∃v,au (w7.setCell ⟨sb,0,none⟩ v') sb [v] bU∧aU (w7.setCell ⟨sb,0,none⟩ v') w0.heap.size v ((hits (items x) X Y).take (j+1))):=by
   refine⟨((KB.below hbw).trans (KB.yY hgr fun k o hk' ho'=>?_)).trans (KB.set (a:=⟨sb,0,none⟩) b7 rfl v'),⟨h7s,fun v1 hv1=>?_⟩,((hk.trans (hbw.mono (by omega))).grown hgr (by omega) fun k e=>?_).setCell nR _,Nat.le_trans hsz h7s,v',b7.set 0 v',?_⟩
   ·obtain⟨cu,hc⟩:=ax.typed ho hk';rw[(hbw.block _ (Array.getElem?_eq_some_iff.1 hc).1).trans hc]at ho';cases ho';rfl
   ·obtain rfl:=Option.some.inj (hv1.symm.trans cb);refine⟨⟨v',(b7.set 0 v').blk.cell 0,?_⟩,fun a u ha hne hno=>?_⟩
    ·rcases hat with e|e
     ·exact .inl e
     ·exact .inr ⟨_,e,by omega⟩
    ·exact(World.cell?_of_block (TB _ (World.block_lt_of_cell? W9 a ha) hne hno)).trans ha
   ·have:=hob k e;omega
   ·rw[htk];refine ax.stays iQ fun k hk'=>heap_setCell_other _ _ _ _ fun(e:k=sb)=>?_;have:=(ax.block iQ hk').1;omega
  rw[hv4]at HF hrun;have cb7:=b7.blk.cell 0;have fb7:=b7.blk.free 0;have zb7:=b7.inside;simp only[List.getElem?_cons_zero]at cb7;clear hk hv ho hj hjl htk hll hsz iQ hgr hat hv4 hbw hob hs9 b7 TB h7s hsl
  gi_wp2_with (gi_at_builtin;refine qV rfl _ _ 35 35 35 rfl rfl _ _ _ _ rfl rfl hrun ?_;clear hrun)
  exact HF.o
theorem LU{W w1:World}{g:Nat}{X Y:Int}(hw:w1=((W.alloc (.cells #[.pointer (some ⟨g,0,none⟩)] 25)).alloc (.cells #[.int .i64 X] 3)).alloc (.cells #[.int .i64 Y] 3)) :
  bz W w1∧Au w1 (W.heap.size+1) (W.heap.size+2) W.heap.size g X Y:=by
 subst hw;refine⟨((bR.alloc nR _).alloc (by simp) _).alloc (by simp;omega) _,?_,?_,?_⟩
 ·exact(((jJ (W.alloc _) _ (by simp) [.int .i64 X] _).al _).blk.cell 0)
 ·exact((jJ ((W.alloc _).alloc _) _ (by simp) [.int .i64 Y] _).blk.cell 0)
 ·exact((((au.new W [.pointer (some ⟨g,0,none⟩)] _).al _).al _).blk.cell 0)
theorem Hw{W:World}{g b m:Nat}{s:Sh}{Z:ZZ}{x:aJ}{bx b9 bp:Nat}{X Y:Int}(h:ak W g b m s Z x)(hx:lV x)(hn:x.t.length<=900)(ht:Au W bx b9 bp g X Y) :
  Calls prog 33 #[.func (.func 61) #[] (Vt bx b9 bp).toArray] W fun e w'=>∃v,e=.returned v∧aU w' W.heap.size v (hits (items x) X Y)∧bz W w':=by
 have HC:=Hd (KE h hx hn ht);clear h hx hn ht;go_enter func33,ntmps33;go_wp2_with (fail);refine HC.o.mono ?_;rintro e w2 ⟨v,rfl,ho,hb2⟩;have HZ:=Hd (And.intro ho hb2);clear ho hb2 HC;go_wp2_with (fail);go_ret;exact⟨v,rfl,HZ.o.1,HZ.o.2⟩
theorem Aj{W:World}{g b m:Nat}{s:Sh}{Z:ZZ}{x:aJ}(X Y:Int)(h:ak W g b m s Z x)(hx:lV x)(hn:x.t.length<=900) :
  Calls prog 13 #[.pointer (some ⟨g,0,none⟩),.int .i64 X,.int .i64 Y] W fun e w'=>∃v,e=.returned v∧aU w' W.heap.size v (hits (items x) X Y)∧bz W w':=by
 have HS:=Hd h;have HX:=Hd hx;have HN:=Hd hn;clear h hx hn;go_enter func13,ntmps13;go_wp2_with (fail);refine(CZ g X Y W).mono ?_;rintro e w1 ⟨rfl,hw⟩;obtain⟨hb1,ht⟩:=LU hw;have HB1:=Hd hb1;have HCO:=Hd (Hw (HS.o.below hb1) HX.o HN.o ht);clear hb1 ht hw;go_wp2_with (fail);refine HCO.o.mono ?_;rintro e w2 ⟨v,rfl,ho,hb2⟩;have HZ:=Hd (And.intro ho hb2);clear ho hb2;go_wp2_with (fail);go_ret;exact⟨v,rfl,ax.weaken HZ.o.1 HB1.o.size,HB1.o.trans (HZ.o.2.mono HB1.o.size)⟩
end
section
open Go.RowKit aF xk Go.Shelf
attribute [local go_sem] Oper.semAt_some
theorem Mc{fn:Func}{p q:Tmp}(h:fn.results=#[.cell p 3,.cell q 4])(tmps:Array Value)(w:World){g k:Nat}{v:Int}{b:Bool}(hp:tmps.getD p undef=.pointer (some ⟨g,0,none⟩))(hq:tmps.getD q undef=.pointer (some ⟨k,0,none⟩))
  (hc:w.cell? ⟨g,0,none⟩=some (.int .i64 v)) (hd:w.cell? ⟨k,0,none⟩=some (.bool b)):(results fn tmps).run prog w=.ok (.tuple #[.int .i64 v,.bool b]) w:=by
 have hp':tmps[p]?.getD undef=.pointer (some ⟨g,0,none⟩):=by simpa using hp
 have hq':tmps[q]?.getD undef=.pointer (some ⟨k,0,none⟩):=by simpa using hq
 simp[results,h,hp',hq',asAddr,go_sem,hc,hd]
def Xi(l:List Int):Value:=.tuple #[.int .i64 (l.headD 0),.bool (!l.isEmpty)]
theorem Es{W:World}{g b m:Nat}{s:Sh}{Z:ZZ}{x:aJ}(X Y:Int)(h:ak W g b m s Z x)(hx:lV x)(hn:x.t.length<=900) :
  Calls prog 14 #[.pointer (some ⟨g,0,none⟩),.int .i64 X,.int .i64 Y] W fun e w'=>e=.returned (Xi (hits (items x) X Y))∧Below W.heap.size W w':=by
 have HS:=Hd h;have HX:=Hd hx;have HN:=Hd hn;clear h hx hn;refine bQ func14 rfl ?_;simp only[ntmps14,List.size_toArray,List.length_cons,List.length_nil,Nat.reduceAdd,Nat.reduceSub,Array.replicate_succ,Array.replicate_zero,List.push_toArray,List.append_toArray,List.nil_append,List.cons_append];have HB0:Hid (Below W.heap.size W ((W.alloc (.cells #[.int .i64 0] 3)).alloc (.cells #[.bool false] 4))):=(bR.alloc nR _).alloc (by simp) _
 have HI0:Hid (au ((W.alloc (.cells #[.int .i64 0] 3)).alloc (.cells #[.bool false] 4)) W.heap.size [.int .i64 0] 3):=(au.new W [.int .i64 0] _).al _;have HO0:Hid (au ((W.alloc (.cells #[.int .i64 0] 3)).alloc (.cells #[.bool false] 4)) (W.heap.size+1) [.bool false] 4):=jJ (W.alloc _) _ (by simp) [.bool false] _
 go_upto_region 1 with(fail)
 generalize ((W.alloc (.cells #[.int .i64 0] 3)).alloc (.cells #[.bool false] 4))=w0 at*;go_wp2_with (fail);refine(CZ g X Y w0).mono ?_;rintro e w1 ⟨rfl,hw⟩;obtain⟨hb1,ht⟩:=LU hw;have HB1:Hid (Below W.heap.size W w1):=HB0.o.trans (hb1.mono HB0.o.size);have HI1:=Hd (HI0.o.stays (hb1.block _ HI0.o.inside));have UY:=Hd (HO0.o.stays (hb1.block _ HO0.o.inside))
 have kH:Hid (W.heap.size+1<w0.heap.size∧w0.heap.size<=w1.heap.size):=⟨HO0.o.inside,hb1.size⟩
 have HT:=Hd ht;clear hw hb1 ht HB0 HI0 HO0
 obtain⟨kx,hkx⟩:∃k,w0.heap.size=k:=⟨_,rfl⟩
 rw[hkx]at HT kH ⊢
 obtain⟨sb,hsb⟩:∃k,W.heap.size=k:=⟨_,rfl⟩
 have NR:=Hd hsb;rw[hsb]at kH HI1 UY ⊢;clear hkx hsb;go_wp2_with (fail)
 refine jZ (gf:=61) (lb:=#[.pointer (some ⟨kx+1,0,none⟩),.pointer (some ⟨kx+2,0,none⟩),.pointer (some ⟨kx,0,none⟩)]) rfl (enters_of func61 ag rfl) (es:=pM (hits (items x) X Y)) (R:=fun n=>Bk n) (Kp:=IZ (sb+1))
  (fun W1 hb=>?hit) IZ.trans (fun A B hb=>IZ.bk hb) (fun n A B h k o hk hA _=>(h.low (Array.getElem?_eq_some_iff.1 hA).1 hk).trans hA)
  (fun e he=>by obtain⟨j,_,rfl⟩:=List.mem_map.1 he;rfl)
  (fun k W'=>k=0∧Below sb W W'∧au W' sb [.int .i64 0] 3∧au W' (sb+1) [.bool false] 4)
  (fun c _ W'=>c=.ret∧Below sb W W'∧∃i l,hits (items x) X Y=i::l∧au W' sb [.int .i64 i] 3∧au W' (sb+1) [.bool true] 4) (fun k A B h hr=>?hI) (fun c k A B h hr=>?hIx) ⟨rfl,NR.o ▸ HB1.o,HI1.o,UY.o⟩ ?a1 ?assign ?body ?done ?stop
 case hit=>
  have hb1:Below W.heap.size W W1:=HB1.o.trans (hb.below HB1.o.size HB1.o.size);have h1:=kH.o;exact CY (HS.o.below hb1) HX.o HN.o (HT.o.keep fun _ _ ha _=>eG hb ha) ((UY.o.bk hb).blk.cell 0) rfl ⟨by omega,by omega,by omega⟩
 case hI=>
  obtain⟨hk,h1,h2,h3⟩:=h;have hb:Bk w1.heap.size A B:=hr.elim (fun⟨n,hn,h⟩=>h.mono hn) id;have hs:=kH.o;exact⟨hk,h1.trans (hb.below (by omega) (NR.o ▸ h1.size)),h2.bk hb,h3.bk hb⟩
 case hIx=>
  obtain⟨hk,h1,i,l,h2,h3,h4⟩:=h;have hb:Bk w1.heap.size A B:=hr.elim (fun⟨n,hn,h⟩=>h.mono hn) id;have hs:=kH.o;exact⟨hk,h1.trans (hb.below (by omega) (NR.o ▸ h1.size)),i,l,h2,h3.bk hb,h4.bk hb⟩
 case assign=>
  intro l j hj W9 KK Ef;rw[MZ]
  gi_wp2
  exact Ef
 case done=>
  rintro D W9 hD ⟨hk,h1,h2,h3⟩ hd;have HE:Hid (hits (items x) X Y=[]):=List.map_eq_nil_iff.1 (List.eq_nil_of_length_eq_zero hk);have hs:=kH.o;have HD:Hid (sb+1<D):=by show _<_;omega
  have VG:=Hd hd;have uT:=Hd h1;have c1:=h2.blk.cell 0;have i1:=h2.inside;have c2:=h3.blk.cell 0;have i2:=h3.inside;have f1:=h2.blk.free 0;have f2:=h3.blk.free 0
  have XL:Hid (∀v u,au ((W9.setCell ⟨sb,0,none⟩ v).setCell ⟨sb+1,0,none⟩ u) sb [v] 3∧au ((W9.setCell ⟨sb,0,none⟩ v).setCell ⟨sb+1,0,none⟩ u) (sb+1) [u] 4):=fun v u=>⟨(h2.set 0 v).stays (heap_setCell_other _ _ _ _ (show sb≠sb+1 by omega)),(h3.stays (heap_setCell_other _ _ _ _ (show sb+1≠sb by omega))).set 0 u⟩
  simp only[List.getElem?_cons_zero]at c1 c2;clear hk h1 h2 h3 hd hs hD;go_wp2_with (fail)
  refine dG sb ⟨⟨D,rfl,by have:=HD.o;omega,(heap_setCell_other _ _ _ _ ?_).trans ((heap_setCell_other _ _ _ _ ?_).trans VG.o),by simp⟩,trivial⟩ fun w' hb=>⟨_,Mc rfl _ _ rfl rfl (((XL.o _ _).1.bk hb).blk.cell 0) (((XL.o _ _).2.bk hb).blk.cell 0),?_⟩
  ·have:=HD.o;show D≠sb+1;omega
  ·have:=HD.o;show D≠sb;omega
  ·rw[HE.o];exact⟨rfl,NR.o ▸ (((uT.o.setCell nR _).setCell (Nat.le_succ _) _).trans (hb.below nR (by have:=uT.o.size;have:=NR.o;simp[World.setCell];omega)))⟩
 case body=>
  rintro l j hj W9 ⟨rfl,h1,h2,h3⟩;have hjl:0<(hits (items x) X Y).length:=by unfold pM at hj;simpa using hj
  obtain⟨i,l9,hil⟩:∃i l9,hits (items x) X Y=i::l9:=List.exists_cons_of_length_pos hjl;have QV:=Hd h1;have c1:=h2.blk.cell 0;have i1:=h2.inside;have c2:=h3.blk.cell 0;have i2:=h3.inside;have f1:=h2.blk.free 0;have f2:=h3.blk.free 0
  have XL:Hid (∀v u,KB W9 ((W9.setCell ⟨sb,0,none⟩ v).setCell ⟨sb+1,0,none⟩ u)∧au ((W9.setCell ⟨sb,0,none⟩ v).setCell ⟨sb+1,0,none⟩ u) sb [v] 3∧au ((W9.setCell ⟨sb,0,none⟩ v).setCell ⟨sb+1,0,none⟩ u) (sb+1) [u] 4):=fun v u=>⟨(KB.set (a:=⟨sb,0,none⟩) h2 rfl v).trans (KB.set (a:=⟨sb+1,0,none⟩) (h3.stays (heap_setCell_other _ _ _ _ (show sb+1≠sb by omega))) rfl u),(h2.set 0 v).stays (heap_setCell_other _ _ _ _ (show sb≠sb+1 by omega)),(h3.stays (heap_setCell_other _ _ _ _ (show sb+1≠sb by omega))).set 0 u⟩
  simp only[List.getElem?_cons_zero]at c1 c2;rw[hil];clear h1 h2 h3 hj hjl hil
  gi_wp2_with (fail)
  exact⟨(XL.o _ _).1,rfl,(QV.o.setCell nR _).setCell (Nat.le_succ _) _,i,l9,rfl,(XL.o _ _).2.1,(XL.o _ _).2.2⟩
 case stop=>
  rintro D c k W9 hD hk ⟨rfl,h1,i,l,hil,h2,h3⟩ hd;have hs:=kH.o;go_wp2_with (fail)
  refine dG sb ⟨⟨D,rfl,by omega,hd,by simp⟩,trivial⟩ fun w' hb=>⟨_,Mc rfl _ _ rfl rfl ((h2.bk hb).blk.cell 0) ((h3.bk hb).blk.cell 0),?_⟩
  rw[hil];exact⟨rfl,NR.o ▸ h1.trans (hb.below nR (NR.o ▸ h1.size))⟩
end
section
open Go.RowKit fG gm aF Go.Maps
theorem L6(n k:Int):lG (n+k*65536) 65536=lG n 65536+k:=by
 unfold lG;rw[Int.add_mul_emod_self_right,Int.add_mul_ediv_right _ _ (by decide)];split<;>omega
theorem GG(a c e f x y:Int):a*(x*65536+32768 - e)+c*(y*65536+32768 - f)=a*(0*65536+32768 - e)+c*(0*65536+32768 - f)+(a*x+c*y)*65536:=by
 rw[show x*65536+32768 - e=(0*65536+32768 - e)+x*65536 from by omega,show y*65536+32768 - f=(0*65536+32768 - f)+y*65536 from by omega,Int.mul_add,Int.mul_add,Int.add_mul,Int.mul_assoc,Int.mul_assoc];omega
theorem zJ(b:Mp)(x y:Int):(b.from_ (rX x y)).x=(b.from_ (rX 0 0)).x+(b.a*x+b.c*y)∧(b.from_ (rX x y)).y=(b.from_ (rX 0 0)).y+(b.b*x+b.d*y):=by
 unfold Mp.from_ rX;simp only;rw[GG b.a b.c,GG b.b b.d,L6,L6];exact⟨rfl,rfl⟩
theorem Po(a x y e1 e2:Int):e1*(x / 65536)+e2*(y / 65536)+(a+e1*(x % 65536)+e2*(y % 65536)) / 65536=(a+(e1*x+e2*y)) / 65536:=by
 have hx:e1*x=e1*(x % 65536)+e1*(x / 65536)*65536:=by
  conv=>lhs;rw[←Int.emod_add_mul_ediv x 65536]
  rw[Int.mul_add,Int.mul_comm 65536,←Int.mul_assoc]
 have hy:e2*y=e2*(y % 65536)+e2*(y / 65536)*65536:=by
  conv=>lhs;rw[←Int.emod_add_mul_ediv y 65536]
  rw[Int.mul_add,Int.mul_comm 65536,←Int.mul_assoc]
 rw[hx,hy];omega
theorem Sr{e q:Int}(he:-4294967296<=e∧e<=4294967296)(hq:0<=q∧q<65536):-281474976710656<=e*q∧e*q<=281474976710656:=by
 have g1:0<=(4294967296 - e)*q:=Int.mul_nonneg (by omega) hq.1;have g2:0<=(4294967296+e)*q:=Int.mul_nonneg (by omega) hq.1;rw[Int.sub_mul]at g1;rw[Int.add_mul]at g2;omega
theorem MK{e q:Int}(he:-4294967296<=e∧e<=4294967296)(hq:-1<=q∧q<=0):-4294967296<=e*q∧e*q<=4294967296:=by
 have:q=-1∨q=0:=by omega
 rcases this with rfl|rfl<;>omega
def qX(x y e1 e2:Int):List Value:=(Vl x e1 y e2)
def vH(x:Int):Prop:=-16384<=x∧x<=16383
def jB(e:Int):Prop:=-4294967296<=e∧e<=4294967296
theorem zG(a x y e1 e2:Int)(hx:vH x)(hy:vH y)(ha:-4611686018427387904<=a*2∧a*2<=4611686018427387904)(he1:jB e1)(he2:jB e2)(g c:Nat)(w:World)(hB:az w g (qX x y e1 e2)) :
  Calls prog 39 #[.int .i64 a,.slice (some ⟨g,0,none⟩) 2 c] w (aZ (.int .i64 ((a+(e1*x+e2*y)) / 65536)) w):=by
 have HB:=Hd hB;have IQ:Hid (e1*(x / 65536)+e2*(y / 65536)+(a+e1*(x % 65536)+e2*(y % 65536)) / 65536=(a+(e1*x+e2*y)) / 65536):=Po a x y e1 e2;generalize (a+(e1*x+e2*y)) / 65536=a1F at*
 obtain⟨q1,hq1⟩:∃q,x / 65536=q:=⟨_,rfl⟩
 obtain⟨r1,hr1⟩:∃r,x % 65536=r:=⟨_,rfl⟩
 obtain⟨P1,hP1⟩:∃P,e1*q1=P:=⟨_,rfl⟩
 obtain⟨R1,hR1⟩:∃R,e1*r1=R:=⟨_,rfl⟩
 have bP1:=MK (e:=e1) (q:=q1) he1 (by unfold vH at hx;omega);have bR1:=Sr (e:=e1) (q:=r1) he1 (by omega);rw[hP1]at bP1;rw[hR1]at bR1
 obtain⟨W1,hW1⟩:∃W,0+P1=W:=⟨_,rfl⟩
 obtain⟨A1,hA1⟩:∃W,a+R1=W:=⟨_,rfl⟩
 obtain⟨q2,hq2⟩:∃q,y / 65536=q:=⟨_,rfl⟩
 obtain⟨r2,hr2⟩:∃r,y % 65536=r:=⟨_,rfl⟩
 obtain⟨P2,hP2⟩:∃P,e2*q2=P:=⟨_,rfl⟩
 obtain⟨R2,hR2⟩:∃R,e2*r2=R:=⟨_,rfl⟩
 have bP2:=MK (e:=e2) (q:=q2) he2 (by unfold vH at hy;omega);have bR2:=Sr (e:=e2) (q:=r2) he2 (by omega);rw[hP2]at bP2;rw[hR2]at bR2
 obtain⟨W2,hW2⟩:∃W,W1+P2=W:=⟨_,rfl⟩
 obtain⟨A2,hA2⟩:∃W,A1+R2=W:=⟨_,rfl⟩
 rw[hq1,hq2,hr1,hr2,hP1,hP2,hR1,hR2,hA1,hA2]at IQ;have hw1:W1=P1:=by omega
 have hf:=IQ.o;rw[←hw1,hW2]at hf;have HFL:=Hd (fun w:World=>mO (vT A2 w (by omega) (by omega)))
 obtain⟨F,hF⟩:=aC (A2 / 65536)
 rw[hF]at HFL hf;have uo:wrap64 a1F=a1F:=IntWalk.wrap64_in _ (by omega);have s1:x / 2 ^ 16=q1:=hq1;have m1:bits .and .i64 x 65535=r1:=(vN x).trans hr1;have uP1:wrap64 P1=P1:=IntWalk.wrap64_in _ (by omega);have uR1:wrap64 R1=R1:=IntWalk.wrap64_in _ (by omega);have uW1:wrap64 W1=W1:=IntWalk.wrap64_in _ (by omega);have uA1:wrap64 A1=A1:=IntWalk.wrap64_in _ (by omega);have s2:y / 2 ^ 16=q2:=hq2;have m2:bits .and .i64 y 65535=r2:=(vN y).trans hr2;have uP2:wrap64 P2=P2:=IntWalk.wrap64_in _ (by omega);have uR2:wrap64 R2=R2:=IntWalk.wrap64_in _ (by omega)
 have uW2:wrap64 W2=W2:=IntWalk.wrap64_in _ (by omega);have uA2:wrap64 A2=A2:=IntWalk.wrap64_in _ (by omega);have lZ:=Hd (And.intro s1 (And.intro m1 (And.intro uP1 (And.intro uR1 (And.intro uW1 (And.intro uA1 (And.intro hP1 (And.intro hR1 (And.intro hW1 hA1)))))))));have HE2:=Hd (And.intro s2 (And.intro m2 (And.intro uP2 (And.intro uR2 (And.intro uW2 (And.intro uA2 (And.intro hP2 (And.intro hR2 (And.intro hW2 hA2)))))))));have HW1:Hid (wrap64 (wrap64 (e1*(x / 65536)))=W1):=by show _=_;rw[hq1,hP1,uP1,uP1];omega
 have HW2:Hid (wrap64 (W1+wrap64 (e2*(y / 65536)))=W2):=by show _=_;rw[hq2,hP2,uP2,hW2,uW2]
 have HO:=Hd (And.intro hf uo);clear hq1 hr1 bP1 bR1 hq2 hr2 bP2 bR2 hx hy ha he1 he2 hB IQ hw1 hF s1 m1 uP1 uR1 uW1 uA1 s2 m2 uP2 uR2 uW2 uA2 hf uo hP1 hR1 hW1 hA1 hP2 hR2 hW2 hA2;go_enter func39,ntmps39;go_wp2_with (fail)
 go_loopw [10,5,0] (fun i u v wr=>∃k:Nat,i=.int .i64 k∧((k=0∧u=.int .i64 0∧v=.int .i64 a)∨(k=1∧u=.int .i64 W1∧v=.int .i64 A1)∨(k=2∧u=.int .i64 W2∧v=.int .i64 A2))∧Hid (bz w wr)) (fun i _ _ _=>2 - (intOf i).toNat)
 case atStart=>exact⟨0,rfl,.inl ⟨rfl,rfl,rfl⟩,bR⟩
 case round=>
  obtain⟨k,rfl,hk,HR⟩:=hrel;generalize wr=wj at*;have hb:=(HB.o.below' HR.o).cell;have ib:=(HB.o.below' HR.o).inside;rcases hk with ⟨rfl,rfl,rfl⟩|⟨rfl,rfl,rfl⟩|⟨rfl,rfl,rfl⟩
  ·have c0:=hb 0;have c1:=hb 1;unfold qX at c0 c1;simp only[List.getElem?_cons_zero,List.getElem?_cons_succ]at c0 c1;obtain⟨s1,m1,uP1,uR1,uW1,uA1,hP1,hR1,hW1,hA1⟩:=lZ.o;clear hb;go_wp2_with (fail)
   go_roundw
   case rel=>exact⟨1,by go_num,.inr (.inl ⟨rfl,by rw[HW1.o],by rw[uA1]⟩),HR.o.trans ((bR.alloc nR _).mono HR.o.size)⟩
   case measure=>simp[intOf]
  ·have c0:=hb 2;have c1:=hb 3;unfold qX at c0 c1;simp only[List.getElem?_cons_zero,List.getElem?_cons_succ]at c0 c1;obtain⟨s1,m1,uP1,uR1,uW1,uA1,hP1,hR1,hW1,hA1⟩:=HE2.o;clear hb;go_wp2_with (fail)
   go_roundw
   case rel=>exact⟨2,by go_num,.inr (.inr ⟨rfl,by rw[HW2.o],by rw[uA1]⟩),HR.o.trans ((bR.alloc nR _).mono HR.o.size)⟩
   case measure=>simp[intOf]
  ·clear hb ib;go_wp2_with (fail);refine(HFL.o wj).mono ?_;rintro e w2 ⟨rfl,hb2⟩;have HB2:=Hd (HR.o.trans (hb2.mono HR.o.size));obtain⟨hf,uo⟩:=HO.o;clear hb2;go_wp2_with (fail);go_ret;exact⟨aB HO.o.2,HB2.o⟩
end
end Go.Proofs.YthmegninhpihkaaGreat
