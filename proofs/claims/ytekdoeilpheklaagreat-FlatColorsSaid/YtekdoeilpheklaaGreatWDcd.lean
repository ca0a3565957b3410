import Derived.Test.YtekdoeilpheklaaGreatWSdg
set_option maxHeartbeats 16000000
set_option maxRecDepth 100000
open Go.Proofs.Tryz
namespace Go.Proofs.YtekdoeilpheklaaGreat
section
open Go.RowKit fH fV aF Go.Maps
def N9(m:Mp)(r:Mp×Bool):Mp×Bool:=if r.2=true then (if m.iJ r.1=true then m.kK r.1 else Mp.o,m.iJ r.1) else r
def dQ(t:T)(nd:Int->Nd)(i:Int):Mp×Bool:=(line t i).foldr (fun j r=>N9 (nd j).m r) ((nd 0).m,true)
theorem Hg(t:T)(nd:Int->Nd):dQ t nd 0=((nd 0).m,true):=by unfold dQ;rw[lX];rfl
theorem xW{t:T}(ok:Ok t)(nd:Int->Nd){i:Int}(hi:i∈ids t):dQ t nd i=N9 (nd i).m (dQ t nd (par t i)):=by
 unfold dQ;rw[dW ok hi];rfl
theorem YA{m n:Mp}(h1:m.right=true)(h2:n.right=true):m.ed [n]=if m.iJ n=true then (m.kK n,0) else (Mp.o,35):=by
 unfold Mp.ed;rw[if_pos ⟨h1,by simp[h2]⟩];unfold Mp.run;by_cases hb:m.iJ n=true
 ·rw[if_pos hb,if_pos hb];unfold Mp.run;rfl
 ·rw[if_neg hb,if_neg hb];rfl
theorem Dv{t:T}{nd:Int->Nd}(ok:Ok t)(h:∀i,(nd i).m.right=true){i:Int}(hi:i=0∨i∈ids t):aX t nd i=if (dQ t nd i).2=true then some (dQ t nd i).1 else none:=by
 refine ok.qA (P:=fun i=>aX t nd i=if (dQ t nd i).2=true then some (dQ t nd i).1 else none) ?_ (fun i hi ih=>?_) hi
 ·rw[iZ,Hg];rfl
 ·rw[jw ok nd hi,xW ok nd hi,ih];have hr:=mY ok h (ok.fB hi);rw[ih]at hr;generalize dQ t nd (par t i)=r at*;obtain⟨q,b⟩:=r;unfold N9 Ha;cases b with
  |false=>rfl
  |true=>
   simp only[if_true]at hr ⊢;rw[Option.bind_some,YA (h i) (hr q rfl)];by_cases hb:(nd i).m.iJ q=true
   ·rw[if_pos hb,if_pos hb,if_pos rfl,if_pos hb]
   ·rw[if_neg hb,if_neg hb];exact if_neg (by decide)
theorem Hf{t:T}{nd:Int->Nd}(ok:Ok t)(h:∀i,(nd i).m.right=true){i:Int}(hi:i=0∨i∈ids t):aX t nd i=none↔(dQ t nd i).2=false:=by
 rw[Dv ok h hi];cases (dQ t nd i).2<;>simp
theorem KU{x:aO}(h:∀i,has x.t i=true->aX x.t x.nd i≠none):(setSt x).2=0:=by
 unfold setSt;rw[if_pos h]
theorem Sm{M:Int}{x:aO}{l:List dN}{k:Nat}(hk:k<l.length)(h:(aW M x (l.take k)).2.2=0) :
  (fJ M (aW M x (l.take k)).1 l[k]).2=0->(aW M x (l.take (k+1))).1=(fJ M (aW M x (l.take k)).1 l[k]).1∧(aW M x (l.take (k+1))).2.2=0:=by
 intro hz;rw[List.take_succ_eq_append_getElem hk,qC,if_neg (by rw[h];decide)]
 have e:aW M (aW M x (l.take k)).1 [l[k]]=((fJ M (aW M x (l.take k)).1 l[k]).1,1,0):=by
  rw[cZ,if_neg (by rw[hz];decide)];rfl
 rw[e];exact⟨rfl,rfl⟩
theorem Nb{M:Int}{x:aO}{l:List dN}{k:Nat}(hl:l.length<=1024)(hk:k<l.length)(h:(aW M x (l.take k)).2.2=0)(hz:(fJ M (aW M x (l.take k)).1 l[k]).2≠0) :
  bY M setSt x l=(x,((k:Nat):Int),(fJ M (aW M x (l.take k)).1 l[k]).2):=by
 have e:aW M x l=((aW M x (l.take k)).1,k,(fJ M (aW M x (l.take k)).1 l[k]).2):=by
  have h1:l=l.take k++l[k]::l.drop (k+1):=by rw[←List.drop_eq_getElem_cons hk,List.take_append_drop]
  have h2:aW M x (l.take k++l[k]::l.drop (k+1))=((aW M x (l.take k)).1,k,(fJ M (aW M x (l.take k)).1 l[k]).2):=by
   rw[qC,if_neg (by rw[h];decide),cZ,if_pos hz,rE _ _ h,List.length_take];simp only[Nat.add_zero];rw[Nat.min_eq_left (Nat.le_of_lt hk)]
  rw[←h2,←h1]
 unfold bY;rw[if_neg (by omega),e,if_pos hz]
theorem JC{M:Int}{x:aO}{l:List dN}(hl:1024<l.length):bY M setSt x l=(x,0,12):=by
 unfold bY;rw[if_pos hl]
theorem Gl{M:Int}{x:aO}{l:List dN}(hl:l.length<=1024)(h:(aW M x l).2.2=0){i:Int}(hi:has (aW M x l).1.t i=true)(hw:aX (aW M x l).1.t (aW M x l).1.nd i=none) :
  bY M setSt x l=(x,((l.length:Nat):Int),35):=by
 unfold bY;rw[if_neg (by omega),if_neg (by rw[h];decide),DW hi hw,if_pos (show(35:Int)≠0 by decide),rE _ _ h]
theorem JD{M:Int}{x:aO}{l:List dN}(hl:l.length<=1024)(h:(aW M x l).2.2=0)(hw:∀i,has (aW M x l).1.t i=true->aX (aW M x l).1.t (aW M x l).1.nd i≠none) :
  bY M setSt x l=((setSt (aW M x l).1).1,((l.length:Nat):Int),0):=by
 unfold bY;rw[if_neg (by omega),if_neg (by rw[h];decide),KU hw,if_neg (by simp),rE _ _ h]
theorem wP{M:Int}{x:aO}{l:List dN}(ok:Ok x.t)(h:Room M x l.length)(k:Nat):(aW M x (l.take k)).1.t.length<=900:=by
 refine Ie ok ?_;have hk:(l.take k).length<=l.length:=by rw[List.length_take];omega
 obtain⟨h1,h2⟩:=h;exact⟨by omega,h2.imp (fun e=>by omega) id⟩
theorem dP.alike{w:World}{m:Nat}{H H':Int->Bool}{nd GU:Int->Nd}(h:dP w m H nd)(hH:∀i,H' i=H i)(hn:∀i,H i=true->GU i=nd i):dP w m H' GU:=by
 obtain⟨es,h1,h2,h3⟩:=h.ex
 exact⟨es,h1,fun i hi=>(hH i).trans (h2 i hi),fun i hi=>by
  rw[hH i]at hi;rw[hn i hi]
  exact h3 i hi⟩
theorem VM.YT{w:World}{m:Nat}{es:LV}(h:VM w m es)(j:Nat):w.cell? ⟨m,j,none⟩=none:=by
 obtain⟨es',clock,h1,_⟩:=h.own;unfold World.cell?;rw[h1]
theorem xU.grown{w w':World}{m:Nat}{es:LV}{v:Value}{n:Nd}(h:xU w v n)(hm:VM w m es)(hg:w.grownBy w' (some m)):xU w' v n:=by
 obtain⟨A,c,e,hr⟩:=h;refine⟨A,c,e,hr.stays fun a ea hne=>hg.block _ (Row.lt hr.row ea hne) fun e2=>?_⟩;obtain⟨b,off,e3,hc⟩:=hr.row (List.length_pos_iff.2 hne);rw[ea]at e3;obtain rfl:=Option.some.inj e3;have h1:=hc 0 (List.length_pos_iff.2 hne);obtain rfl:b=m:=by simpa using e2
 rw[hm.YT]at h1;cases h1
theorem dP.store{w:World}{m:Nat}{H:Int->Bool}{nd:Int->Nd}(h:dP w m H nd){t:T}(hH:∀i,H i=has t i)(hn:t.length<=100000){i:Int}(hi:I64 i)(hh:H i=true){v:Value}{n:Nd}(hv:xU w v n) :
  ∃w',(Instr.mapUpdate zS (.map (some m)) (.int .i64 i) v).run prog w=.ok () w'∧dP w' m H (upd nd i n)∧w.grownBy w' (some m):=by
 obtain⟨es,h1,h2,h3⟩:=h.ex;have hl:=Jf (t:=t) h1.rises fun j hj=>(hH j).symm.trans (h2 j hj);obtain⟨w',hrun,hm,hg⟩:=h1.store (t:=zS) (E:=61) underlying28 hi v (by have:=iI i v es;omega);refine⟨w',hrun,⟨_,hm,fun j hj=>?_,fun j hj=>?_⟩,hg⟩
 ·rw[omap.dC]at hj;by_cases e:j=i
  ·rw[e];exact hh
  ·rw[if_neg e]at hj;exact h2 j hj
 ·rw[omap.dC];by_cases e:j=i
  ·rw[if_pos e,e,upd_same];exact⟨v,rfl,hv.grown h1 hg⟩
  ·rw[if_neg e,upd_ne _ e];obtain⟨u,e2,hu⟩:=h3 j hj;exact⟨u,e2,hu.grown h1 hg⟩
theorem dP.look{w:World}{m:Nat}{H:Int->Bool}{nd:Int->Nd}(h:dP w m H nd){i:Int}(hi:I64 i)(hh:H i=true) :
  ∃A c,mM w A (nd i).lk.l∧∀W,bz w W->(Instr.lookup zS (.map (some m)) (.int .i64 i) false).run prog W=.ok (.agg ((nd i).cs A c).toArray) W:=by
 obtain⟨es,h1,h2,h3⟩:=h.ex;obtain⟨v,e,A,c,rfl,hr⟩:=h3 i hh;refine⟨A,c,hr,fun W hb=>?_⟩;rw[(h1.below hb).lookup (t:=zS) (E:=61) underlying28 (yV W) hi,e];rfl
theorem Je(n:Nd)(A:Option Addr)(c:Nat)(w:World):(Instr.field 61 (.agg (n.cs A c).toArray) 0).run prog w=.ok (.agg n.m.cs.toArray) w:=by kernel_rfl
theorem eP.like{w:World}{v:Value}{wi aH M:Int}{x y:aO}(h:eP w v wi aH M x)(h1:y.t=x.t)(h2:y.nd=x.nd):eP w v wi aH M y:=by
 obtain⟨t,nd,ws⟩:=x;obtain⟨t',GU,ws'⟩:=y;obtain rfl:t'=t:=h1;obtain rfl:GU=nd:=h2;exact h
theorem vH{P:Program}{fn:Func}{p q r:Tmp}{ty:TypeId}{tmps:Array Value}{w:World}{g:Nat}{cs:List Value}{d:TypeDesc}{v u:Value}{Q:Ending->World->Prop}(hfn:fn.results=#[.cell p ty,.tmp q,.tmp r])
  (hp:tmps.getD p undef=.pointer (some ⟨g,0,none⟩)) (hq:tmps.getD q undef=v) (hr:tmps.getD r undef=u) (hB:ax w g cs) (hu:P.underlying ty=some d) (hd:(match d with|.struct _|.array _ _=>true|_=>false)=true) (hi:(P.info? ty).map (·.size)=some cs.length)
  (h:Q (.returned (.tuple #[.agg cs.toArray,v,u])) w):bodyPost P fn Q Exit.ret { tmps:=tmps,defers:=[] } w:=by
 obtain⟨T,hg⟩:=hB;refine bodyPost_ret_by (v:=.tuple #[.agg cs.toArray,v,u]) ?_ rfl h;have hp':tmps[p]?.getD undef=.pointer (some ⟨g,0,none⟩):=by simpa using hp
 have hq':tmps[q]?.getD undef=v:=by simpa using hq
 have hr':tmps[r]?.getD undef=u:=by simpa using hr
 simp[results,hfn,hp',hq',hr',asAddr,run_loadVar_row w g T ty _ _ d hg hu hd (by simpa using hi)]
theorem Jh(wi aH M:Int)(tv:Value)(t:T)(m:Nat)(nd:Int->Nd)(w:World)(ht:aP w tv t)(hm:dP w m (has t) nd) :
  Calls prog 60 #[.agg #[.int .i64 wi,.int .i64 aH,.int .i64 M,tv,.map (some m)],.int .i64 0] w (aJ (.tuple #[.agg (dQ t nd 0).1.cs.toArray,.bool (dQ t nd 0).2]) w):=by
 rw[Hg];obtain⟨At,ct,rfl,hr,hy⟩:=ht;obtain⟨An,cn,hrn,hlk⟩:=hm.look ⟨by decide,by decide⟩ (ai.2 (.inl rfl));have TU:=Hd hlk;have TS:=Hd hm;have HR:=Hd hr;have HY:=Hd hy;clear hlk hrn hm hr hy;have HB0:Hid (bz w ((w.alloc (.cells (Vb wi aH M At t.length ct m).toArray 30)).alloc (.cells Vd.toArray 53))):=(bR.alloc nR _).alloc (by simp) _
 have jR:Hid (ax ((w.alloc (.cells (Vb wi aH M At t.length ct m).toArray 30)).alloc (.cells Vd.toArray 53)) w.heap.size (Vb wi aH M At t.length ct m)):=(az w (Vb wi aH M At t.length ct m) _).alloc _;have jg:Hid (ax ((w.alloc (.cells (Vb wi aH M At t.length ct m).toArray 30)).alloc (.cells Vd.toArray 53)) (w.heap.size+1) Vd):=aQ (w.alloc _) _ (by simp) Vd _;go_enter func60,ntmps60
 go_upto_region 1 with(fail)
 generalize ((w.alloc (.cells (Vb wi aH M At t.length ct m).toArray 30)).alloc (.cells Vd.toArray 53))=w0 at*;have hlk:=TU.o w0 HB0.o;have hfd:=Je (nd 0) An cn w0;have c4:=jR.o.c 4 rfl;have i0:=jR.o.inside;have HZ:Hid (ax (w0.alloc (.cells Vd.toArray 53)) w0.heap.size Vd):=az w0 Vd _;have iR:Hid (Below w0.heap.size w0 (w0.alloc (.cells Vd.toArray 53))):=bR.alloc nR _
 go_upto_region 2 with(first|(with_reducible refine gS ?_;first|(refine ay 53 _ _ rfl rfl rfl _ 0 rfl ((nd 0).m.cs) rfl (Vd) HZ.o ((nd 0).m.cs) rfl (nE rfl) af (Mp.one1 _) ?_;intro w1 HW1 gJ)))
 obtain⟨z,hz⟩:=aB w0.heap.size
 have iO:Hid (w.heap.size+1<z):=by rw[←hz];exact jg.o.inside
 rw[hz]at HW1 gJ HZ iR ⊢
 have HB1:Hid (bz w w1):=(HW1.o.below (HB0.o.trans (iR.o.mono (by have:=iO.o;omega))) (by have:=iO.o;omega))
 have jq:=Hd (HW1.o.blk (show w.heap.size+1≠z by have:=iO.o;omega) (jg.o.below' (by have:=iR.o;rw[←hz]at this;exact this)));have eH:=Hd (HW1.o.blk (show w.heap.size≠z by have:=iO.o;omega) (jR.o.below' (by have:=iR.o;rw[←hz]at this;exact this)));clear hlk hfd c4 i0 TU HW1 HZ iR HB0 jR jg hz
 go_wp2_with (first|(with_reducible refine gL ?_;first|(refine wt 53 0 rfl rfl rfl gJ.o ((nd 0).m.cs) rfl underlying53 rfl ?_))|(with_reducible refine gS ?_;first|(refine ay 53 _ _ rfl rfl rfl _ 0 rfl ((nd 0).m.cs) rfl (Vd) jq.o ((nd 0).m.cs) rfl (nE rfl) af (Mp.one1 _) ?_;intro w2 HW2 bQ)));exact aN rfl rfl rfl bQ.o underlying53 rfl af ⟨rfl,HW2.o.below HB1.o (by omega)⟩
theorem We(wi aH M:Int)(tv:Value)(t:T)(m:Nat)(nd:Int->Nd)(ok:Ok t)(hn:t.length<=1000)(nC:Int)(w:World)(ht:aP w tv t)(hm:dP w m (has t) nd)(hi:nC∈ids t)
  (ih:∀W,aP W tv t->dP W m (has t) nd->Calls prog 60 #[.agg #[.int .i64 wi,.int .i64 aH,.int .i64 M,tv,.map (some m)],.int .i64 (par t nC)] W (aJ (.tuple #[.agg (dQ t nd (par t nC)).1.cs.toArray,.bool (dQ t nd (par t nC)).2]) W)) :
  Calls prog 60 #[.agg #[.int .i64 wi,.int .i64 aH,.int .i64 M,tv,.map (some m)],.int .i64 nC] w (aJ (.tuple #[.agg (dQ t nd nC).1.cs.toArray,.bool (dQ t nd nC).2]) w):=by
 have h64:I64 nC:=kW ok (ai.2 (.inr hi));have hne:=ok.xe hi;have q:(nC==0)=false:=by simpa using hne
 have hhi:has t nC=true:=ai.2 (.inr hi);have HP:=Hd (fun A c W hr=>a1E A t c nC W hr (by omega));have HIH:=Hd ih;rw[xW ok nd hi];clear ih ok hi hne
 obtain⟨qv,hqv⟩:=aB (dQ t nd (par t nC))
 rw[hqv]at HIH ⊢;clear hqv
 obtain⟨R,hR⟩:=aB (N9 (nd nC).m qv)
 have HE:=Hd hR;rw[hR];clear hR;generalize par t nC=pp at*;obtain⟨At,ct,rfl,hr,hy⟩:=ht;obtain⟨An,cn,hrn,hlk⟩:=hm.look h64 hhi;have TU:=Hd hlk;have TS:=Hd hm;have HR:=Hd hr;have HY:=Hd hy;clear hlk hrn hm hr hy;have HB0:Hid (bz w ((w.alloc (.cells (Vb wi aH M At t.length ct m).toArray 30)).alloc (.cells Vd.toArray 53))):=(bR.alloc nR _).alloc (by simp) _
 have jR:Hid (ax ((w.alloc (.cells (Vb wi aH M At t.length ct m).toArray 30)).alloc (.cells Vd.toArray 53)) w.heap.size (Vb wi aH M At t.length ct m)):=(az w (Vb wi aH M At t.length ct m) _).alloc _;have jg:Hid (ax ((w.alloc (.cells (Vb wi aH M At t.length ct m).toArray 30)).alloc (.cells Vd.toArray 53)) (w.heap.size+1) Vd):=aQ (w.alloc _) _ (by simp) Vd _;go_enter func60,ntmps60
 go_upto_region 1 with(fail)
 generalize ((w.alloc (.cells (Vb wi aH M At t.length ct m).toArray 30)).alloc (.cells Vd.toArray 53))=w0 at*;have hlk:=TU.o w0 HB0.o;have hfd:=Je (nd nC) An cn w0;have c4:=jR.o.c 4 rfl;have i0:=jR.o.inside;have HZ:Hid (ax (w0.alloc (.cells Vd.toArray 53)) w0.heap.size Vd):=az w0 Vd _;have iR:Hid (Below w0.heap.size w0 (w0.alloc (.cells Vd.toArray 53))):=bR.alloc nR _
 go_upto_region 2 with(first|(with_reducible refine gS ?_;first|(refine ay 53 _ _ rfl rfl rfl _ 0 rfl ((nd nC).m.cs) rfl (Vd) HZ.o ((nd nC).m.cs) rfl (nE rfl) af (Mp.one1 _) ?_;intro w1 HW1 gJ)))
 obtain⟨z,hz⟩:=aB w0.heap.size
 have iO:Hid (w.heap.size+1<z):=by rw[←hz];exact jg.o.inside
 rw[hz]at HW1 gJ HZ iR ⊢
 have HB1:Hid (bz w w1):=(HW1.o.below (HB0.o.trans (iR.o.mono (by have:=iO.o;omega))) (by have:=iO.o;omega))
 have jq:=Hd (HW1.o.blk (show w.heap.size+1≠z by have:=iO.o;omega) (jg.o.below' (by have:=iR.o;rw[←hz]at this;exact this)));have eH:=Hd (HW1.o.blk (show w.heap.size≠z by have:=iO.o;omega) (jR.o.below' (by have:=iR.o;rw[←hz]at this;exact this)));clear hlk hfd c4 i0 TU HW1 HZ iR HB0 jR jg hz;clear hhi h64;have FS:Hid (∀W,bz w1 W->ax W w.heap.size (Vb wi aH M At t.length ct m)):=fun W hb=>eH.o.below' hb
 have FP:Hid (∀W,bz w1 W->Calls prog 93 #[.slice At t.length ct,.int .i64 nC] W (aJ (.int .i64 pp) W)):=fun W hb=>HP.o At ct W (aT.below HR.o (HB1.o.trans (hb.mono HB1.o.size)))
 have FW:Hid (∀W,bz w1 W->Calls prog 60 #[.agg (Vb wi aH M At t.length ct m).toArray,.int .i64 pp] W (aJ (.tuple #[.agg qv.1.cs.toArray,.bool qv.2]) W)):=fun W hb=>HIH.o W (aP.below ⟨At,ct,rfl,HR.o,HY.o⟩ (HB1.o.trans (hb.mono HB1.o.size))) (TS.o.below (HB1.o.trans (hb.mono HB1.o.size)))
 go_upto_region 4 with(fail)
 refine Kr (Below w1.heap.size) (fun L V wx=>JN w1.heap.size [] (Vd) (qv.1.cs) (L 9) (L 10) (V 7) wx) [18,19,20,21,22,23,17,24,25,7,8] (fun _=>bR) (fun _ _ _ h k=>h.trans k) (fun i=>match i with
  |0=>rV (.agg ((Vb wi aH M At t.length ct m)).toArray)
  |1=>rp w.heap.size 3
  |2=>rV (.slice At t.length ct)
  |3=>rV (.int .i64 nC)
  |4=>rV (.int .i64 pp)
  |5|6=>rV (.tuple #[.agg (qv.1.cs).toArray,.bool qv.2])
  |7=>rV (.agg (qv.1.cs).toArray)
  |8|11=>rV (.bool qv.2)
  |_=>ra) (bR.drew) (JN.start (old:=[]) trivial) ⟨?_,?_,?_,?_,?_,?_,?_,?_,?_,?_,?_,?_,trivial⟩ ?_
 any_goals (first|refine fE fun L a w1 hh=>?_|fail)
 ·have h2:=hh.p 2 w.heap.size 0;have hB:=Hd (FS.o _ hh.rel);have hJ:=Hd hh.st;exact aK 30 _ rfl w.heap.size 0 (by simpa[go_sem]using h2) _ hB.o ((Vb wi aH M At t.length ct m)) rfl _ underlying30 rfl af ⟨_,rfl,bR,rfl,JN.slots hJ.o sn⟩
 have h2:=hh.p 2 w.heap.size 0;have i0:=(FS.o _ hh.rel).inside;rotate_left;have h19:=rq (hh.d 1 19);have ⟨c0,i0⟩:=(FS.o _ hh.rel).ci 3 rfl;rotate_left;have h1:=hh.o 1 (v:=.int .i64 nC) rfl;rotate_left
 ·have h20:=rq (hh.d 2 20);have h21:=rq (hh.d 3 21);have hC:=Hd (FP.o _ hh.rel);have hJ:=hh.j;clear hh;go_simp;refine hC.o.mono ?_;rintro e w9 ⟨rfl,aS⟩;exact⟨_,rfl,aS.mono hJ.o.1.2.1,rfl,JN.slots (JN.below hJ.o aS) sn⟩
 ·have h18:=rq (hh.d 0 18);have h22:=rq (hh.d 4 22);have hC:=Hd (FW.o _ hh.rel);have hJ:=hh.j;clear hh;go_simp;refine hC.o.mono ?_;rintro e w9 ⟨rfl,aS⟩;exact⟨_,rfl,aS.mono hJ.o.1.2.1,rfl,JN.slots (JN.below hJ.o aS) sn⟩
 have h23:=rq (hh.d 5 23);rotate_left;have h17:=rq (hh.d 6 17);rotate_left;have h17:=rq (hh.d 6 17);rotate_left
 ·have hJ:=Hd hh.st;have hsz:=Hd hh.size;have hun:=Hd hh.un;clear hh;go_simp;exact⟨_,rfl,bR.alloc hJ.o.1.2.1 _,trivial,JN.new hJ.o hun.o (bM.aY (by rw[hsz.o];simp))⟩
 ·have tq:=rq (hh.d 7 24);have hup:=hh.up 9 af;obtain⟨g9,h9,jk,fA⟩:=hh.st.2.1 hup;have h7:a.tmps[7]?.getD undef=.pointer (some ⟨g9,0,none⟩):=rq (h9);rw[hh.un]at fA;have hJ:=Hd hh.st;have hun:=Hd hh.un;refine dB 53 _ _ rfl g9 0 (by simpa[go_sem]using h7) (qv.1.cs) (by simpa[go_sem]using tq) _ fA (nE rfl) af (by rfl) ?_;intro w9 nD Di;have hP:=hJ.o.KN hup hun.o h9 nD Di rfl;exact⟨undef,rfl,hP.2,trivial,hP.1⟩
 have xq:=rq (hh.d 8 25);rotate_left
 any_goals (have hJ:=hh.j;clear hh;go_simp;exact⟨_,rfl,bR,rfl,JN.slots hJ.o sn⟩)
 intro L w4 val hL hJ hR hv;have h8:val 8=.bool qv.2:=hv 11 8 af;have HR4:=Hd hR;obtain⟨g7,e7,hg7,hB7⟩:=hJ.2.1 (hL 9 (by decide));have vV:=Hd (And.intro hg7 (show ax w4 g7 qv.1.cs by rw[hL 10 (by decide)]at hB7;exact hB7));clear hv hL hJ hR hg7 hB7;simp only[regs.aC,List.map_cons,List.map_nil,h8];simp only[Act.put,List.setIfInBounds_toArray,List.set_cons_zero,List.set_cons_succ];clear h8
 skip
 rw[e7];clear e7;have FK4:=Hd (HB1.o.trans (HR4.o.mono HB1.o.size));have xO:=Hd (jq.o.below' HR4.o);have mG:=Hd (gJ.o.below' HR4.o);have HG7:Hid (w.heap.size+1≠g7):=by have h1:=vV.o.1;have h2:=jq.o.inside;show _≠_;omega
 obtain⟨qm,qb⟩:=qv;cases qb with
 |false=>
  have HE2:Hid (R=(qm,false)):=by show _=_;rw[←HE.o];rfl
  go_wp2_with (first|(with_reducible refine gL ?_;first|(refine kH 53 _ rfl rfl _ 0 rfl (qm.cs) vV.o.2 (qm.cs) rfl _ underlying53 rfl af ?_))|(with_reducible refine gS ?_;first|(refine ay 53 _ _ rfl rfl rfl _ 0 rfl (qm.cs) rfl (Vd) xO.o (qm.cs) rfl (nE rfl) af (Mp.one1 _) ?_;intro w5 zA uk)));rw[HE2.o];exact aN rfl rfl rfl uk.o underlying53 rfl af ⟨rfl,zA.o.below FK4.o (by omega)⟩
 |true=>
  have HE2:Hid (R=(if (nd nC).m.iJ qm=true then (nd nC).m.kK qm else Mp.o,(nd nC).m.iJ qm)):=by show _=_;rw[←HE.o];rfl
  obtain⟨rm,hrm⟩:=aB ((if (nd nC).m.iJ qm=true then (nd nC).m.kK qm else Mp.o))
  have HT:=Hd (UW (nd nC).m qm w4);rw[hrm]at HE2 HT;clear hrm;go_wp2_with (first|(with_reducible refine gL ?_;first|(refine wt 53 0 rfl rfl rfl mG.o ((nd nC).m.cs) rfl underlying53 rfl ?_)|(refine kH 53 _ rfl rfl _ 0 rfl (qm.cs) vV.o.2 (qm.cs) rfl _ underlying53 rfl af ?_)));refine HT.o.mono ?_;rintro e w5 ⟨rfl,hb5⟩;have FK5:Hid (bz w w5):=FK4.o.trans (hb5.mono FK4.o.size);have SN:=Hd (xO.o.below' hb5);clear hb5;unfold Mp.v
  go_wp2_with (first|(with_reducible refine gS ?_;first|(refine ay 53 _ _ rfl rfl rfl _ 0 rfl (rm.cs) rfl (Vd) SN.o (rm.cs) rfl (nE rfl) af (Mp.one1 _) ?_;intro w6 vP SS)));rw[HE2.o];exact aN rfl rfl rfl SS.o underlying53 rfl af ⟨rfl,vP.o.below FK5.o (by omega)⟩
theorem Bj(wi aH M:Int)(tv:Value)(t:T)(m:Nat)(nd:Int->Nd)(ok:Ok t)(hn:t.length<=1000)(k:Nat):∀(i:Int) (w:World),aP w tv t->dP w m (has t) nd->has t i=true->depth t i<=k ->
  Calls prog 60 #[.agg #[.int .i64 wi,.int .i64 aH,.int .i64 M,tv,.map (some m)],.int .i64 i] w (aJ (.tuple #[.agg (dQ t nd i).1.cs.toArray,.bool (dQ t nd i).2]) w):=by
 induction k with
 |zero=>
  intro i w ht hm hh hd
  have h0:i=0:=by
   rcases ai.1 hh with e|e
   ·exact e
   ·rw[bP ok e]at hd;omega
  subst h0;exact Jh wi aH M tv t m nd w ht hm
 |succ k ih=>
  intro i w ht hm hh hd;by_cases h0:i=0
  ·subst h0;exact Jh wi aH M tv t m nd w ht hm
  have hi:=(ai.1 hh).resolve_left h0;rw[bP ok hi]at hd;exact We wi aH M tv t m nd ok hn i w ht hm hi (fun W ht hm=>ih (par t i) W ht hm (ai.2 (ok.fB hi)) (by omega))
end
end Go.Proofs.YtekdoeilpheklaaGreat
