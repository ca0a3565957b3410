import Derived.Test.YthmegninhpihkaaGreatVSdg
set_option maxHeartbeats 16000000
set_option maxRecDepth 100000
open Go.Proofs.Tryz
namespace Go.Proofs.YthmegninhpihkaaGreat
section
open Go.RowKit fG gm aF Go.Maps
def LK(m:Mp)(r:Mp×Bool):Mp×Bool:=if r.2=true then (if m.iG r.1=true then m.kz r.1 else Mp.o,m.iG r.1) else r
def ed(t:T)(nd:Int->Nd)(i:Int):Mp×Bool:=(line t i).foldr (fun j r=>LK (nd j).m r) ((nd 0).m,true)
theorem Ff(t:T)(nd:Int->Nd):ed t nd 0=((nd 0).m,true):=by unfold ed;rw[kJ];rfl
theorem wW{t:T}(ok:Ok t)(nd:Int->Nd){i:Int}(hi:i∈ids t):ed t nd i=LK (nd i).m (ed t nd (par t i)):=by
 unfold ed;rw[dJ ok hi];rfl
theorem Ws{m n:Mp}(h1:m.right=true)(h2:n.right=true):m.eP [n]=if m.iG n=true then (m.kz n,0) else (Mp.o,35):=by
 unfold Mp.eP;rw[if_pos ⟨h1,by simp[h2]⟩];unfold Mp.run;by_cases hb:m.iG n=true
 ·rw[if_pos hb,if_pos hb];unfold Mp.run;rfl
 ·rw[if_neg hb,if_neg hb];rfl
theorem NZ{t:T}{nd:Int->Nd}(ok:Ok t)(h:∀i,(nd i).m.right=true){i:Int}(hi:i=0∨i∈ids t):aN t nd i=if (ed t nd i).2=true then some (ed t nd i).1 else none:=by
 refine ok.pV (P:=fun i=>aN t nd i=if (ed t nd i).2=true then some (ed t nd i).1 else none) ?_ (fun i hi ih=>?_) hi
 ·rw[jQ,Ff];rfl
 ·rw[kM ok nd hi,wW ok nd hi,ih];have hr:=mF ok h (ok.fQ hi);rw[ih]at hr;generalize ed t nd (par t i)=r at*;obtain⟨q,b⟩:=r;unfold LK LJ;cases b with
  |false=>rfl
  |true=>
   simp only[if_true]at hr ⊢;rw[Option.bind_some,Ws (h i) (hr q rfl)];by_cases hb:(nd i).m.iG q=true
   ·rw[if_pos hb,if_pos hb,if_pos rfl,if_pos hb]
   ·rw[if_neg hb,if_neg hb];exact if_neg (by decide)
theorem Fe{t:T}{nd:Int->Nd}(ok:Ok t)(h:∀i,(nd i).m.right=true){i:Int}(hi:i=0∨i∈ids t):aN t nd i=none↔(ed t nd i).2=false:=by
 rw[NZ ok h hi];cases (ed t nd i).2<;>simp
theorem Jj{x:aJ}(h:∀i,has x.t i=true->aN x.t x.nd i≠none):(setSt x).2=0:=by
 unfold setSt;rw[if_pos h]
theorem Qj{M:Int}{x:aJ}{l:List dH}{k:Nat}(hk:k<l.length)(h:(aO M x (l.take k)).2.2=0) :
  (eU M (aO M x (l.take k)).1 l[k]).2=0->(aO M x (l.take (k+1))).1=(eU M (aO M x (l.take k)).1 l[k]).1∧(aO M x (l.take (k+1))).2.2=0:=by
 intro hz;rw[List.take_succ_eq_append_getElem hk,pW,if_neg (by rw[h];decide)]
 have e:aO M (aO M x (l.take k)).1 [l[k]]=((eU M (aO M x (l.take k)).1 l[k]).1,1,0):=by
  rw[bW,if_neg (by rw[hz];decide)];rfl
 rw[e];exact⟨rfl,rfl⟩
theorem KG{M:Int}{x:aJ}{l:List dH}{k:Nat}(hl:l.length<=1024)(hk:k<l.length)(h:(aO M x (l.take k)).2.2=0)(hz:(eU M (aO M x (l.take k)).1 l[k]).2≠0) :
  bK M setSt x l=(x,((k:Nat):Int),(eU M (aO M x (l.take k)).1 l[k]).2):=by
 have e:aO M x l=((aO M x (l.take k)).1,k,(eU M (aO M x (l.take k)).1 l[k]).2):=by
  have h1:l=l.take k++l[k]::l.drop (k+1):=by rw[←List.drop_eq_getElem_cons hk,List.take_append_drop]
  have h2:aO M x (l.take k++l[k]::l.drop (k+1))=((aO M x (l.take k)).1,k,(eU M (aO M x (l.take k)).1 l[k]).2):=by
   rw[pW,if_neg (by rw[h];decide),bW,if_pos hz,qL _ _ h,List.length_take];simp only[Nat.add_zero];rw[Nat.min_eq_left (Nat.le_of_lt hk)]
  rw[←h2,←h1]
 unfold bK;rw[if_neg (by omega),e,if_pos hz]
theorem Ih{M:Int}{x:aJ}{l:List dH}(hl:1024<l.length):bK M setSt x l=(x,0,12):=by
 unfold bK;rw[if_pos hl]
theorem Et{M:Int}{x:aJ}{l:List dH}(hl:l.length<=1024)(h:(aO M x l).2.2=0){i:Int}(hi:has (aO M x l).1.t i=true)(hw:aN (aO M x l).1.t (aO M x l).1.nd i=none) :
  bK M setSt x l=(x,((l.length:Nat):Int),35):=by
 unfold bK;rw[if_neg (by omega),if_neg (by rw[h];decide),CB hi hw,if_pos (show(35:Int)≠0 by decide),qL _ _ h]
theorem Ii{M:Int}{x:aJ}{l:List dH}(hl:l.length<=1024)(h:(aO M x l).2.2=0)(hw:∀i,has (aO M x l).1.t i=true->aN (aO M x l).1.t (aO M x l).1.nd i≠none) :
  bK M setSt x l=((setSt (aO M x l).1).1,((l.length:Nat):Int),0):=by
 unfold bK;rw[if_neg (by omega),if_neg (by rw[h];decide),Jj hw,if_neg (by simp),qL _ _ h]
theorem uZ{M:Int}{x:aJ}{l:List dH}(ok:Ok x.t)(h:Room M x l.length)(k:Nat):(aO M x (l.take k)).1.t.length<=900:=by
 refine FY ok ?_;have hk:(l.take k).length<=l.length:=by rw[List.length_take];omega
 obtain⟨h1,h2⟩:=h;exact⟨by omega,h2.imp (fun e=>by omega) id⟩
theorem dN.alike{w:World}{m:Nat}{H H':Int->Bool}{nd ET:Int->Nd}(h:dN w m H nd)(hH:∀i,H' i=H i)(hn:∀i,H i=true->ET i=nd i):dN w m H' ET:=by
 obtain⟨es,h1,h2,h3⟩:=h.ex
 exact⟨es,h1,fun i hi=>(hH i).trans (h2 i hi),fun i hi=>by
  rw[hH i]at hi;rw[hn i hi]
  exact h3 i hi⟩
theorem VM.WT{w:World}{m:Nat}{es:LV}(h:VM w m es)(j:Nat):w.cell? ⟨m,j,none⟩=none:=by
 obtain⟨es',clock,h1,_⟩:=h.own;unfold World.cell?;rw[h1]
theorem wU.grown{w w':World}{m:Nat}{es:LV}{v:Value}{n:Nd}(h:wU w v n)(hm:VM w m es)(hg:w.grownBy w' (some m)):wU w' v n:=by
 obtain⟨A,c,e,hr⟩:=h;refine⟨A,c,e,hr.stays fun a ea hne=>hg.block _ (Row.lt hr.row ea hne) fun e2=>?_⟩;obtain⟨b,off,e3,hc⟩:=hr.row (List.length_pos_iff.2 hne);rw[ea]at e3;obtain rfl:=Option.some.inj e3;have h1:=hc 0 (List.length_pos_iff.2 hne);obtain rfl:b=m:=by simpa using e2
 rw[hm.WT]at h1;cases h1
theorem dN.store{w:World}{m:Nat}{H:Int->Bool}{nd:Int->Nd}(h:dN w m H nd){t:T}(hH:∀i,H i=has t i)(hn:t.length<=100000){i:Int}(hi:I64 i)(hh:H i=true){v:Value}{n:Nd}(hv:wU w v n) :
  ∃w',(Instr.mapUpdate yO (.map (some m)) (.int .i64 i) v).run prog w=.ok () w'∧dN w' m H (upd nd i n)∧w.grownBy w' (some m):=by
 obtain⟨es,h1,h2,h3⟩:=h.ex;have hl:=Hf (t:=t) h1.rises fun j hj=>(hH j).symm.trans (h2 j hj);obtain⟨w',hrun,hm,hg⟩:=h1.store (t:=yO) (E:=46) underlying28 hi v (by have:=iF i v es;omega);refine⟨w',hrun,⟨_,hm,fun j hj=>?_,fun j hj=>?_⟩,hg⟩
 ·rw[omap.dw]at hj;by_cases e:j=i
  ·rw[e];exact hh
  ·rw[if_neg e]at hj;exact h2 j hj
 ·rw[omap.dw];by_cases e:j=i
  ·rw[if_pos e,e,upd_same];exact⟨v,rfl,hv.grown h1 hg⟩
  ·rw[if_neg e,upd_ne _ e];obtain⟨u,e2,hu⟩:=h3 j hj;exact⟨u,e2,hu.grown h1 hg⟩
theorem dN.look{w:World}{m:Nat}{H:Int->Bool}{nd:Int->Nd}(h:dN w m H nd){i:Int}(hi:I64 i)(hh:H i=true) :
  ∃A c,oU w A (nd i).lk.l∧∀W,bz w W->(Instr.lookup yO (.map (some m)) (.int .i64 i) false).run prog W=.ok (.agg ((nd i).cs A c).toArray) W:=by
 obtain⟨es,h1,h2,h3⟩:=h.ex;obtain⟨v,e,A,c,rfl,hr⟩:=h3 i hh;refine⟨A,c,hr,fun W hb=>?_⟩;rw[(h1.below hb).lookup (t:=yO) (E:=46) underlying28 (xU W) hi,e];rfl
theorem Ha(n:Nd)(A:Option Addr)(c:Nat)(w:World):(Instr.field 46 (.agg (n.cs A c).toArray) 0).run prog w=.ok (.agg n.m.cs.toArray) w:=by kernel_rfl
theorem fC.like{w:World}{v:Value}{wi aT M:Int}{x y:aJ}(h:fC w v wi aT M x)(h1:y.t=x.t)(h2:y.nd=x.nd):fC w v wi aT M y:=by
 obtain⟨t,nd,ws⟩:=x;obtain⟨t',ET,ws'⟩:=y;obtain rfl:t'=t:=h1;obtain rfl:ET=nd:=h2;exact h
theorem uy{P:Program}{fn:Func}{p q r:Tmp}{ty:TypeId}{tmps:Array Value}{w:World}{g:Nat}{cs:List Value}{d:TypeDesc}{v u:Value}{Q:Ending->World->Prop}(hfn:fn.results=#[.cell p ty,.tmp q,.tmp r])
  (hp:tmps.getD p undef=.pointer (some ⟨g,0,none⟩)) (hq:tmps.getD q undef=v) (hr:tmps.getD r undef=u) (hB:az w g cs) (hu:P.underlying ty=some d) (hd:(match d with|.struct _|.array _ _=>true|_=>false)=true) (hi:(P.info? ty).map (·.size)=some cs.length)
  (h:Q (.returned (.tuple #[.agg cs.toArray,v,u])) w):bodyPost P fn Q Exit.ret { tmps:=tmps,defers:=[] } w:=by
 obtain⟨T,hg⟩:=hB;refine bodyPost_ret_by (v:=.tuple #[.agg cs.toArray,v,u]) ?_ rfl h;have hp':tmps[p]?.getD undef=.pointer (some ⟨g,0,none⟩):=by simpa using hp
 have hq':tmps[q]?.getD undef=v:=by simpa using hq
 have hr':tmps[r]?.getD undef=u:=by simpa using hr
 simp[results,hfn,hp',hq',hr',asAddr,run_loadVar_row w g T ty _ _ d hg hu hd (by simpa using hi)]
theorem Hg(wi aT M:Int)(tv:Value)(t:T)(m:Nat)(nd:Int->Nd)(w:World)(ht:aP w tv t)(hm:dN w m (has t) nd) :
  Calls prog 17 #[.agg #[.int .i64 wi,.int .i64 aT,.int .i64 M,tv,.map (some m)],.int .i64 0] w (aZ (.tuple #[.agg (ed t nd 0).1.cs.toArray,.bool (ed t nd 0).2]) w):=by
 rw[Ff];obtain⟨At,ct,rfl,hr,hy⟩:=ht;obtain⟨An,cn,hrn,hlk⟩:=hm.look ⟨by decide,by decide⟩ (ah.2 (.inl rfl));have HLK:=Hd hlk;have QS:=Hd hm;have HR:=Hd hr;have HY:=Hd hy;clear hlk hrn hm hr hy;have HB0:Hid (bz w ((w.alloc (.cells (Vb wi aT M At t.length ct m).toArray 30)).alloc (.cells Vd.toArray 37))):=(bR.alloc nR _).alloc (by simp) _
 have lY:Hid (az ((w.alloc (.cells (Vb wi aT M At t.length ct m).toArray 30)).alloc (.cells Vd.toArray 37)) w.heap.size (Vb wi aT M At t.length ct m)):=(aA w (Vb wi aT M At t.length ct m) _).alloc _;have jd:Hid (az ((w.alloc (.cells (Vb wi aT M At t.length ct m).toArray 30)).alloc (.cells Vd.toArray 37)) (w.heap.size+1) Vd):=aY (w.alloc _) _ (by simp) Vd _;go_enter func17,ntmps17
 go_upto_region 1 with(fail)
 generalize ((w.alloc (.cells (Vb wi aT M At t.length ct m).toArray 30)).alloc (.cells Vd.toArray 37))=w0 at*;have hlk:=HLK.o w0 HB0.o;have hfd:=Ha (nd 0) An cn w0;have c4:=lY.o.c 4 rfl;have i0:=lY.o.inside;have HZ:Hid (az (w0.alloc (.cells Vd.toArray 37)) w0.heap.size Vd):=aA w0 Vd _;have iD:Hid (Below w0.heap.size w0 (w0.alloc (.cells Vd.toArray 37))):=bR.alloc nR _
 go_upto_region 2 with(first|(with_reducible refine gS ?_;first|(refine ay 37 _ _ rfl rfl rfl _ 0 rfl ((nd 0).m.cs) rfl (Vd) HZ.o ((nd 0).m.cs) rfl (nE rfl) ag (Mp.one1 _) ?_;intro w1 HW1 og)))
 obtain⟨z,hz⟩:=aC w0.heap.size
 have iL:Hid (w.heap.size+1<z):=by rw[←hz];exact jd.o.inside
 rw[hz]at HW1 og HZ iD ⊢
 have HB1:Hid (bz w w1):=(HW1.o.below (HB0.o.trans (iD.o.mono (by have:=iL.o;omega))) (by have:=iL.o;omega))
 have jm:=Hd (HW1.o.blk (show w.heap.size+1≠z by have:=iL.o;omega) (jd.o.below' (by have:=iD.o;rw[←hz]at this;exact this)));have fV:=Hd (HW1.o.blk (show w.heap.size≠z by have:=iL.o;omega) (lY.o.below' (by have:=iD.o;rw[←hz]at this;exact this)));clear hlk hfd c4 i0 HLK HW1 HZ iD HB0 lY jd hz
 go_wp2_with (first|(with_reducible refine gL ?_;first|(refine wt 37 0 rfl rfl rfl og.o ((nd 0).m.cs) rfl underlying37 rfl ?_))|(with_reducible refine gS ?_;first|(refine ay 37 _ _ rfl rfl rfl _ 0 rfl ((nd 0).m.cs) rfl (Vd) jm.o ((nd 0).m.cs) rfl (nE rfl) ag (Mp.one1 _) ?_;intro w2 HW2 dE)));exact aS rfl rfl rfl dE.o underlying37 rfl ag ⟨rfl,HW2.o.below HB1.o (by omega)⟩
theorem TN(wi aT M:Int)(tv:Value)(t:T)(m:Nat)(nd:Int->Nd)(ok:Ok t)(hn:t.length<=1000)(vM:Int)(w:World)(ht:aP w tv t)(hm:dN w m (has t) nd)(hi:vM∈ids t)
  (ih:∀W,aP W tv t->dN W m (has t) nd->Calls prog 17 #[.agg #[.int .i64 wi,.int .i64 aT,.int .i64 M,tv,.map (some m)],.int .i64 (par t vM)] W (aZ (.tuple #[.agg (ed t nd (par t vM)).1.cs.toArray,.bool (ed t nd (par t vM)).2]) W)) :
  Calls prog 17 #[.agg #[.int .i64 wi,.int .i64 aT,.int .i64 M,tv,.map (some m)],.int .i64 vM] w (aZ (.tuple #[.agg (ed t nd vM).1.cs.toArray,.bool (ed t nd vM).2]) w):=by
 have h64:I64 vM:=mX ok (ah.2 (.inr hi));have hne:=ok.uK hi;have q:(vM==0)=false:=by simpa using hne
 have hhi:has t vM=true:=ah.2 (.inr hi);have HP:=Hd (fun A c W hr=>a2c A t c vM W hr (by omega));have HIH:=Hd ih;rw[wW ok nd hi];clear ih ok hi hne
 obtain⟨qv,hqv⟩:=aC (ed t nd (par t vM))
 rw[hqv]at HIH ⊢;clear hqv
 obtain⟨R,hR⟩:=aC (LK (nd vM).m qv)
 have HE:=Hd hR;rw[hR];clear hR;generalize par t vM=pp at*;obtain⟨At,ct,rfl,hr,hy⟩:=ht;obtain⟨An,cn,hrn,hlk⟩:=hm.look h64 hhi;have HLK:=Hd hlk;have QS:=Hd hm;have HR:=Hd hr;have HY:=Hd hy;clear hlk hrn hm hr hy;have HB0:Hid (bz w ((w.alloc (.cells (Vb wi aT M At t.length ct m).toArray 30)).alloc (.cells Vd.toArray 37))):=(bR.alloc nR _).alloc (by simp) _
 have lY:Hid (az ((w.alloc (.cells (Vb wi aT M At t.length ct m).toArray 30)).alloc (.cells Vd.toArray 37)) w.heap.size (Vb wi aT M At t.length ct m)):=(aA w (Vb wi aT M At t.length ct m) _).alloc _;have jd:Hid (az ((w.alloc (.cells (Vb wi aT M At t.length ct m).toArray 30)).alloc (.cells Vd.toArray 37)) (w.heap.size+1) Vd):=aY (w.alloc _) _ (by simp) Vd _;go_enter func17,ntmps17
 go_upto_region 1 with(fail)
 generalize ((w.alloc (.cells (Vb wi aT M At t.length ct m).toArray 30)).alloc (.cells Vd.toArray 37))=w0 at*;have hlk:=HLK.o w0 HB0.o;have hfd:=Ha (nd vM) An cn w0;have c4:=lY.o.c 4 rfl;have i0:=lY.o.inside;have HZ:Hid (az (w0.alloc (.cells Vd.toArray 37)) w0.heap.size Vd):=aA w0 Vd _;have iD:Hid (Below w0.heap.size w0 (w0.alloc (.cells Vd.toArray 37))):=bR.alloc nR _
 go_upto_region 2 with(first|(with_reducible refine gS ?_;first|(refine ay 37 _ _ rfl rfl rfl _ 0 rfl ((nd vM).m.cs) rfl (Vd) HZ.o ((nd vM).m.cs) rfl (nE rfl) ag (Mp.one1 _) ?_;intro w1 HW1 og)))
 obtain⟨z,hz⟩:=aC w0.heap.size
 have iL:Hid (w.heap.size+1<z):=by rw[←hz];exact jd.o.inside
 rw[hz]at HW1 og HZ iD ⊢
 have HB1:Hid (bz w w1):=(HW1.o.below (HB0.o.trans (iD.o.mono (by have:=iL.o;omega))) (by have:=iL.o;omega))
 have jm:=Hd (HW1.o.blk (show w.heap.size+1≠z by have:=iL.o;omega) (jd.o.below' (by have:=iD.o;rw[←hz]at this;exact this)));have fV:=Hd (HW1.o.blk (show w.heap.size≠z by have:=iL.o;omega) (lY.o.below' (by have:=iD.o;rw[←hz]at this;exact this)));clear hlk hfd c4 i0 HLK HW1 HZ iD HB0 lY jd hz;clear hhi h64;have FS:Hid (∀W,bz w1 W->az W w.heap.size (Vb wi aT M At t.length ct m)):=fun W hb=>fV.o.below' hb
 have FP:Hid (∀W,bz w1 W->Calls prog 40 #[.slice At t.length ct,.int .i64 vM] W (aZ (.int .i64 pp) W)):=fun W hb=>HP.o At ct W (aV.below HR.o (HB1.o.trans (hb.mono HB1.o.size)))
 have FW:Hid (∀W,bz w1 W->Calls prog 17 #[.agg (Vb wi aT M At t.length ct m).toArray,.int .i64 pp] W (aZ (.tuple #[.agg qv.1.cs.toArray,.bool qv.2]) W)):=fun W hb=>HIH.o W (aP.below ⟨At,ct,rfl,HR.o,HY.o⟩ (HB1.o.trans (hb.mono HB1.o.size))) (QS.o.below (HB1.o.trans (hb.mono HB1.o.size)))
 go_upto_region 4 with(fail)
 refine QC (Below w1.heap.size) (fun L V wx=>JN w1.heap.size [] (Vd) (qv.1.cs) (L 9) (L 10) (V 7) wx) [18,19,20,21,22,23,17,24,25,7,8] (fun _=>bR) (fun _ _ _ h k=>h.trans k) (fun i=>match i with
  |0=>rV (.agg ((Vb wi aT M At t.length ct m)).toArray)
  |1=>rp w.heap.size 3
  |2=>rV (.slice At t.length ct)
  |3=>rV (.int .i64 vM)
  |4=>rV (.int .i64 pp)
  |5|6=>rV (.tuple #[.agg (qv.1.cs).toArray,.bool qv.2])
  |7=>rV (.agg (qv.1.cs).toArray)
  |8|11=>rV (.bool qv.2)
  |_=>ra) (bR.drew) (JN.start (old:=[]) trivial) ⟨?_,?_,?_,?_,?_,?_,?_,?_,?_,?_,?_,?_,trivial⟩ ?_
 any_goals (first|refine fK fun L a w1 hh=>?_|fail)
 ·have h2:=hh.p 2 w.heap.size 0;have hB:=Hd (FS.o _ hh.rel);have hJ:=Hd hh.st;exact aK 30 _ rfl w.heap.size 0 (by simpa[go_sem]using h2) _ hB.o ((Vb wi aT M At t.length ct m)) rfl _ underlying30 rfl ag ⟨_,rfl,bR,rfl,JN.slots hJ.o sn⟩
 have h2:=hh.p 2 w.heap.size 0;have i0:=(FS.o _ hh.rel).inside;rotate_left;have h19:=rq (hh.d 1 19);have ⟨c0,i0⟩:=(FS.o _ hh.rel).ci 3 rfl;rotate_left;have h1:=hh.o 1 (v:=.int .i64 vM) rfl;rotate_left
 ·have h20:=rq (hh.d 2 20);have h21:=rq (hh.d 3 21);have hC:=Hd (FP.o _ hh.rel);have hJ:=hh.j;clear hh;go_simp;refine hC.o.mono ?_;rintro e w9 ⟨rfl,bD⟩;exact⟨_,rfl,bD.mono hJ.o.1.2.1,rfl,JN.slots (JN.below hJ.o bD) sn⟩
 ·have h18:=rq (hh.d 0 18);have h22:=rq (hh.d 4 22);have hC:=Hd (FW.o _ hh.rel);have hJ:=hh.j;clear hh;go_simp;refine hC.o.mono ?_;rintro e w9 ⟨rfl,bD⟩;exact⟨_,rfl,bD.mono hJ.o.1.2.1,rfl,JN.slots (JN.below hJ.o bD) sn⟩
 have h23:=rq (hh.d 5 23);rotate_left;have h17:=rq (hh.d 6 17);rotate_left;have h17:=rq (hh.d 6 17);rotate_left
 ·have hJ:=Hd hh.st;have hsz:=Hd hh.size;have hun:=Hd hh.un;clear hh;go_simp;exact⟨_,rfl,bR.alloc hJ.o.1.2.1 _,trivial,JN.new hJ.o hun.o (bM.bI (by rw[hsz.o];simp))⟩
 ·have CX:=rq (hh.d 7 24);have hup:=hh.up 9 ag;obtain⟨g9,vO,mZ,gK⟩:=hh.st.2.1 hup;have h7:a.tmps[7]?.getD undef=.pointer (some ⟨g9,0,none⟩):=rq (vO);rw[hh.un]at gK;have hJ:=Hd hh.st;have hun:=Hd hh.un;refine dn 37 _ _ rfl g9 0 (by simpa[go_sem]using h7) (qv.1.cs) (by simpa[go_sem]using CX) _ gK (nE rfl) ag (by rfl) ?_;intro w9 ng BD;have hP:=hJ.o.Og hup hun.o vO ng BD rfl;exact⟨undef,rfl,hP.2,trivial,hP.1⟩
 have pO:=rq (hh.d 8 25);rotate_left
 any_goals (have hJ:=hh.j;clear hh;go_simp;exact⟨_,rfl,bR,rfl,JN.slots hJ.o sn⟩)
 intro L w4 val hL hJ hR hv;have h8:val 8=.bool qv.2:=hv 11 8 ag;have HR4:=Hd hR;obtain⟨g7,e7,YY,hB7⟩:=hJ.2.1 (hL 9 (by decide));have sD:=Hd (And.intro YY (show az w4 g7 qv.1.cs by rw[hL 10 (by decide)]at hB7;exact hB7));clear hv hL hJ hR YY hB7;simp only[regs.aG,List.map_cons,List.map_nil,h8];simp only[Act.put,List.setIfInBounds_toArray,List.set_cons_zero,List.set_cons_succ];clear h8
 skip
 rw[e7];clear e7;have FK4:=Hd (HB1.o.trans (HR4.o.mono HB1.o.size));have wO:=Hd (jm.o.below' HR4.o);have nZ:=Hd (og.o.below' HR4.o);have HG7:Hid (w.heap.size+1≠g7):=by have h1:=sD.o.1;have h2:=jm.o.inside;show _≠_;omega
 obtain⟨qm,qb⟩:=qv;cases qb with
 |false=>
  have HE2:Hid (R=(qm,false)):=by show _=_;rw[←HE.o];rfl
  go_wp2_with (first|(with_reducible refine gL ?_;first|(refine lF 37 _ rfl rfl _ 0 rfl (qm.cs) sD.o.2 (qm.cs) rfl _ underlying37 rfl ag ?_))|(with_reducible refine gS ?_;first|(refine ay 37 _ _ rfl rfl rfl _ 0 rfl (qm.cs) rfl (Vd) wO.o (qm.cs) rfl (nE rfl) ag (Mp.one1 _) ?_;intro w5 yA uS)));rw[HE2.o];exact aS rfl rfl rfl uS.o underlying37 rfl ag ⟨rfl,yA.o.below FK4.o (by omega)⟩
 |true=>
  have HE2:Hid (R=(if (nd vM).m.iG qm=true then (nd vM).m.kz qm else Mp.o,(nd vM).m.iG qm)):=by show _=_;rw[←HE.o];rfl
  obtain⟨rm,hrm⟩:=aC ((if (nd vM).m.iG qm=true then (nd vM).m.kz qm else Mp.o))
  have HT:=Hd (Sv (nd vM).m qm w4);rw[hrm]at HE2 HT;clear hrm;go_wp2_with (first|(with_reducible refine gL ?_;first|(refine wt 37 0 rfl rfl rfl nZ.o ((nd vM).m.cs) rfl underlying37 rfl ?_)|(refine lF 37 _ rfl rfl _ 0 rfl (qm.cs) sD.o.2 (qm.cs) rfl _ underlying37 rfl ag ?_)));refine HT.o.mono ?_;rintro e w5 ⟨rfl,hb5⟩;have FK5:Hid (bz w w5):=FK4.o.trans (hb5.mono FK4.o.size);have Qw:=Hd (wO.o.below' hb5);clear hb5;unfold Mp.v
  go_wp2_with (first|(with_reducible refine gS ?_;first|(refine ay 37 _ _ rfl rfl rfl _ 0 rfl (rm.cs) rfl (Vd) Qw.o (rm.cs) rfl (nE rfl) ag (Mp.one1 _) ?_;intro w6 uG E8)));rw[HE2.o];exact aS rfl rfl rfl E8.o underlying37 rfl ag ⟨rfl,uG.o.below FK5.o (by omega)⟩
theorem JY(wi aT M:Int)(tv:Value)(t:T)(m:Nat)(nd:Int->Nd)(ok:Ok t)(hn:t.length<=1000)(k:Nat):∀(i:Int) (w:World),aP w tv t->dN w m (has t) nd->has t i=true->depth t i<=k ->
  Calls prog 17 #[.agg #[.int .i64 wi,.int .i64 aT,.int .i64 M,tv,.map (some m)],.int .i64 i] w (aZ (.tuple #[.agg (ed t nd i).1.cs.toArray,.bool (ed t nd i).2]) w):=by
 induction k with
 |zero=>
  intro i w ht hm hh hd
  have h0:i=0:=by
   rcases ah.1 hh with e|e
   ·exact e
   ·rw[bP ok e]at hd;omega
  subst h0;exact Hg wi aT M tv t m nd w ht hm
 |succ k ih=>
  intro i w ht hm hh hd;by_cases h0:i=0
  ·subst h0;exact Hg wi aT M tv t m nd w ht hm
  have hi:=(ah.1 hh).resolve_left h0;rw[bP ok hi]at hd;exact TN wi aT M tv t m nd ok hn i w ht hm hi (fun W ht hm=>ih (par t i) W ht hm (ah.2 (ok.fQ hi)) (by omega))
end
end Go.Proofs.YthmegninhpihkaaGreat
