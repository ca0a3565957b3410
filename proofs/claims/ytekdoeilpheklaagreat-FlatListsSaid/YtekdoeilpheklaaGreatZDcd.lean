import Derived.Test.YtekdoeilpheklaaGreatZSdg
set_option maxHeartbeats 16000000
set_option maxRecDepth 100000
open Go.Proofs.Tryz
namespace Go.Proofs.YtekdoeilpheklaaGreat
section
open Go.RowKit fK fZ aB Go.Maps
def Nu(m:Mp)(r:Mp×Bool):Mp×Bool:=if r.2=true then (if m.iE r.1=true then m.kz r.1 else Mp.o,m.iE r.1) else r
def dM(t:T)(nd:Int->Nd)(i:Int):Mp×Bool:=(line t i).foldr (fun j r=>Nu (nd j).m r) ((nd 0).m,true)
theorem Gn(t:T)(nd:Int->Nd):dM t nd 0=((nd 0).m,true):=by unfold dM;rw[lM];rfl
theorem xC{t:T}(ok:Ok t)(nd:Int->Nd){i:Int}(hi:i∈ids t):dM t nd i=Nu (nd i).m (dM t nd (par t i)):=by
 unfold dM;rw[dR ok hi];rfl
theorem Ya{m n:Mp}(h1:m.right=true)(h2:n.right=true):m.dW [n]=if m.iE n=true then (m.kz n,0) else (Mp.o,35):=by
 unfold Mp.dW;rw[if_pos ⟨h1,by simp[h2]⟩];unfold Mp.run;by_cases hb:m.iE n=true
 ·rw[if_pos hb,if_pos hb];unfold Mp.run;rfl
 ·rw[if_neg hb,if_neg hb];rfl
theorem CJ{t:T}{nd:Int->Nd}(ok:Ok t)(h:∀i,(nd i).m.right=true){i:Int}(hi:i=0∨i∈ids t):aT t nd i=if (dM t nd i).2=true then some (dM t nd i).1 else none:=by
 refine ok.pW (P:=fun i=>aT t nd i=if (dM t nd i).2=true then some (dM t nd i).1 else none) ?_ (fun i hi ih=>?_) hi
 ·rw[iQ,Gn];rfl
 ·rw[jg ok nd hi,xC ok nd hi,ih];have hr:=mJ ok h (ok.eX hi);rw[ih] at hr;generalize dM t nd (par t i)=r at *;obtain⟨q,b⟩:=r;unfold Nu Gj;cases b with
  | false=>rfl
  | true=>
   simp only[if_true] at hr ⊢;rw[Option.bind_some,Ya (h i) (hr q rfl)];by_cases hb:(nd i).m.iE q=true
   ·rw[if_pos hb,if_pos hb,if_pos rfl,if_pos hb]
   ·rw[if_neg hb,if_neg hb];exact if_neg (by decide)
theorem Gm{t:T}{nd:Int->Nd}(ok:Ok t)(h:∀i,(nd i).m.right=true){i:Int}(hi:i=0∨i∈ids t):aT t nd i=none↔(dM t nd i).2=false:=by
 rw[CJ ok h hi];cases (dM t nd i).2<;>simp
theorem JZ{x:aJ}(h:∀i,has x.t i=true->aT x.t x.nd i≠none):(setSt x).2=0:=by
 unfold setSt;rw[if_pos h]
theorem Rn{M:Int}{x:aJ}{l:List dJ}{k:Nat}(hk:k<l.length)(h:(aQ M x (l.take k)).2.2=0) :
  (fD M (aQ M x (l.take k)).1 l[k]).2=0->(aQ M x (l.take (k+1))).1=(fD M (aQ M x (l.take k)).1 l[k]).1∧(aQ M x (l.take (k+1))).2.2=0:=by
 intro hz;rw[List.take_succ_eq_append_getElem hk,pY,if_neg (by rw[h];decide)]
 have e:aQ M (aQ M x (l.take k)).1 [l[k]]=((fD M (aQ M x (l.take k)).1 l[k]).1,1,0):=by
  rw[bW,if_neg (by rw[hz];decide)];rfl
 rw[e];exact⟨rfl,rfl⟩
theorem LZ{M:Int}{x:aJ}{l:List dJ}{k:Nat}(hl:l.length<=1024)(hk:k<l.length)(h:(aQ M x (l.take k)).2.2=0)(hz:(fD M (aQ M x (l.take k)).1 l[k]).2≠0) :
  bU M setSt x l=(x,((k:Nat):Int),(fD M (aQ M x (l.take k)).1 l[k]).2):=by
 have e:aQ M x l=((aQ M x (l.take k)).1,k,(fD M (aQ M x (l.take k)).1 l[k]).2):=by
  have h1:l=l.take k++l[k]::l.drop (k+1):=by rw[← List.drop_eq_getElem_cons hk,List.take_append_drop]
  have h2:aQ M x (l.take k++l[k]::l.drop (k+1))=((aQ M x (l.take k)).1,k,(fD M (aQ M x (l.take k)).1 l[k]).2):=by
   rw[pY,if_neg (by rw[h];decide),bW,if_pos hz,qO _ _ h,List.length_take];simp only[Nat.add_zero];rw[Nat.min_eq_left (Nat.le_of_lt hk)]
  rw[← h2,← h1]
 unfold bU;rw[if_neg (by omega),e,if_pos hz]
theorem I7{M:Int}{x:aJ}{l:List dJ}(hl:1024<l.length):bU M setSt x l=(x,0,12):=by
 unfold bU;rw[if_pos hl]
theorem EY{M:Int}{x:aJ}{l:List dJ}(hl:l.length<=1024)(h:(aQ M x l).2.2=0){i:Int}(hi:has (aQ M x l).1.t i=true)(hw:aT (aQ M x l).1.t (aQ M x l).1.nd i=none) :
  bU M setSt x l=(x,((l.length:Nat):Int),35):=by
 unfold bU;rw[if_neg (by omega),if_neg (by rw[h];decide),Dc hi hw,if_pos (show(35:Int)≠0 by decide),qO _ _ h]
theorem I8{M:Int}{x:aJ}{l:List dJ}(hl:l.length<=1024)(h:(aQ M x l).2.2=0)(hw:∀i,has (aQ M x l).1.t i=true->aT (aQ M x l).1.t (aQ M x l).1.nd i≠none) :
  bU M setSt x l=((setSt (aQ M x l).1).1,((l.length:Nat):Int),0):=by
 unfold bU;rw[if_neg (by omega),if_neg (by rw[h];decide),JZ hw,if_neg (by simp),qO _ _ h]
theorem vN{M:Int}{x:aJ}{l:List dJ}(ok:Ok x.t)(h:Room M x l.length)(k:Nat):(aQ M x (l.take k)).1.t.length<=900:=by
 refine GM ok ?_;have hk:(l.take k).length<=l.length:=by rw[List.length_take];omega
 obtain⟨h1,h2⟩:=h;exact⟨by omega,h2.imp (fun e=>by omega) id⟩
theorem dL.alike{w:World}{m:Nat}{H H':Int->Bool}{nd F5:Int->Nd}(h:dL w m H nd)(hH:∀i,H' i=H i)(hn:∀i,H i=true->F5 i=nd i):dL w m H' F5:=by
 obtain⟨es,h1,h2,h3⟩:=h.ex
 exact⟨es,h1,fun i hi=>(hH i).trans (h2 i hi),fun i hi=>by
  rw[hH i] at hi;rw[hn i hi]
  exact h3 i hi⟩
theorem VM.Yr{w:World}{m:Nat}{es:LV}(h:VM w m es)(j:Nat):w.cell? ⟨m,j,none⟩=none:=by
 obtain⟨es',clock,h1,_⟩:=h.own;unfold World.cell?;rw[h1]
theorem xA.grown{w w':World}{m:Nat}{es:LV}{v:Value}{n:Nd}(h:xA w v n)(hm:VM w m es)(hg:w.grownBy w' (some m)):xA w' v n:=by
 obtain⟨A,c,e,hr⟩:=h;refine⟨A,c,e,hr.stays fun a ea hne=>hg.block _ (Row.lt hr.row ea hne) fun e2=>?_⟩;obtain⟨b,off,e3,hc⟩:=hr.row (List.length_pos_iff.2 hne);rw[ea] at e3;obtain rfl:=Option.some.inj e3;have h1:=hc 0 (List.length_pos_iff.2 hne);obtain rfl:b=m:=by simpa using e2
 rw[hm.Yr] at h1;cases h1
theorem dL.store{w:World}{m:Nat}{H:Int->Bool}{nd:Int->Nd}(h:dL w m H nd){t:T}(hH:∀i,H i=has t i)(hn:t.length<=100000){i:Int}(hi:I64 i)(hh:H i=true){v:Value}{n:Nd}(hv:xA w v n) :
  ∃w',(Instr.mapUpdate zo (.map (some m)) (.int .i64 i) v).run prog w=.ok () w'∧dL w' m H (upd nd i n)∧w.grownBy w' (some m):=by
 obtain⟨es,h1,h2,h3⟩:=h.ex;have hl:=IB (t:=t) h1.rises fun j hj=>(hH j).symm.trans (h2 j hj);obtain⟨w',hrun,hm,hg⟩:=h1.store (t:=zo) (E:=61) underlying28 hi v (by have:=iD i v es;omega);refine⟨w',hrun,⟨_,hm,fun j hj=>?_,fun j hj=>?_⟩,hg⟩
 ·rw[omap.dw] at hj;by_cases e:j=i
  ·rw[e];exact hh
  ·rw[if_neg e] at hj;exact h2 j hj
 ·rw[omap.dw];by_cases e:j=i
  ·rw[if_pos e,e,upd_same];exact⟨v,rfl,hv.grown h1 hg⟩
  ·rw[if_neg e,upd_ne _ e];obtain⟨u,e2,hu⟩:=h3 j hj;exact⟨u,e2,hu.grown h1 hg⟩
theorem dL.look{w:World}{m:Nat}{H:Int->Bool}{nd:Int->Nd}(h:dL w m H nd){i:Int}(hi:I64 i)(hh:H i=true) :
  ∃A c,ng w A (nd i).lk.l∧∀W,bz w W->(Instr.lookup zo (.map (some m)) (.int .i64 i) false).run prog W=.ok (.agg ((nd i).cs A c).toArray) W:=by
 obtain⟨es,h1,h2,h3⟩:=h.ex;obtain⟨v,e,A,c,rfl,hr⟩:=h3 i hh;refine⟨A,c,hr,fun W hb=>?_⟩;rw[(h1.below hb).lookup (t:=zo) (E:=61) underlying28 (yD W) hi,e];rfl
theorem IA(n:Nd)(A:Option Addr)(c:Nat)(w:World):(Instr.field 61 (.agg (n.cs A c).toArray) 0).run prog w=.ok (.agg n.m.cs.toArray) w:=by kernel_rfl
theorem eF.like{w:World}{v:Value}{wi aF M:Int}{x y:aJ}(h:eF w v wi aF M x)(h1:y.t=x.t)(h2:y.nd=x.nd):eF w v wi aF M y:=by
 obtain⟨t,nd,ws⟩:=x;obtain⟨t',F5,ws'⟩:=y;obtain rfl:t'=t:=h1;obtain rfl:F5=nd:=h2;exact h
theorem uO{P:Program}{fn:Func}{p q r:Tmp}{ty:TypeId}{tmps:Array Value}{w:World}{g:Nat}{cs:List Value}{d:TypeDesc}{v u:Value}{Q:Ending->World->Prop}(hfn:fn.results=#[.cell p ty,.tmp q,.tmp r])
  (hp:tmps.getD p undef=.pointer (some ⟨g,0,none⟩)) (hq:tmps.getD q undef=v) (hr:tmps.getD r undef=u) (hB:ax w g cs) (hu:P.underlying ty=some d) (hd:(match d with|.struct _|.array _ _=>true|_=>false)=true) (hi:(P.info? ty).map (·.size)=some cs.length)
  (h:Q (.returned (.tuple #[.agg cs.toArray,v,u])) w):bodyPost P fn Q Exit.ret { tmps:=tmps,defers:=[] } w:=by
 obtain⟨T,hg⟩:=hB;refine bodyPost_ret_by (v:=.tuple #[.agg cs.toArray,v,u]) ?_ rfl h;have hp':tmps[p]?.getD undef=.pointer (some ⟨g,0,none⟩):=by simpa using hp
 have hq':tmps[q]?.getD undef=v:=by simpa using hq
 have hr':tmps[r]?.getD undef=u:=by simpa using hr
 simp[results,hfn,hp',hq',hr',asAddr,run_loadVar_row w g T ty _ _ d hg hu hd (by simpa using hi)]
theorem IE(wi aF M:Int)(tv:Value)(t:T)(m:Nat)(nd:Int->Nd)(w:World)(ht:aK w tv t)(hm:dL w m (has t) nd) :
  Calls prog 60 #[.agg #[.int .i64 wi,.int .i64 aF,.int .i64 M,tv,.map (some m)],.int .i64 0] w fun e w'=>e=.returned (.tuple #[.agg (dM t nd 0).1.cs.toArray,.bool (dM t nd 0).2])∧bz w w':=by
 rw[Gn];obtain⟨At,ct,rfl,hr,hy⟩:=ht;obtain⟨An,cn,hrn,hlk⟩:=hm.look ⟨by decide,by decide⟩ (ah.2 (.inl rfl));have JH:=Hd hlk;have SN:=Hd hm;have HR:=Hd hr;have HY:=Hd hy;clear hlk hrn hm hr hy;have HB0:Hid (bz w ((w.alloc (.cells (Vb wi aF M At t.length ct m).toArray 30)).alloc (.cells Vd.toArray 53))):=(bR.alloc nR _).alloc (by simp) _
 have jJ:Hid (ax ((w.alloc (.cells (Vb wi aF M At t.length ct m).toArray 30)).alloc (.cells Vd.toArray 53)) w.heap.size (Vb wi aF M At t.length ct m)):=(ay w (Vb wi aF M At t.length ct m) _).alloc _;have iV:Hid (ax ((w.alloc (.cells (Vb wi aF M At t.length ct m).toArray 30)).alloc (.cells Vd.toArray 53)) (w.heap.size+1) Vd):=aN (w.alloc _) _ (by simp) Vd _;go_enter func60,ntmps60
 go_upto_region 1 with (fail)
 generalize ((w.alloc (.cells (Vb wi aF M At t.length ct m).toArray 30)).alloc (.cells Vd.toArray 53))=w0 at *;have hlk:=JH.o w0 HB0.o;have hfd:=IA (nd 0) An cn w0;have c4:=jJ.o.c 4 rfl;have i0:=jJ.o.inside;have HZ:Hid (ax (w0.alloc (.cells Vd.toArray 53)) w0.heap.size Vd):=ay w0 Vd _;have jF:Hid (Below w0.heap.size w0 (w0.alloc (.cells Vd.toArray 53))):=bR.alloc nR _
 go_upto_region 2 with (first|(with_reducible refine gS ?_;first|(refine au 53 _ _ rfl rfl rfl _ 0 rfl ((nd 0).m.cs) rfl (Vd) HZ.o ((nd 0).m.cs) rfl (nE rfl) (by kernel_rfl) (Mp.one1 _) ?_;intro w1 HW1 gY)))
 obtain⟨z,hz⟩:∃z,w0.heap.size=z:=⟨_,rfl⟩
 have iI:Hid (w.heap.size+1<z):=by rw[← hz];exact iV.o.inside
 rw[hz] at HW1 gY HZ jF ⊢
 have HB1:Hid (bz w w1):=(HW1.o.below (HB0.o.trans (jF.o.mono (by have:=iI.o;omega))) (by have:=iI.o;omega))
 have jd:=Hd (HW1.o.blk (show w.heap.size+1≠z by have:=iI.o;omega) (iV.o.below' (by have:=jF.o;rw[← hz] at this;exact this)));have ed:=Hd (HW1.o.blk (show w.heap.size≠z by have:=iI.o;omega) (jJ.o.below' (by have:=jF.o;rw[← hz] at this;exact this)));clear hlk hfd c4 i0 JH HW1 HZ jF HB0 jJ iV hz
 go_wp2_with (first|(with_reducible refine gL ?_;first|(refine wt 53 0 rfl rfl rfl gY.o ((nd 0).m.cs) rfl underlying53 rfl ?_))|(with_reducible refine gS ?_;first|(refine au 53 _ _ rfl rfl rfl _ 0 rfl ((nd 0).m.cs) rfl (Vd) jd.o ((nd 0).m.cs) rfl (nE rfl) (by kernel_rfl) (Mp.one1 _) ?_;intro w2 HW2 bP)));exact aH rfl rfl rfl bP.o underlying53 rfl (by kernel_rfl) ⟨rfl,HW2.o.below HB1.o (by omega)⟩
theorem VC(wi aF M:Int)(tv:Value)(t:T)(m:Nat)(nd:Int->Nd)(ok:Ok t)(hn:t.length<=1000)(mQ:Int)(w:World)(ht:aK w tv t)(hm:dL w m (has t) nd)(hi:mQ∈ids t)
  (ih:∀W,aK W tv t->dL W m (has t) nd->Calls prog 60 #[.agg #[.int .i64 wi,.int .i64 aF,.int .i64 M,tv,.map (some m)],.int .i64 (par t mQ)] W fun e w'=>e=.returned (.tuple #[.agg (dM t nd (par t mQ)).1.cs.toArray,.bool (dM t nd (par t mQ)).2])∧bz W w') :
  Calls prog 60 #[.agg #[.int .i64 wi,.int .i64 aF,.int .i64 M,tv,.map (some m)],.int .i64 mQ] w fun e w'=>e=.returned (.tuple #[.agg (dM t nd mQ).1.cs.toArray,.bool (dM t nd mQ).2])∧bz w w':=by
 have h64:I64 mQ:=kQ ok (ah.2 (.inr hi));have hne:=ok.vV hi;have q:(mQ==0)=false:=by simpa using hne
 have hhi:has t mQ=true:=ah.2 (.inr hi);have HP:=Hd (fun A c W hr=>a1e A t c mQ W hr (by omega));have HIH:=Hd ih;rw[xC ok nd hi];clear ih ok hi hne
 obtain⟨qv,hqv⟩:∃qv,dM t nd (par t mQ)=qv:=⟨_,rfl⟩
 rw[hqv] at HIH ⊢;clear hqv
 obtain⟨R,hR⟩:∃R,Nu (nd mQ).m qv=R:=⟨_,rfl⟩
 have HE:=Hd hR;rw[hR];clear hR;generalize par t mQ=pp at *;obtain⟨At,ct,rfl,hr,hy⟩:=ht;obtain⟨An,cn,hrn,hlk⟩:=hm.look h64 hhi;have JH:=Hd hlk;have SN:=Hd hm;have HR:=Hd hr;have HY:=Hd hy;clear hlk hrn hm hr hy;have HB0:Hid (bz w ((w.alloc (.cells (Vb wi aF M At t.length ct m).toArray 30)).alloc (.cells Vd.toArray 53))):=(bR.alloc nR _).alloc (by simp) _
 have jJ:Hid (ax ((w.alloc (.cells (Vb wi aF M At t.length ct m).toArray 30)).alloc (.cells Vd.toArray 53)) w.heap.size (Vb wi aF M At t.length ct m)):=(ay w (Vb wi aF M At t.length ct m) _).alloc _;have iV:Hid (ax ((w.alloc (.cells (Vb wi aF M At t.length ct m).toArray 30)).alloc (.cells Vd.toArray 53)) (w.heap.size+1) Vd):=aN (w.alloc _) _ (by simp) Vd _;go_enter func60,ntmps60
 go_upto_region 1 with (fail)
 generalize ((w.alloc (.cells (Vb wi aF M At t.length ct m).toArray 30)).alloc (.cells Vd.toArray 53))=w0 at *;have hlk:=JH.o w0 HB0.o;have hfd:=IA (nd mQ) An cn w0;have c4:=jJ.o.c 4 rfl;have i0:=jJ.o.inside;have HZ:Hid (ax (w0.alloc (.cells Vd.toArray 53)) w0.heap.size Vd):=ay w0 Vd _;have jF:Hid (Below w0.heap.size w0 (w0.alloc (.cells Vd.toArray 53))):=bR.alloc nR _
 go_upto_region 2 with (first|(with_reducible refine gS ?_;first|(refine au 53 _ _ rfl rfl rfl _ 0 rfl ((nd mQ).m.cs) rfl (Vd) HZ.o ((nd mQ).m.cs) rfl (nE rfl) (by kernel_rfl) (Mp.one1 _) ?_;intro w1 HW1 gY)))
 obtain⟨z,hz⟩:∃z,w0.heap.size=z:=⟨_,rfl⟩
 have iI:Hid (w.heap.size+1<z):=by rw[← hz];exact iV.o.inside
 rw[hz] at HW1 gY HZ jF ⊢
 have HB1:Hid (bz w w1):=(HW1.o.below (HB0.o.trans (jF.o.mono (by have:=iI.o;omega))) (by have:=iI.o;omega))
 have jd:=Hd (HW1.o.blk (show w.heap.size+1≠z by have:=iI.o;omega) (iV.o.below' (by have:=jF.o;rw[← hz] at this;exact this)));have ed:=Hd (HW1.o.blk (show w.heap.size≠z by have:=iI.o;omega) (jJ.o.below' (by have:=jF.o;rw[← hz] at this;exact this)));clear hlk hfd c4 i0 JH HW1 HZ jF HB0 jJ iV hz;clear hhi h64;have FS:Hid (∀W,bz w1 W->ax W w.heap.size (Vb wi aF M At t.length ct m)):=fun W hb=>ed.o.below' hb
 have FP:Hid (∀W,bz w1 W->Calls prog 93 #[.slice At t.length ct,.int .i64 mQ] W fun e w'=>e=.returned (.int .i64 pp)∧bz W w'):=fun W hb=>HP.o At ct W (aS.below HR.o (HB1.o.trans (hb.mono HB1.o.size)))
 have FW:Hid (∀W,bz w1 W->Calls prog 60 #[.agg (Vb wi aF M At t.length ct m).toArray,.int .i64 pp] W fun e w'=>e=.returned (.tuple #[.agg qv.1.cs.toArray,.bool qv.2])∧bz W w'):=fun W hb=>HIH.o W (aK.below ⟨At,ct,rfl,HR.o,HY.o⟩ (HB1.o.trans (hb.mono HB1.o.size))) (SN.o.below (HB1.o.trans (hb.mono HB1.o.size)))
 go_upto_region 4 with (fail)
 refine JP (Below w1.heap.size) (fun L V wx=>JN w1.heap.size [] (Vd) (qv.1.cs) (L 9) (L 10) (V 7) wx) [18,19,20,21,22,23,17,24,25,7,8] (fun _=>bR) (fun _ _ _ h k=>h.trans k) (fun i=>match i with
  |0=>rV (.agg ((Vb wi aF M At t.length ct m)).toArray)
  |1=>rp w.heap.size 3
  |2=>rV (.slice At t.length ct)
  |3=>rV (.int .i64 mQ)
  |4=>rV (.int .i64 pp)
  |5|6=>rV (.tuple #[.agg (qv.1.cs).toArray,.bool qv.2])
  |7=>rV (.agg (qv.1.cs).toArray)
  |8|11=>rV (.bool qv.2)
  | _=>ra) (bR.drew) (JN.start (old:=[]) trivial) ⟨?_,?_,?_,?_,?_,?_,?_,?_,?_,?_,?_,?_,trivial⟩ ?_
 any_goals (first|refine fC fun L a w1 hh=>?_|fail)
 ·have h2:=hh.p 2 w.heap.size 0;have hB:=Hd (FS.o _ hh.rel);have hJ:=Hd hh.st;exact aI 30 _ rfl w.heap.size 0 (by simpa[go_sem] using h2) _ hB.o ((Vb wi aF M At t.length ct m)) rfl _ underlying30 rfl (by kernel_rfl) ⟨_,rfl,bR,rfl,JN.slots hJ.o sn⟩
 have h2:=hh.p 2 w.heap.size 0;have i0:=(FS.o _ hh.rel).inside;rotate_left;have h19:=rq (hh.d 1 19);have ⟨c0,i0⟩:=(FS.o _ hh.rel).ci 3 rfl;rotate_left;have h1:=hh.o 1 (v:=.int .i64 mQ) rfl;rotate_left
 ·have h20:=rq (hh.d 2 20);have h21:=rq (hh.d 3 21);have hC:=Hd (FP.o _ hh.rel);have hJ:=hh.j;clear hh;go_simp;refine hC.o.mono ?_;rintro e w9 ⟨rfl,aU⟩;exact⟨_,rfl,aU.mono hJ.o.1.2.1,rfl,JN.slots (JN.below hJ.o aU) sn⟩
 ·have h18:=rq (hh.d 0 18);have h22:=rq (hh.d 4 22);have hC:=Hd (FW.o _ hh.rel);have hJ:=hh.j;clear hh;go_simp;refine hC.o.mono ?_;rintro e w9 ⟨rfl,aU⟩;exact⟨_,rfl,aU.mono hJ.o.1.2.1,rfl,JN.slots (JN.below hJ.o aU) sn⟩
 have h23:=rq (hh.d 5 23);rotate_left;have h17:=rq (hh.d 6 17);rotate_left;have h17:=rq (hh.d 6 17);rotate_left
 ·have hJ:=Hd hh.st;have hsz:=Hd hh.size;have hun:=Hd hh.un;clear hh;go_simp;exact⟨_,rfl,bR.alloc hJ.o.1.2.1 _,trivial,JN.new hJ.o hun.o (bI.aW (by rw[hsz.o];simp))⟩
 ·have vg:=rq (hh.d 7 24);have hup:=hh.up 9 (by kernel_rfl);obtain⟨g9,h9,kK,fV⟩:=hh.st.2.1 hup;have h7:a.tmps[7]?.getD undef=.pointer (some ⟨g9,0,none⟩):=rq (h9);rw[hh.un] at fV;have hJ:=Hd hh.st;have hun:=Hd hh.un;refine dn 53 _ _ rfl g9 0 (by simpa[go_sem] using h7) (qv.1.cs) (by simpa[go_sem] using vg) _ fV (nE rfl) (by kernel_rfl) (by rfl) ?_;intro w9 mV Cc;have hP:=hJ.o.JU hup hun.o h9 mV Cc rfl;exact⟨undef,rfl,hP.2,trivial,hP.1⟩
 have yL:=rq (hh.d 8 25);rotate_left
 any_goals (have hJ:=hh.j;clear hh;go_simp;exact⟨_,rfl,bR,rfl,JN.slots hJ.o sn⟩)
 intro L w4 val hL hJ hR hv;have h8:val 8=.bool qv.2:=hv 11 8 (by kernel_rfl);have HR4:=Hd hR;obtain⟨g7,e7,hg7,hB7⟩:=hJ.2.1 (hL 9 (by decide));have uZ:=Hd (And.intro hg7 (show ax w4 g7 qv.1.cs by rw[hL 10 (by decide)] at hB7;exact hB7));clear hv hL hJ hR hg7 hB7;simp only[regs.aA,List.map_cons,List.map_nil,h8];simp only[Act.put,List.setIfInBounds_toArray,List.set_cons_zero,List.set_cons_succ];clear h8
 skip
 rw[e7];clear e7;have FK4:=Hd (HB1.o.trans (HR4.o.mono HB1.o.size));have xu:=Hd (jd.o.below' HR4.o);have lX:=Hd (gY.o.below' HR4.o);have HG7:Hid (w.heap.size+1≠g7):=by have h1:=uZ.o.1;have h2:=jd.o.inside;show _≠_;omega
 obtain⟨qm,qb⟩:=qv;cases qb with
 | false=>
  have HE2:Hid (R=(qm,false)):=by show _=_;rw[← HE.o];rfl
  go_wp2_with (first|(with_reducible refine gL ?_;first|(refine jZ 53 _ rfl rfl _ 0 rfl (qm.cs) uZ.o.2 (qm.cs) rfl _ underlying53 rfl (by kernel_rfl) ?_))|(with_reducible refine gS ?_;first|(refine au 53 _ _ rfl rfl rfl _ 0 rfl (qm.cs) rfl (Vd) xu.o (qm.cs) rfl (nE rfl) (by kernel_rfl) (Mp.one1 _) ?_;intro w5 xg qU)));rw[HE2.o];exact aH rfl rfl rfl qU.o underlying53 rfl (by kernel_rfl) ⟨rfl,xg.o.below FK4.o (by omega)⟩
 | true=>
  have HE2:Hid (R=(if (nd mQ).m.iE qm=true then (nd mQ).m.kz qm else Mp.o,(nd mQ).m.iE qm)):=by show _=_;rw[← HE.o];rfl
  obtain⟨rm,hrm⟩:∃rm,(if (nd mQ).m.iE qm=true then (nd mQ).m.kz qm else Mp.o)=rm:=⟨_,rfl⟩
  have HT:=Hd (Uk (nd mQ).m qm w4);rw[hrm] at HE2 HT;clear hrm;go_wp2_with (first|(with_reducible refine gL ?_;first|(refine wt 53 0 rfl rfl rfl lX.o ((nd mQ).m.cs) rfl underlying53 rfl ?_)|(refine jZ 53 _ rfl rfl _ 0 rfl (qm.cs) uZ.o.2 (qm.cs) rfl _ underlying53 rfl (by kernel_rfl) ?_)));refine HT.o.mono ?_;rintro e w5 ⟨rfl,hb5⟩;have FK5:Hid (bz w w5):=FK4.o.trans (hb5.mono FK4.o.size);have RH:=Hd (xu.o.below' hb5);clear hb5;unfold Mp.v
  go_wp2_with (first|(with_reducible refine gS ?_;first|(refine au 53 _ _ rfl rfl rfl _ 0 rfl (rm.cs) rfl (Vd) RH.o (rm.cs) rfl (nE rfl) (by kernel_rfl) (Mp.one1 _) ?_;intro w6 uU RN)));rw[HE2.o];exact aH rfl rfl rfl RN.o underlying53 rfl (by kernel_rfl) ⟨rfl,uU.o.below FK5.o (by omega)⟩
theorem Az(wi aF M:Int)(tv:Value)(t:T)(m:Nat)(nd:Int->Nd)(ok:Ok t)(hn:t.length<=1000)(k:Nat):∀(i:Int) (w:World),aK w tv t->dL w m (has t) nd->has t i=true->depth t i<=k ->
  Calls prog 60 #[.agg #[.int .i64 wi,.int .i64 aF,.int .i64 M,tv,.map (some m)],.int .i64 i] w fun e w'=>e=.returned (.tuple #[.agg (dM t nd i).1.cs.toArray,.bool (dM t nd i).2])∧bz w w':=by
 induction k with
 | zero=>
  intro i w ht hm hh hd
  have h0:i=0:=by
   rcases ah.1 hh with e|e
   ·exact e
   ·rw[bH ok e] at hd;omega
  subst h0;exact IE wi aF M tv t m nd w ht hm
 | succ k ih=>
  intro i w ht hm hh hd;by_cases h0:i=0
  ·subst h0;exact IE wi aF M tv t m nd w ht hm
  have hi:=(ah.1 hh).resolve_left h0;rw[bH ok hi] at hd;exact VC wi aF M tv t m nd ok hn i w ht hm hi (fun W ht hm=>ih (par t i) W ht hm (ah.2 (ok.eX hi)) (by omega))
end
end Go.Proofs.YtekdoeilpheklaaGreat
