import Derived.Test.YthmegninhpihkaaGreatYFlE
import Derived.Sort.CutIn
set_option maxHeartbeats 16000000
set_option maxRecDepth 100000
open Go.Proofs.Tryz
namespace Go.Proofs.YthmegninhpihkaaGreat
section
section
open Go.RowKit fD fO aF Go.Maps xn Go.Shelf
attribute [local go_sem] Oper.semAt_some
theorem Qp(w:World):(Instr.build F6 #[(1,.int .i64 255)]).run prog w=.ok (.agg (lX Dn.top none).toArray) w:=by kernel_rfl
theorem JM(w:World):(Instr.makeMap yL none).run prog w=.ok (.map (some w.heap.size)) (w.alloc (.map #[] 0)):=rfl
structure Je(x y:Nat)(A W:World):Prop where
 os:W.os=A.os
 tape:W.tape=A.tape
 output:W.output=A.output
 size:A.heap.size<=W.heap.size
 same:∀k,k<A.heap.size->k≠x->k≠y->W.heap[k]?=A.heap[k]?
theorem Je.refl(x y:Nat)(A:World):Je x y A A:=⟨rfl,rfl,rfl,nR,fun _ _ _ _=>rfl⟩
theorem Je.bk{x y:Nat}{A W W':World}(h:Je x y A W)(hb:Bk A.heap.size W W'):Je x y A W':=⟨hb.os.trans h.os,hb.tape.trans h.tape,hb.output.trans h.output,Nat.le_trans h.size hb.size,fun k hk h1 h2=>(hb.low (Nat.lt_of_lt_of_le hk h.size) hk).trans (h.same k hk h1 h2)⟩
theorem Je.aP{x y n:Nat}{A W:World}(h:Je x y A W)(hx:n<=x)(hy:n<=y)(hs:n<=A.heap.size):Below n A W:=⟨h.os,h.tape,h.output,h.size,fun k hk=>h.same k (by omega) (by omega) (by omega)⟩
def Ar(x:Nat)(v:Value):bF:=fun k=>k=x∨v.ownBlock=some k
def UR(x y:Nat)(v:Value):bF:=fun k=>k=x∨k=y∨v.ownBlock=some k
theorem Je.turn{x y:Nat}{v:Value}{A W W':World}(h:Je x y A W)(ht:ae (UR x y v) (UR x y v) W W')(hv:∀k,v.ownBlock=some k->A.heap.size<=k):Je x y A W':=⟨ht.os.trans h.os,ht.tape.trans h.tape,ht.output.trans h.output,Nat.le_trans h.size ht.size,fun k hk h1 h2=>by
 have e:¬UR x y v k:=fun e=>by
  rcases e with e|e|e
  ·exact h1 e
  ·exact h2 e
  ·have:=hv k e;omega
 exact(ht.far k (Nat.lt_of_lt_of_le hk h.size) e).2.trans (h.same k hk h1 h2)⟩
theorem ae.widen{S T:bF}{w w':World}(h:ae S S w w')(hs:∀k,S k->T k):ae T T w w':=⟨h.os,h.tape,h.output,h.size,fun k hk hn=>⟨hn,(h.far k hk fun e=>hn (hs k e)).2⟩⟩
def UU(x:aK)(w:World)(e:Ending)(w':World):Prop:=∃A c l,e=.returned (.slice A l.length c)∧aU 22 iM.cs w' A l∧(∀q∈l,pq w' q∧q.it.Ok∧(∀a,q.Ac=some a->q.it.c≠[]->w.heap.size<=a.block)∧∀a,q.A=some a->q.it.lk.l≠[]->w.heap.size<=a.block)∧l.map (·.it)=items x∧(∀a,A=some a->l≠[]->w.heap.size<=a.block)∧bz w w'
structure LsI(x:aK)(w5:World)(b3 m2:Nat)(j:Nat)(W:World):Prop where
 ky:Je b3 m2 w5 W
 ex:∃v l es,ak W b3 [v] jS∧Its W w5.heap.size v l∧l.map (·.it)=((aF.walk x.t 0).take j).filterMap (dW x)∧VM W m2 es∧Shown x W es ((aF.walk x.t 0).take j)
theorem VM.bk{w w':World}{m B:Nat}{es:LV}(h:VM w m es)(hb:Bk B w w'):VM w' m es:=h.stays (by
 obtain⟨es',clock,h1,_⟩:=h.own
 exact(hb.keep h1 rfl).trans h1.symm)
theorem LsI.bk{x:aK}{w5 W W':World}{b3 m2 j:Nat}(h:LsI x w5 b3 m2 j W)(hb:Bk w5.heap.size W W'):LsI x w5 b3 m2 j W':=⟨h.ky.bk hb,by
 obtain⟨v,l,es,h1,h2,h3,h4,h5⟩:=h.ex
 exact⟨v,l,es,h1.bk hb,h2.bk hb,h3,h4.bk hb,h5.bk hb⟩⟩
theorem WX{ib db x y base:Nat}{v1 v2:Value}{l1 l2:List Int}{w:World}(hx:x<base)(hy:y<base)(h1:base<=ib)(h2:base<=db)(b1:ak w ib [v1] bM)(b2:ak w db [v2] bM)(o1:aV w base v1 l1)(o2:aV w base v2 l2) :
  ∃A1 A2 c1 c2,∀W,Je x y w W->Lm ib db A1 A2 c1 c2 l1 l2 W:=by
 obtain⟨A1,c1,e1,-,-,r1⟩:=aV.l7 o1;obtain⟨A2,c2,e2,-,-,r2⟩:=aV.l7 o2;refine⟨A1,A2,c1,c2,fun W hk=>?_⟩
 have o1':aV W base v1 l1:=ax.stays o1 fun k hk'=>by
  have:=ax.block o1 hk';exact hk.same k this.2 (by omega) (by omega)
 have o2':aV W base v2 l2:=ax.stays o2 fun k hk'=>by
  have:=ax.block o2 hk';exact hk.same k this.2 (by omega) (by omega)
 obtain⟨A1',c1',e1',-,-,r1'⟩:=aV.l7 o1';obtain⟨A2',c2',e2',-,-,r2'⟩:=aV.l7 o2';have f1:=e1.symm.trans e1';have f2:=e2.symm.trans e2'
 injection f1 with f1 _ _
 injection f2 with f2 _ _
 have q1:=(b1.stays (hk.same ib b1.inside (by omega) (by omega))).blk.cell 0;have q2:=(b2.stays (hk.same db b2.inside (by omega) (by omega))).blk.cell 0;rw[e1]at q1;rw[e2]at q2;exact⟨q1,q2,by rw[f1];exact r1',by rw[f2];exact r2'⟩
theorem ZY(x:aK)(w:World):Shown x w (omap.put lt (-1) (.agg (lX Dn.top none).toArray) []) []:=
 ⟨by rw[omap.dC,if_pos rfl],(fun _ h=>nomatch h),(fun _ h=>nomatch h),fun i _ h1=>by rw[omap.dC,if_neg h1];rfl,by have:=iH (-1) (.agg (lX Dn.top none).toArray) [];simpa using this⟩
theorem a1A{x:aK}(hg:Good x)(ok:Ok x.t)(hw:∀i,has x.t i=true->(x.ws i).right=true)(hn:x.t.length<=900){i:Int}(hi:i=0∨i∈ids x.t){d:Dn}(h:FU x i=some d):d.o<256∧d.c.length<=1900:=by
 unfold FU at h;by_cases h0:i=0
 ·rw[if_pos h0]at h
  injection h with e
  rw[←e];exact⟨by decide,by decide⟩
 ·rw[if_neg h0]at h;have hp:par x.t i=0∨par x.t i∈ids x.t:=ok.pin _ (jY (hi.resolve_left h0));have h1:=NC hg ok hw hp d h;have h2:=nP ok hp;exact⟨h1.o,by have:=h1.len;omega⟩
theorem yP{α:Type}{k:Nat}{enc:α->List Value}{w:World}{g:Nat}{l:List α}(hk:∀x,(enc x).length=k)(h:az w g (l.flatMap enc)):aU k enc w (some ⟨g,0,none⟩) l:=fun _=>⟨g,0,rfl,fun j hj i v hv=>by
 rw[Nat.zero_add,h.cell]
 exact qL hk hj hv⟩
theorem UA(q:iM)(w:World):(Instr.build F5 #[(0,.int .i64 q.it.i),(1,.agg q.it.w.cs.toArray),(2,.agg q.it.b.cs.toArray),(3,.slice q.Ac q.it.c.length q.cc),(4,.int .i64 (q.it.o:Nat)),(5,.agg (q.it.lk.cs q.A q.c).toArray)]).run prog w=.ok (.agg q.cs.toArray) w:=by kernel_rfl
theorem a2y(q:iM)(w:World):(Instr.buildSlice jS 1 #[(0,.agg q.cs.toArray)]).run prog w=.ok (.slice (some ⟨w.heap.size,0,none⟩) 1 1) (w.alloc (.cells q.cs.toArray F5)):=by kernel_rfl
structure AJ(base b3:Nat)(v:Value)(li:List iM)(it:It)(iA iS:Bool)(v':Value)(w:World):Prop where
 box:iS=false->ak w b3 [v] jS
 own:iA=false->Its w base v li
 app:iA=true->∃q,q.it=it∧Its w base v' (li++[q])
 sto:iS=true->ak w b3 [v'] jS
 lt:b3<base∧base<=w.heap.size
section
variable {base b3:Nat}{v v' u:Value}{li:List iM}{it:It}{iA iS:Bool}{w w':World}
theorem AJ.below(h:AJ base b3 v li it iA iS v' w)(hb:bz w w'):AJ base b3 v li it iA iS v' w':=⟨fun e=>(h.box e).stays (hb.block _ (h.box e).inside),fun e=>(h.own e).below hb,fun e=>by
 obtain⟨q,h1,h2⟩:=h.app e
 exact⟨q,h1,h2.below hb⟩,fun e=>(h.sto e).stays (hb.block _ (h.sto e).inside),h.lt.1,Nat.le_trans h.lt.2 hb.size⟩
theorem AJ.slots(h:AJ base b3 v li it iA iS v' w)(e:u=v'):AJ base b3 v li it iA iS u w:=by rw[e];exact h
theorem AJ.a4m(h:AJ base b3 v li it iA iS v' w)(hi:iS=false){q:iM}(hq:q.it=it){v9:Value}(h2:Its w' base v9 (li++[q]))(e:u=v9)(hb:w'.heap[b3]?=w.heap[b3]?)(hs:w.heap.size<=w'.heap.size):AJ base b3 v li it true iS u w':=by
 subst hi e;exact⟨fun _=>(h.box rfl).stays hb,nofun,fun _=>⟨q,hq,h2⟩,nofun,h.lt.1,Nat.le_trans h.lt.2 hs⟩
theorem AJ.a1G(h:AJ base b3 v li it iA iS u w)(hA:iA=true)(hS:iS=false){v9:Value}(e:u=v9):AJ base b3 v li it iA true u (w.setCell ⟨b3,0,none⟩ v9):=by
 subst hA hS e
 exact⟨nofun,nofun,fun _=>by
  obtain⟨q,h1,h2⟩:=h.app rfl
  exact⟨q,h1,h2.stays fun k hk _=>heap_setCell_other _ _ _ _ (by have:=h.lt.1;show k≠b3;omega)⟩,fun _=>(h.box rfl).set 0 u,h.lt.1,by have:=h.lt.2;simpa[World.setCell]using this⟩
end
def EL(B:Nat)(c:List Cl)(w:World)(g:Nat):Prop:=az w g (c.flatMap Cl.cs)∧B<=g
theorem EL.turn{S:bF}{B:Nat}{c:List Cl}{w w':World}{g:Nat}(hS:∀k,S k->k<B)(h:EL B c w g)(ht:ae S S w w'):EL B c w' g:=⟨h.1.stays (ht.far _ h.1.inside fun e=>by have:=hS _ e;have:=h.2;omega).2,h.2⟩
theorem Tq{w:World}{g b m:Nat}{s:Sh}{Z:ZZ}{x:aK}(h:au w g b m s Z x)(hx:kM x)(hn:x.t.length<=900) :
  Calls prog 64 #[.pointer (some ⟨g,0,none⟩)] w (UU x w):=by
 have HS:=Hd h;have HX:=Hd hx;have HN:=Hd hn;have HWR:Hid (∀i,has x.t i=true->(x.ws i).right=true):=fun i hi=>mG hx.ok (fun i=>(hx.good i) |> fun h=>(lM h).1) (aj.1 hi) _ (hx.set i hi (fun _ _ h=>h) (fun h=>h));have HXL:Hid ((aF.walk x.t 0).length=x.t.length+1):=sV hx.ok;have HXM:Hid (∀i,i∈aF.walk x.t 0↔has x.t i=true):=fun i=>iG hx.ok;unfold UU;clear h hx hn;have HB0:Hid (Below w.heap.size w ((w.alloc (.cells #[.pointer (some ⟨g,0,none⟩)] 25)).alloc (.cells #[.slice none 0 0] 164))):=(bR.alloc nR _).alloc (by simp) _
 have oq:Hid (ak ((w.alloc (.cells #[.pointer (some ⟨g,0,none⟩)] 25)).alloc (.cells #[.slice none 0 0] 164)) w.heap.size [.pointer (some ⟨g,0,none⟩)] 25):=(ak.new w [.pointer (some ⟨g,0,none⟩)] _).al _;have dN:Hid (ak ((w.alloc (.cells #[.pointer (some ⟨g,0,none⟩)] 25)).alloc (.cells #[.slice none 0 0] 164)) (w.heap.size+1) [.slice none 0 0] 164):=jK (w.alloc _) _ (by simp) [.slice none 0 0] _;have X9:Hid (((w.alloc (.cells #[.pointer (some ⟨g,0,none⟩)] 25)).alloc (.cells #[.slice none 0 0] 164)).heap.size=w.heap.size+2):=by show _=_;simp
 refine bT func64 rfl ?_;simp only[ntmps64,List.size_toArray,List.length_cons,List.length_nil,Nat.reduceAdd,Nat.reduceSub,Array.replicate_succ,Array.replicate_zero,List.push_toArray,List.append_toArray,List.nil_append,List.cons_append]
 go_upto_region 2 with(fail)
 generalize ((w.alloc (.cells #[.pointer (some ⟨g,0,none⟩)] 25)).alloc (.cells #[.slice none 0 0] 164))=w0 at*;have hmk:=JM w0;have hm1:VM (w0.alloc (.map #[] 0)) w0.heap.size []:=VM.made w0;have Fv:=Hd hm1;have hb1:Below w0.heap.size w0 (w0.alloc (.map #[] 0)):=bR.alloc nR _;have a1u:Hid (Below w0.heap.size w0 (w0.alloc (.map #[] 0))):=hb1;have HB1:Hid (Below w.heap.size w (w0.alloc (.map #[] 0))):=HB0.o.trans (hb1.mono HB0.o.size);obtain⟨⟨q0,-,-,-,-,-⟩,qi⟩:=(HS.o.below HB1.o).top
 have cs1:(w0.alloc (.map #[] 0)).cell? ⟨w.heap.size,0,none⟩=some (.pointer (some ⟨g,0,none⟩)):=(oq.o.al _).blk.cell 0;have csi:w.heap.size<(w0.alloc (.map #[] 0)).heap.size:=(oq.o.al _).inside;have HTP:=Hd (xZ (HS.o.below HB1.o).tree 0 (by constructor<;>decide));have hinv:=oJ (.pointer (some ⟨b,0,none⟩)) (.int .i64 0);rw[par_none (Eh HX.o.ok)]at HTP;clear hm1 hb1;go_wp2_with (fail);refine HTP.o.mono ?_;rintro e w2 ⟨rfl,hb2⟩;have LM:=Hd (Fv.o.below hb2);have a1t:Hid (Below w0.heap.size w0 w2):=a1u.o.trans (hb2.mono a1u.o.size)
 clear hb2 Fv HB1 a1u hmk q0 qi cs1 csi hinv HTP
 obtain⟨m2,hm2⟩:=aC w0.heap.size
 rw[hm2]at LM ⊢;have HMZ:Hid (w0.heap.size=m2):=hm2;clear hm2;obtain⟨w3,hrun,TK,hg3⟩:=LM.o.store (t:=yL) (E:=F6) vg (i:=-1) ⟨by decide,by decide⟩ (.agg (lX Dn.top none).toArray) (by decide);have sS:=Hd TK;have lg:Hid (Below w0.heap.size w0 w3):=a1t.o.grown hg3 a1t.o.size fun k hk=>by cases hk;exact Nat.le_of_eq HMZ.o
 clear TK hg3 LM a1t
 go_upto_region 3 with(first|((with_reducible refine gU ?_);refine eH _ _ rfl rfl (by simp[go_sem]) (Qp _) ?_))
 have a1s:Hid (Below w3.heap.size w3 (w3.alloc (.cells #[.map (some m2)] 209))):=bR.alloc nR _;have og:Hid (ak (w3.alloc (.cells #[.map (some m2)] 209)) w3.heap.size [.map (some m2)] 209):=ak.new w3 [.map (some m2)] _;have gZ:Hid (VM (w3.alloc (.cells #[.map (some m2)] 209)) m2 (omap.put lt (-1) (.agg (lX Dn.top none).toArray) [])):=sS.o.below a1s.o;have jv:Hid (Below w0.heap.size w0 (w3.alloc (.cells #[.map (some m2)] 209))):=lg.o.trans (a1s.o.mono lg.o.size);have Oe:Hid (m2<w3.heap.size):=sS.o.inside
 obtain⟨b4,hb4⟩:=aC w3.heap.size
 rw[hb4]at og Oe ⊢;clear hb4 lg sS a1s hrun;generalize (w3.alloc (.cells #[.map (some m2)] 209))=w4 at*;have V3:=Hd (HB0.o.trans (jv.o.mono HB0.o.size));have VT:Hid (ak w4 w.heap.size [.pointer (some ⟨g,0,none⟩)] 25):=oq.o.stays (jv.o.block _ oq.o.inside);have Yw:Hid (ak w4 (w.heap.size+1) [.slice none 0 0] 164):=dN.o.stays (jv.o.block _ dN.o.inside)
 have VK:Hid (w.heap.size+1<m2∧m2<b4):=⟨by have:=dN.o.inside;have:=HMZ.o;omega,Oe.o⟩
 clear oq dN HB0 jv HMZ Oe X9;obtain⟨⟨q0,-,-,-,-,-⟩,qi⟩:=(HS.o.below V3.o).top;have cs1:w4.cell? ⟨w.heap.size,0,none⟩=some (.pointer (some ⟨g,0,none⟩)):=VT.o.blk.cell 0;have csi:=VT.o.inside;have HTW:=Hd (a1B (HS.o.below V3.o).tree (by have:=HN.o;omega));have hinv:=TB (.pointer (some ⟨b,0,none⟩));go_wp2_with (fail);refine HTW.o.mono ?_;rintro e w5 ⟨ib,db,v1,v2,rfl,hi1,hi2,hx1,hx2,ho1,ho2,hb5⟩;clear q0 qi cs1 csi hinv HTW;have gQ:=Hd (V3.o.trans (hb5.mono V3.o.size))
 have a1c:Hid (ak w5 w.heap.size [.pointer (some ⟨g,0,none⟩)] 25):=VT.o.stays (hb5.block _ VT.o.inside);have a3s:Hid (ak w5 (w.heap.size+1) [.slice none 0 0] 164):=Yw.o.stays (hb5.block _ Yw.o.inside);have a1b:Hid (ak w5 b4 [.map (some m2)] 209):=og.o.stays (hb5.block _ og.o.inside);have rF:Hid (VM w5 m2 (omap.put lt (-1) (.agg (lX Dn.top none).toArray) [])):=gZ.o.below hb5
 obtain⟨b3,hb3⟩:=aC (w.heap.size+1)
 have HB3:=Hd hb3;rw[hb3]at a3s VK ⊢
 obtain⟨sb,hsb⟩:=aC w.heap.size
 have Oc:=Hd hsb;rw[hsb]at a1c ⊢;have hz3:b3<w4.heap.size:=by have:=Yw.o.inside;omega
 have hz4:m2<w4.heap.size:=by have:=og.o.inside;have:=VK.o;omega
 obtain⟨B1,B2,d1,d2,a19⟩:=WX (x:=b3) (y:=m2) hz3 hz4 hi1 hi2 hx1 hx2 ho1 ho2;have HPR:=Hd a19
 have HXW:Hid (∀j (h:j<(aF.walk x.t 0).length),(rY x.t)[j]?.getD 0=(aF.walk x.t 0)[j]∧(vZ x.t)[j]?.getD 0=(depth x.t (aF.walk x.t 0)[j]:Nat)):=fun j h=>by
  have hj2:j<(wd x.t 0 0).length:=by rw[mX];exact h
  have e:=a1z hj2 h;rw[rY,vZ,List.getElem?_map,List.getElem?_map,List.getElem?_eq_getElem hj2,e];exact⟨rfl,rfl⟩
 have HEL:Hid ((rC (rY x.t) (vZ x.t)).length=(aF.walk x.t 0).length):=by show _=_;rw[qG,rY,List.length_map,mX]
 have HIL:Hid ((rY x.t).length=(aF.walk x.t 0).length∧(vZ x.t).length=(rY x.t).length):=by show _∧_;rw[vZ,rY,List.length_map,List.length_map,mX];exact⟨rfl,rfl⟩
 have LC:Hid (sb<b3∧b3<m2∧m2<b4∧b4<w5.heap.size):=⟨by omega,VK.o.1,VK.o.2,a1b.o.inside⟩
 have Wv:Hid (∀W,Je b3 m2 w5 W->au W g b m s Z x∧Below w.heap.size w W∧ak W sb [.pointer (some ⟨g,0,none⟩)] 25∧ak W b4 [.map (some m2)] 209):=fun W hk=>by
  have h1:=LC.o;have h2:Below w.heap.size w W:=gQ.o.trans (hk.aP (by omega) (by omega) gQ.o.size);exact⟨HS.o.below h2,h2,a1c.o.stays (hk.same _ a1c.o.inside (by omega) (by omega)),a1b.o.stays (hk.same _ a1b.o.inside (by omega) (by omega))⟩
 clear hi1 hi2 hx1 hx2 ho1 ho2 hb5 a19 hz3 hz4 hsb hb3 VT Yw og gZ VK V3;go_wp2_with (fail)
 refine ku (gf:=192) (lb:=#[.pointer (some ⟨ib,0,none⟩),.pointer (some ⟨db,0,none⟩)]) rfl (enters_of func192 ag rfl) (es:=rC (rY x.t) (vZ x.t)) (R:=fun _=>Eq)
  (Kp:=fun A B=>Lm ib db B1 B2 d1 d2 (rY x.t) (vZ x.t) A->Lm ib db B1 B2 d1 d2 (rY x.t) (vZ x.t) B)
  (fun W1 hb=>OW (by have h1:=HIL.o.1;have h2:=HXL.o;have:=HN.o;omega) HIL.o.2 (HPR.o W1 ((Je.refl _ _ _).bk hb))) (fun h k x=>k (h x)) (fun A B hb h=>h.cells fun a v=>eG hb) (fun n A B e k o _ hk _=>e ▸ hk)
  (fun e he=>by obtain⟨j,_,rfl⟩:=List.mem_map.1 he;rfl)
  (fun k W=>LsI x w5 b3 m2 k W)
  (fun _ _ _=>False) (fun k A B h hr=>?hI) (fun _ _ _ _ h _=>h.elim) ⟨Je.refl _ _ _,.slice none 0 0,[],_,a3s.o,Its.nil _ _,rfl,rF.o,ZY _ _⟩ ?a1 ?assign ?body ?done (fun _ _ _ _ _ _ h _=>h.elim)
 case hI=>
  rcases hr with ⟨n,hn,rfl⟩|hb
  ·exact h
  ·exact h.bk hb
 case assign=>
  intro l j hj W9 KK Eu;rw[Gu]
  gi_wp2
  exact Eu
 case done=>
  rintro D W9 hD ⟨hk,v,li,es,hb3,hits,hmap,hvm,hsh⟩ hdd
  have HIS:Hid (li.map (·.it)=items x):=by
   show _=_;rw[hmap,HEL.o,List.take_length];rfl
  have HITS:=Hd hits;have VX:=Hd hdd;have HD1:Hid (w5.heap.size<=D):=hD;have Q8:Hid (Below w.heap.size w W9):=(Wv.o W9 hk).2.1;have c3:W9.cell? ⟨b3,0,none⟩=some v:=hb3.blk.cell 0;have i3:=hb3.inside
  have Wy:Hid (∀q∈li,q.it.Ok):=fun q hq=>by
   have h1:q.it∈items x:=by rw[←HIS.o];exact List.mem_map_of_mem hq
   obtain⟨i,hi,he⟩:=List.mem_filterMap.1 h1;exact Nl HX.o.good HX.o.fit HX.o.ok HWR.o HN.o (aj.1 ((HXM.o i).1 hi)) he
  obtain⟨A,n9,c,rfl⟩:=hits.own.shape;clear hk hb3 hits hmap hvm hsh hdd hD;go_wp2_with (fail)
  refine dH w5.heap.size ⟨⟨D,rfl,HD1.o,VX.o,by simp⟩,trivial⟩ fun w' hb=>⟨_,results_tmp rfl _ _ _,?_⟩
  have h5:=gQ.o.size;have hI:=HITS.o.bk hb;obtain⟨A',c',e',-,-,hrow⟩:=hI.own.row iM.bV
  injection e' with e1 e2 e3
  subst e1 e2 e3;refine⟨_,_,li,rfl,hrow,fun q hq=>⟨(hI.at_ q hq).1,Wy.o q hq,fun a ea hne=>Nat.le_trans h5 ((hI.at_ q hq).2.c a ea hne).1,fun a ea hne=>Nat.le_trans h5 ((hI.at_ q hq).2.p a ea hne).1⟩,HIS.o,fun a ea hne=>?_,Q8.o.trans (hb.below h5 Q8.o.size)⟩;obtain⟨g0,c0,e0,-⟩:=hI.own.row0 iM.bV (List.length_pos_iff.2 hne);have h0:=(hI.own.block (g:=g0) (by rw[e0];rfl)).1;rw[ea]at e0
  injection e0 with e0 _ _
  injection e0 with e0
  rw[e0];exact Nat.le_trans h5 h0
 case body=>
  rintro l j hj W9 ⟨hk,v,li,es,hb3,hits,hmap,hvm,hsh⟩;have hjX:j<(aF.walk x.t 0).length:=by rw[HEL.o]at hj;exact hj
  obtain⟨h1,h2⟩:=HXW.o j hjX;have DD:Hid (has x.t (aF.walk x.t 0)[j]=true):=(HXM.o _).1 (List.getElem_mem hjX);obtain⟨d,p,okb,hlk,hsm,hyes,hno⟩:=hsh.look HX.o.ok hjX;obtain⟨hnw,hn1,htk⟩:=Ru HX.o.ok hjX;have HJB:Hid (j<=900):=by have:=HXL.o;have:=HN.o;show _<=_;omega
  have I7:=Hd (zO (dW x) hjX);have xN:=Hd (And.intro hnw (And.intro hn1 htk));have HLEN:Hid (((aF.walk x.t 0).take j).length=j):=by show _=_;rw[List.length_take];omega
  rw[h1,h2];generalize (aF.walk x.t 0)[j]=id at*;generalize hT1:(aF.walk x.t 0).take (j+1)=T1 at*;have HT1:=Hd hT1;clear hT1;generalize (aF.walk x.t 0).take j=T0 at*;generalize hdx:depth x.t id=dx at*;have wU:Hid (I64 id):=kL HX.o.ok DD.o
  have HPI:Hid (I64 (par x.t id)):=by
   by_cases h0:id=0
   ·rw[h0,par_none (Eh HX.o.ok)];constructor<;>decide
   ·rcases HX.o.ok.pin _ (jY ((aj.1 DD.o).resolve_left h0)) with e|e
    ·simp only at e;rw[e];constructor<;>decide
    ·exact kL HX.o.ok (aj.2 (.inr e))
  have a3z:=Hd (fun d h=>a1A HX.o.good HX.o.ok HWR.o HN.o (aj.1 DD.o) (d:=d) h);have Zu:Hid (cO x id=Dn.step (x.nd id) (x.ws id) (FU x id)):=Di HX.o.ok (aj.1 DD.o);have EN:=Hd hyes;have uV:=Hd hno;have HK:=Hd hk;have L8:=Hd hb3;have HITS:=Hd hits;have ET:=Hd hmap;have X3:=Hd hvm;have HSH:=Hd hsh;have HVN:Hid (∀k,v.ownBlock=some k->k<W9.heap.size):=fun k e=>(hits.own.block e).2;have HVB:Hid (∀k,v.ownBlock=some k->w5.heap.size<=k):=fun k e=>(hits.own.block e).1
  have HST:Hid (∀W,ae (UR b3 m2 v) (UR b3 m2 v) W9 W->au W g b m s Z x∧Below w.heap.size w W∧ak W sb [.pointer (some ⟨g,0,none⟩)] 25∧ak W b4 [.map (some m2)] 209∧Je b3 m2 w5 W):=fun W ht=>by
   have h:=HK.o.turn ht HVB.o;obtain⟨a1,a2,a3,a4⟩:=Wv.o W h;exact⟨a1,a2,a3,a4,h⟩
  have wK:Hid (∀W,Below W9.heap.size W9 W->au W g b m s Z x∧az W sb [.pointer (some ⟨g,0,none⟩)]∧az W b4 [.map (some m2)]∧VM W m2 es):=fun W hb=>by
   obtain⟨a1,a2,a3,a4,-⟩:=HST.o W (ae.below hb);exact⟨a1,a3.blk,a4.blk,X3.o.below hb⟩
  -- what a round leaves,if nothing of what is told changes
  have iP:Hid (∀W v' li' es',ae (UR b3 m2 v) (UR b3 m2 v) W9 W->ak W b3 [v'] jS->Its W w5.heap.size v' li'->li'.map (·.it)=T1.filterMap (dW x)->VM W m2 es'->Shown x W es' T1 ->
    KB W9 W∧(Lm ib db B1 B2 d1 d2 (rY x.t) (vZ x.t) W9->Lm ib db B1 B2 d1 d2 (rY x.t) (vZ x.t) W)∧LsI x w5 b3 m2 (j+1) W):=fun W v' li' es' ht a1 a2 a3 a4 a5=>by
   obtain⟨-,-,-,-,hky⟩:=HST.o W ht;refine⟨fun k o hk9 ho=>(ht.far k (Array.getElem?_eq_some_iff.1 hk9).1 fun e=>?_).2.trans hk9,fun _=>HPR.o W hky,hky,v',li',es',a1,a2,by rw[HT1.o];exact a3,a4,by rw[HT1.o];exact a5⟩;rcases e with e|e|e
   ·rw[e,L8.o]at hk9;cases hk9;cases ho
   ·obtain⟨es0,clock,h0,_⟩:=X3.o.own;rw[e,h0]at hk9;cases hk9;cases ho
   ·obtain⟨cu,h0⟩:=HITS.o.own.typed e;rw[h0]at hk9;cases hk9;cases ho
  have IK:Hid (∀W,Below W9.heap.size W9 W->cO x id=none->KB W9 W∧(Lm ib db B1 B2 d1 d2 (rY x.t) (vZ x.t) W9->Lm ib db B1 B2 d1 d2 (rY x.t) (vZ x.t) W)∧LsI x w5 b3 m2 (j+1) W):=fun W hb hd=>by
   refine iP.o W v li es (ae.below hb) (L8.o.stays (hb.block _ L8.o.inside)) (HITS.o.below hb) ?_ (X3.o.below hb) ?_
   ·rw[I7.o,ET.o,show dW x id=none from by unfold dW;rw[hd];rfl];simp
   ·rw[xN.o.2.2];exact(HSH.o.keep fun k cu fr hk=>hb.block _ (Array.getElem?_eq_some_iff.1 hk).1).skip xN.o.1 xN.o.2.1 hd
  have FV:Hid (∀W,Below W9.heap.size W9 W->(Instr.lookup yL (.map (some m2)) (.int .i64 (par x.t id)) true).run prog W=.ok (.tuple #[.agg (lX d p).toArray,.bool okb]) W):=fun W hb=>by
   have h:=(wK.o W hb).2.2.2.look_ok vg (Ol W) HPI.o;rw[hlk,hsm]at h;exact h
  have FP:Hid (∀W,Below W9.heap.size W9 W->Calls prog 189 #[.pointer (some ⟨b,0,none⟩),.int .i64 id] W (aY (.int .i64 (par x.t id)) W)):=fun W hb=>xZ (wK.o W hb).1.tree id wU.o;have FS:Hid (∀W,Below W9.heap.size W9 W->az W sb [.pointer (some ⟨g,0,none⟩)]):=fun W hb=>(wK.o W hb).2.1;have F4:Hid (∀W,Below W9.heap.size W9 W->az W b4 [.map (some m2)]):=fun W hb=>(wK.o W hb).2.2.1;have FG:Hid (∀W,Below W9.heap.size W9 W->az W g (sccs b m Z)):=fun W hb=>(wK.o W hb).1.blk.blk;generalize par x.t id=pp at*
  clear hk hb3 hits hmap hvm hsh hlk hsm hyes hno hnw hn1 htk h1 h2 hj hjX hdx HXW;refine wpIn_block (wpIn_seq ?_)
  refine CG.dL (Below W9.heap.size) (fun L V wx=>JN W9.heap.size [] ([.int .i64 0,.int .i64 0,.int .i64 0,.int .i64 0,.int .i64 0,.int .i64 0,.int .i64 0,.pointer none]) (lX d p) (L 11) (L 12) (V 6) wx) [29,30,31,32,33,34,35,36,28,37,38,6,7] ag ag ag (fun _=>bR) (fun _ _ _ h k=>h.trans k) (fun i=>(match i with
   |0=>rV (.map (some m2))
   |1|2|3=>rp g 0
   |4=>rV (.iface 88 (.pointer (some ⟨b,0,none⟩)))
   |5=>rV (.int .i64 id)
   |6=>rV (.int .i64 pp)
   |7|8=>rV (.tuple #[.agg (lX d p).toArray,.bool okb])
   |9=>rV (.agg (lX d p).toArray)
   |10|13=>rV (.bool okb)
   |_=>ra:regs.kW (Below W9.heap.size)).p) (fun _=>regs.kW.mono _) ag (bR.drew) (JN.start (old:=[]) trivial) ⟨?_,?_,?_,?_,?_,?_,?_,?_,?_,?_,?_,?_,?_,?_,trivial⟩ ?_
  ·refine fP fun L a w1 hh=>?_;have h4:=hh.p 4 b4 0;have ⟨c0,i0⟩:=(F4.o _ hh.rel).ci 0 rfl;have hJ:=hh.j;clear hh;go_simp;exact⟨_,rfl,bR,rfl,JN.slots hJ.o sn⟩
  ·refine fP fun L a w1 hh=>?_;have h1:=hh.p 1 sb 0;have ⟨c0,i0⟩:=(FS.o _ hh.rel).ci 0 rfl;have hJ:=hh.j;clear hh;go_simp;exact⟨_,rfl,bR,rfl,JN.slots hJ.o sn⟩
  ·refine fP fun L a w1 hh=>?_;have h30:=rq (hh.d 1 30);have hJ:=hh.j;clear hh;go_simp;exact⟨_,rfl,bR,rfl,JN.slots hJ.o sn⟩
  ·refine fP fun L a w1 hh=>?_;have h31:=rq (hh.d 2 31);have i0:=(FG.o _ hh.rel).inside;have hJ:=hh.j;clear hh;go_simp;exact⟨_,rfl,bR,rfl,JN.slots hJ.o sn⟩
  ·refine fP fun L a w1 hh=>?_;have h32:=rq (hh.d 3 32);have ⟨c0,i0⟩:=(FG.o _ hh.rel).ci 0 rfl;have hJ:=hh.j;clear hh;go_simp;exact⟨_,rfl,bR,rfl,JN.slots hJ.o sn⟩
  ·refine fP fun L a w1 hh=>?_;have h5:=hh.o 5 (v:=.int .i64 id) rfl;have hJ:=hh.j;clear hh;go_simp;exact⟨_,rfl,bR,rfl,JN.slots hJ.o sn⟩
  ·refine fP fun L a w1 hh=>?_;have Wj:=rq (hh.d 4 33);have XD:=rq (hh.d 5 34);have hinv:=oJ (.pointer (some ⟨b,0,none⟩)) (.int .i64 id);have hC:=Hd (FP.o _ hh.rel);have hJ:=hh.j;clear hh;go_simp;refine hC.o.mono ?_;rintro e w9 ⟨rfl,bD⟩;exact⟨_,rfl,bD.mono hJ.o.1.2.1,rfl,JN.slots (JN.below hJ.o bD) sn⟩
  ·refine fP fun L a w1 hh=>?_;have CX:=rq (hh.d 0 29);have h35:=rq (hh.d 6 35);have hlk:=FV.o _ hh.rel;have hJ:=hh.j;clear hh;go_simp;exact⟨_,rfl,bR,rfl,JN.slots hJ.o sn⟩
  ·refine fP fun L a w1 hh=>?_;have XC:=rq (hh.d 7 36);have hJ:=hh.j;clear hh;go_simp;exact⟨_,rfl,bR,rfl,JN.slots hJ.o sn⟩
  ·refine fP fun L a w1 hh=>?_;have h28:=rq (hh.d 8 28);have hJ:=hh.j;clear hh;go_simp;exact⟨_,rfl,bR,rfl,JN.slots hJ.o sn⟩
  ·refine fP fun L a w1 hh=>?_;have h28:=rq (hh.d 8 28);have hJ:=hh.j;clear hh;go_simp;exact⟨_,rfl,bR,rfl,JN.slots hJ.o sn⟩
  ·refine fP fun L a w1 hh=>?_;have hJ:=Hd hh.st;have hsz:=Hd hh.size;have hun:=Hd hh.un;clear hh;go_simp;exact⟨_,rfl,bR.alloc hJ.o.1.2.1 _,trivial,JN.new hJ.o hun.o (bP.bI (by rw[hsz.o];simp))⟩
  ·refine fP fun L a w1 hh=>?_;have h37:=rq (hh.d 9 37);have hup:=hh.up 11 ag;obtain⟨g9,vS,nz,gJ⟩:=hh.st.2.1 hup;have h6:a.tmps[6]?.getD undef=.pointer (some ⟨g9,0,none⟩):=rq (vS);rw[hh.un]at gJ;have hJ:=Hd hh.st;have hun:=Hd hh.un;refine dB 208 _ _ rfl g9 0 (by simpa[go_sem]using h6) (lX d p) (by simpa[go_sem]using h37) _ gJ (nE rfl) ag (by rfl) ?_;intro w9 nC BC;have hP:=hJ.o.Oy hup hun.o vS nC BC rfl;exact⟨undef,rfl,hP.2,trivial,hP.1⟩
  ·refine fP fun L a w1 hh=>?_;have h38:=rq (hh.d 10 38);have hJ:=hh.j;clear hh;go_simp;exact⟨_,rfl,bR,rfl,JN.slots hJ.o sn⟩
  intro L w6 val hL hJ hR hv;have h7:val 7=.bool okb:=hv 13 7 ag;have QG:=Hd hR;obtain⟨g6,e6,BB,Zc⟩:=hJ.2.1 (hL 11 (by decide));rw[hL 12 (by decide)]at Zc;have sJ:=Hd (And.intro BB Zc);clear hv hL hJ hR BB Zc;simp only[regs.aG,List.map_cons,List.map_nil,h7];simp only[Act.put,List.setIfInBounds_toArray,List.set_cons_zero,List.set_cons_succ];clear h7
  skip
  rw[e6];clear e6;have L6:Hid (Below W9.heap.size W9 w6):=QG.o;clear QG FV FP FS F4 FG;simp only[Exit.then];cases okb with
  |false=>
   have HD:Hid (cO x id=none):=by
    show _=_;rw[Zu.o,uV.o rfl];rfl
   have HF:=Hd (IK.o w6 L6.o HD.o);clear IK iP
   gi_wp2_with (fail)
   exact HF.o
  |true=>
   obtain⟨a0l,hcl⟩:=EN.o rfl;rw[a0l]at Zu;have HDO:=Hd (a3z.o d a0l);have WL:=Hd hcl;have Fp:=Hd (Gw (wK.o w6 L6.o).1 HX.o.fit id wU.o);have hnd:dw x id=x.nd id:=if_pos DD.o;have hws:fJ x id=x.ws id:=if_pos DD.o;have HWC:=Hd (fun W (hb:Below W9.heap.size W9 W)=>BN (wK.o W hb).1 id wU.o);have Yx:Hid (has x.t id=true):=DD.o;rw[hnd,Yx.o]at Fp;rw[hws,Yx.o]at HWC;have HCK:Hid ((x.nd id).chk=0):=HX.o.good id
   have HIT:Hid (∀q,dW x id=some q->q.Ok):=fun q hq=>Nl HX.o.good HX.o.fit HX.o.ok HWR.o HN.o (aj.1 DD.o) hq;have HIE:Hid (dW x id=(cO x id).bind fun d=>if (x.nd id).lk.k=0 then none else some ⟨id,x.ws id,d.b,d.c.reverse,d.o,(x.nd id).lk⟩):=rfl;generalize x.nd id=n at*;generalize x.ws id=u at*;have c1:=(wK.o w6 L6.o).2.1.c 0 rfl;have i1:=(wK.o w6 L6.o).2.1.inside;clear a0l hcl hnd hws EN uV a3z Yx
   gi_wp2_with (fail)
   refine⟨trivial,rfl,CallsIn.inRound l ((callsIn_wide (n:=0)).2 (Fp.o.mono ?_))⟩;rintro e w7 ⟨An,cn,rfl,hbN,hoff,hnw⟩;have YL:Hid (Below W9.heap.size W9 w7):=L6.o.trans (hbN.mono L6.o.size);have V4:=Hd (sJ.o.2.below' hbN);have Yd:Hid (Row eW w7 An n.lk.l):=hoff.row;have Yb:Hid (∀a,An=some a->n.lk.l≠[]->W9.heap.size<=a.block):=fun a ea hne=>Nat.le_trans L6.o.size (hnw a ea hne).1;clear hbN hoff hnw c1 i1 Fp;have Q7:Hid (az (w7.alloc (.cells Va.toArray 77)) w7.heap.size Va):=aA w7 Va _
   have iQ:Hid (Below w7.heap.size w7 (w7.alloc (.cells Va.toArray 77))):=bR.alloc nR _
   gi_upto_region 8 with(first|((with_reducible show wpListIn _ _ _ _ _ (Oper.mk _ (Op.store _ _ _) _ _ _ _::_) _ _);first|(refine pF 77 _ _ rfl rfl rfl _ 0 rfl (n.cs An cn) rfl (Va) Q7.o (n.cs An cn) rfl (nE rfl) ag (Nd.one _ _ _) ?_;intro w8 HW8 VS)))
   have xG:Hid (Below w7.heap.size w7 w8):=HW8.o.below iQ.o nR
   obtain⟨k8,hk8⟩:=aC w7.heap.size
   have QN:Hid (Below W9.heap.size W9 w8):=YL.o.trans (xG.o.mono YL.o.size);have a3M:=Hd (V4.o.below' xG.o);have Fh:=Hd (Row.below Yd.o xG.o);have HG8:Hid (W9.heap.size<=k8):=by rw[←hk8];exact YL.o.size
   rw[hk8]at VS ⊢;clear Q7 iQ HW8 xG YL V4 Yd hk8;have c1:=(wK.o w8 QN.o).2.1.c 0 rfl;have i1:=(wK.o w8 QN.o).2.1.inside;have Zr:=Hd (HWC.o w8 QN.o)
   gi_wp2_with (fail)
   refine⟨trivial,rfl,CallsIn.inRound l ((callsIn_wide (n:=0)).2 (Zr.o.mono ?_))⟩;rintro e wA ⟨rfl,Nw⟩;have YK:Hid (Below W9.heap.size W9 wA):=QN.o.trans (Nw.mono QN.o.size);have a3L:=Hd (a3M.o.below' Nw);have a3q:=Hd (VS.o.below' Nw);have Rf:=Hd (Row.below Fh.o Nw);clear Nw c1 i1 HWC Zr QN a3M VS Fh;have Q7:Hid (az (wA.alloc (.cells Vd.toArray 67)) wA.heap.size Vd):=aA wA Vd _;have iQ:Hid (Below wA.heap.size wA (wA.alloc (.cells Vd.toArray 67))):=bR.alloc nR _
   gi_upto_region 9 with(first|((with_reducible show wpListIn _ _ _ _ _ (Oper.mk _ (Op.store _ _ _) _ _ _ _::_) _ _);first|(refine pF 67 _ _ rfl rfl rfl _ 0 rfl (u.cs) rfl (Vd) Q7.o (u.cs) rfl (nE rfl) ag (Mp.one1 _) ?_;intro wB HWB HKB)))
   have xG:Hid (Below wA.heap.size wA wB):=HWB.o.below iQ.o nR
   obtain⟨kA,hkA⟩:=aC wA.heap.size
   have YJ:Hid (Below W9.heap.size W9 wB):=YK.o.trans (xG.o.mono YK.o.size);have a1r:=Hd (a3L.o.below' xG.o);have Yu:=Hd (a3q.o.below' xG.o);have Yc:=Hd (Row.below Rf.o xG.o);have HGA:Hid (W9.heap.size<=kA):=by rw[←hkA];exact YK.o.size
   rw[hkA]at HKB ⊢;clear Q7 iQ HWB xG YK a3L a3q Rf hkA;have i6:=a1r.o.inside;have i8:=Yu.o.inside;have iA:=HKB.o.inside;have Zv:=Hd (ZV d p n An cn u wB HDO.o.1 HCK.o (WL.o.below YJ.o) HDO.o.2)
   gi_wp2_with (first|((with_reducible show wpListIn _ _ _ _ _ (Oper.mk _ (Op.load _ _) _ _ _ _::_) _ _);first|(refine mF 208 _ rfl rfl _ 0 rfl (lX d p) a1r.o (lX d p) rfl _ underlying208 rfl ag ?_)|(refine mF 77 _ rfl rfl _ 0 rfl (n.cs An cn) Yu.o (n.cs An cn) rfl _ underlying77 rfl ag ?_)|(refine mF 67 _ rfl rfl _ 0 rfl (u.cs) HKB.o (u.cs) rfl _ underlying67 rfl ag ?_)))
   refine⟨trivial,rfl,CallsIn.inRound l ((callsIn_wide (n:=0)).2 (Zv.o.mono ?_))⟩;rintro e wC ⟨p2,rfl,a2j,hbC⟩;have YI:Hid (Below W9.heap.size W9 wC):=YJ.o.trans (hbC.mono YJ.o.size);have a3p:=Hd (Yu.o.below' hbC);have a3o:=Hd (HKB.o.below' hbC);have QE:=Hd (Row.below Yc.o hbC);have a1f:=Hd a2j;clear hbC a2j Zv i6 i8 iA YJ a1r Yu HKB Yc WL;have Lu:Hid (cO x id=if d.ok n u=true then some (d.to n u) else none):=Zu.o
   obtain⟨d2,hd2⟩:=aC (d.to n u)
   obtain⟨ok2,hok2⟩:=aC (d.ok n u)
   rw[hd2]at a1f Lu ⊢;rw[hok2]at Lu ⊢;clear hd2 hok2 Zu;have Q7:Hid (az (wC.alloc (.cells #[.int .i64 0,.int .i64 0,.int .i64 0,.int .i64 0,.int .i64 0,.int .i64 0,.int .i64 0,.pointer none] 208)) wC.heap.size [.int .i64 0,.int .i64 0,.int .i64 0,.int .i64 0,.int .i64 0,.int .i64 0,.int .i64 0,.pointer none]):=aA wC [.int .i64 0,.int .i64 0,.int .i64 0,.int .i64 0,.int .i64 0,.int .i64 0,.int .i64 0,.pointer none] _
   have iQ:Hid (Below wC.heap.size wC (wC.alloc (.cells #[.int .i64 0,.int .i64 0,.int .i64 0,.int .i64 0,.int .i64 0,.int .i64 0,.int .i64 0,.pointer none] 208))):=bR.alloc nR _
   gi_upto_region 10 with(first|((with_reducible show wpListIn _ _ _ _ _ (Oper.mk _ (Op.store _ _ _) _ _ _ _::_) _ _);first|(refine pF 208 _ _ rfl rfl rfl _ 0 rfl (lX d2 p2) rfl ([.int .i64 0,.int .i64 0,.int .i64 0,.int .i64 0,.int .i64 0,.int .i64 0,.int .i64 0,.pointer none]) Q7.o (lX d2 p2) rfl (nE rfl) ag (XK _ _) ?_;intro wD Zr mV)))
   have xG:Hid (Below wC.heap.size wC wD):=Zr.o.below iQ.o nR
   obtain⟨kC,hkC⟩:=aC wC.heap.size
   have E5:Hid (Below W9.heap.size W9 wD):=YI.o.trans (xG.o.mono YI.o.size);have a09:=Hd (a3p.o.below' xG.o);have a08:=Hd (a3o.o.below' xG.o);have o6:=Hd (Row.below QE.o xG.o);have a3D:=Hd (a1f.o.below xG.o);have HGC:Hid (W9.heap.size<=kC):=by rw[←hkC];exact YI.o.size
   rw[hkC]at mV ⊢;clear Q7 iQ Zr xG YI a3p a3o QE a1f hkC;cases ok2 with
   |false=>
    have HF:=Hd (IK.o wD E5.o (Lu.o.trans (if_neg (by decide))));clear IK iP
    gi_wp2_with (fail)
    exact HF.o
   |true=>
    have VX:Hid (cO x id=some d2):=Lu.o.trans (if_pos rfl);have HVD:Hid (VM wD m2 es):=X3.o.below E5.o;obtain⟨wE,hrun,hmE,hgE⟩:=HVD.o.store (t:=yL) (E:=F6) vg wU.o (.agg (lX d2 p2).toArray) (by have h1:=iH id (.agg (lX d2 p2).toArray) es;have h2:=HSH.o.few;have h3:=HLEN.o;have h4:=HJB.o;omega);have Yp:=Hd hmE;have Yy:=Hd hgE;have Fq:Hid (m2<W9.heap.size):=X3.o.inside;have c4:=(wK.o wD E5.o).2.2.1.c 0 rfl;have i4:=(wK.o wD E5.o).2.2.1.inside;have iC:=mV.o.inside;clear hmE hgE Lu IK
    gi_upto_region 12 with(first|((with_reducible show wpListIn _ _ _ _ _ (Oper.mk _ (Op.load _ _) _ _ _ _::_) _ _);first|(refine mF 208 _ rfl rfl _ 0 rfl (lX d2 p2) mV.o (lX d2 p2) rfl _ underlying208 rfl ag ?_)))
    have HTE:Hid (ae (UR b3 m2 v) (UR b3 m2 v) W9 wE):=(ae.below E5.o).trans (ae.grown Yy.o fun k e=>.inr (.inl (Option.some.inj e).symm));have Yr:Hid (az wE k8 (n.cs An cn)):=a09.o.stays (Yy.o.block _ a09.o.inside fun e=>by have:=Option.some.inj e;have:=HG8.o;have:=Fq.o;omega);have a3n:Hid (az wE kA u.cs):=a08.o.stays (Yy.o.block _ a08.o.inside fun e=>by have:=Option.some.inj e;have:=HGA.o;have:=Fq.o;omega)
    have a3m:Hid (az wE kC (lX d2 p2)):=mV.o.stays (Yy.o.block _ mV.o.inside fun e=>by have:=Option.some.inj e;have:=HGC.o;have:=Fq.o;omega);have QE:Hid (Row eW wE An n.lk.l):=Row.stays o6.o fun a ea hne=>Yy.o.block _ (Row.lt o6.o ea hne) fun e=>by have:=Option.some.inj e;have:=Yb.o a ea hne;have:=Fq.o;omega
    have hnm:∀(k:Nat) (cu:Array Value) (T:TypeId) (fr:Nat×Nat),wD.heap[k]?=some (Obj.cells cu T fr)->wE.heap[k]?=wD.heap[k]?:=fun k cu T fr h=>Yy.o.block _ (Array.getElem?_eq_some_iff.1 h).1 fun e=>by
     obtain⟨es0,clock,h0,_⟩:=HVD.o.own;have:=Option.some.inj e;subst this;rw[h0]at h;cases h
    have a3C:Hid (xU wE p2 d2.c):=a3D.o.keep fun k cu fr h=>hnm k cu _ fr h
    have a2Q:Hid (Shown x wE (omap.put lt id (.agg (lX d2 p2).toArray) es) T1):=by
     show Shown _ _ _ _;rw[xN.o.2.2];refine(HSH.o.keep fun k cu fr h=>?_).put xN.o.1 xN.o.2.1 VX.o a3C.o;have h1:wD.heap[k]?=W9.heap[k]?:=E5.o.block k (Array.getElem?_eq_some_iff.1 h).1;exact(hnm k cu _ fr (h1.trans h)).trans h1
    have VU:Hid (Its wE w5.heap.size v li):=(HITS.o.below E5.o).stays fun k hk1 hk2=>Yy.o.block k hk2 fun e=>by have:=Option.some.inj e;have:=LC.o;omega
    have YN:Hid (ak wE b3 [v] jS):=(L8.o.stays (E5.o.block _ L8.o.inside)).stays (Yy.o.block _ (Nat.lt_of_lt_of_le L8.o.inside E5.o.size) fun e=>by have:=Option.some.inj e;have:=LC.o;omega);have c13:=Yr.o.c 13 rfl;have i8:=Yr.o.inside;rw[VX.o,Option.bind_some]at HIE;clear hnm c4 i4 iC hrun Yy HVD o6 a3D a09 a08 mV HSH HITS L8;by_cases hk0:n.lk.k=0
    ·rw[hk0]at c13;rw[if_pos hk0]at HIE;have HF:=Hd (iP.o wE v li _ HTE.o YN.o VU.o (by rw[I7.o,ET.o,HIE.o];simp) Yp.o a2Q.o);clear hk0 iP
     gi_wp2_with (fail)
     exact HF.o
    ·have q0:(n.lk.k != 0)=true:=by simpa using hk0
     rw[if_neg hk0]at HIE
     obtain⟨it,hit⟩:∃it:It,(⟨id,u,d2.b,d2.c.reverse,d2.o,n.lk⟩:It)=it:=⟨_,rfl⟩
     obtain⟨rc,hrc⟩:=aC d2.c.reverse
     have Rf:=Hd hrc;rw[hit]at HIE;rw[hrc]at hit;have a3u:=Hd hit
     have hS:∀k,Ar b3 v k->k<W9.heap.size:=fun k e=>by
      have h1:=LC.o;have h2:=Fq.o;rcases e with e|e
      ·omega
      ·exact HVN.o k e
     have Ob:=Hd hS
     obtain⟨B9,gJ⟩:=aC W9.heap.size
     rw[gJ]at Ob HG8 HGA HGC Yb;have YM:Hid (w5.heap.size<=B9):=by rw[←gJ];exact HK.o.size
     have FM:Hid (∀W,ae (Ar b3 v) (Ar b3 v) wE W->az W k8 (n.cs An cn)∧az W kA u.cs∧az W kC (lX d2 p2)∧Row eW W An n.lk.l∧xU W p2 d2.c):=fun W ht=>by
      have hf:∀k,B9<=k->k<wE.heap.size->W.heap[k]?=wE.heap[k]?:=fun k h1 h2=>(ht.far k h2 fun e=>by have:=Ob.o k e;omega).2;refine⟨Yr.o.stays (hf _ HG8.o Yr.o.inside),a3n.o.stays (hf _ HGA.o a3n.o.inside),a3m.o.stays (hf _ HGC.o a3m.o.inside),Row.stays QE.o (fun a ea hne=>hf _ (Yb.o a ea hne) (Row.lt QE.o ea hne)),a3C.o.keep fun k cu fr h=>(ht.far k (Array.getElem?_eq_some_iff.1 h).1 fun e=>?_).2⟩;rcases e with e|e
      ·rw[e,YN.o]at h
       injection h with h
       injection h with _ h _
       exact absurd h (by decide)
      ·obtain⟨cu0,h0⟩:=VU.o.own.typed e;rw[h0]at h
       injection h with h
       injection h with _ h _
       exact absurd h (by decide)
     have oh:Hid (d2.c.length<=2000):=by
      have h:=(HIT.o it HIE.o).few;rw[←a3u.o,←Rf.o]at h;show _<=_
      simpa using h
     have FL:Hid (∀W,ae (Ar b3 v) (Ar b3 v) wE W->Calls prog 88 #[pv p2] W fun e w'=>∃g9,e=.returned (.slice (some ⟨g9,0,none⟩) rc.length d2.c.length)∧W.heap.size<=g9∧az w' g9 (rc.flatMap Cl.cs)∧bz W w'):=fun W ht=>by
      rw[←Rf.o,List.length_reverse];exact Qc d2.c p2 W (FM.o W ht).2.2.2.2 oh.o
     have HBE:Hid (B9<=wE.heap.size):=by rw[←gJ];exact HTE.o.size
     have AV:Hid (∀v',AJ w5.heap.size b3 v li it false false v' wE.drew):=fun v'=>⟨fun _=>YN.o.stays rfl,fun _=>VU.o.below bR.drew,nofun,nofun,by have:=LC.o;omega,by have:=YM.o;have:=HBE.o;show _<=wE.heap.size;omega⟩
     have HLI:Hid (li.length<=2000):=by
      have h1:=congrArg List.length ET.o;rw[List.length_map]at h1;have h2:=List.length_filterMap_le (dW x) T0;have h3:=HLEN.o;have h4:=HJB.o;show _<=_;omega
     have F8:Hid (∀W,ae (Ar b3 v) (Ar b3 v) wE W->az W k8 (n.cs An cn)):=fun W ht=>(FM.o W ht).1;have FA:Hid (∀W,ae (Ar b3 v) (Ar b3 v) wE W->az W kA u.cs):=fun W ht=>(FM.o W ht).2.1;have FC:Hid (∀W,ae (Ar b3 v) (Ar b3 v) wE W->az W kC (lX d2 p2)):=fun W ht=>(FM.o W ht).2.2.1;have FE:Hid (∀W,ae (Ar b3 v) (Ar b3 v) wE W->B9<=W.heap.size):=fun W ht=>Nat.le_trans HBE.o ht.size;clear gJ
     gi_upto_region 13 with(fail)
     clear c13 i8 q0
     refine CG.dL (ae (Ar b3 v) (Ar b3 v)) (fun L V wx=>AJ w5.heap.size b3 v li it (L 14) (L 15) (V 83) wx∧(L 15=true->L 0=true)∧(L 15=true->L 14=true)) [69,70,71,72,73,74,75,76,77,78,79,80,81,82,83] ag ag ag (fun _=>ae.refl _ _) (fun _ _ _ h k=>h.trans k) (fun i=>(match i with
      |0=>rV (v)
      |1=>rV (.int .i64 id)
      |2=>rV (.agg (u.cs).toArray)
      |3=>rp kC 0
      |4=>rV (.agg (d2.b.cs).toArray)
      |5=>rp kC 7
      |6=>rV (pv p2)
      |7=>(⟨fun v9 wv=>∃g9,v9=.slice (some ⟨g9,0,none⟩) rc.length d2.c.length∧EL B9 rc wv g9,fun v9 wa wb h hb=>by
   obtain⟨g9,e,hc⟩:=h
   exact⟨g9,e,hc.turn Ob.o hb⟩⟩:regs.kW (ae (Ar b3 v) (Ar b3 v)))
      |8=>rp kC 6
      |9=>rV (.int .i64 (d2.o:Nat))
      |10=>rp k8 13
      |11=>rV (.agg (n.lk.cs An cn).toArray)
      |12=>(⟨fun v9 wv=>∃g9,v9=.agg (iM.cs (⟨⟨id,u,d2.b,rc,d2.o,n.lk⟩,some ⟨g9,0,none⟩,d2.c.length,An,cn⟩:iM)).toArray∧EL B9 rc wv g9,fun v9 wa wb h hb=>by
   obtain⟨g9,e,hc⟩:=h
   exact⟨g9,e,hc.turn Ob.o hb⟩⟩:regs.kW (ae (Ar b3 v) (Ar b3 v)))
      |13=>(⟨fun v9 wv=>∃g9 gs,v9=.slice (some ⟨gs,0,none⟩) 1 1∧EL B9 rc wv g9∧az wv gs (iM.cs (⟨⟨id,u,d2.b,rc,d2.o,n.lk⟩,some ⟨g9,0,none⟩,d2.c.length,An,cn⟩:iM))∧B9<=gs,fun v9 wa wb h hb=>by
   obtain⟨g9,gs,e,hc,hb8,J9⟩:=h
   exact⟨g9,gs,e,hc.turn Ob.o hb,hb8.stays (hb.far _ hb8.inside fun e=>by have:=Ob.o _ e;omega).2,J9⟩⟩:regs.kW (ae (Ar b3 v) (Ar b3 v)))
      |_=>ra:regs.kW (ae (Ar b3 v) (Ar b3 v))).p) (fun _=>regs.kW.mono _) ag (ae.below bR.drew) (⟨AV.o _,nofun,nofun⟩) ⟨?_,?_,?_,?_,?_,?_,?_,?_,?_,?_,?_,?_,?_,?_,?_,?_,trivial⟩ ?_
     ·refine fP fun L a w1 hh=>?_;have h3:=hh.p 3 b3 0;have hbx:=hh.st.1.box (cZ hh.st.2.1 hh.un);have c0:w1.cell? ⟨b3,0,none⟩=some v:=hbx.blk.cell 0;have i0:=hbx.inside;clear hbx;have hJ:=Hd hh.st;have hsz:=Hd hh.size;clear hh;go_simp;exact⟨_,rfl,ae.refl _ _,rfl,AJ.slots hJ.o.1 sn,(fun _=>rfl),hJ.o.2.2⟩
     ·refine fP fun L a w1 hh=>?_;have h5:=hh.o 5 (v:=.int .i64 id) rfl;have hJ:=hh.j;clear hh;go_simp;exact⟨_,rfl,ae.refl _ _,rfl,⟨AJ.slots hJ.o.1 sn,hJ.o.2⟩⟩
     ·refine fP fun L a w1 hh=>?_;have h10:=hh.p 10 kA 0;have hB:=Hd (FA.o _ hh.rel);have hJ:=Hd hh.st;exact aN 67 _ rfl kA 0 (by simpa[go_sem]using h10) _ hB.o (u.cs) rfl _ underlying67 rfl ag ⟨_,rfl,ae.refl _ _,rfl,⟨AJ.slots hJ.o.1 sn,hJ.o.2⟩⟩
     ·refine fP fun L a w1 hh=>?_;have h12:=hh.p 12 kC 0;have i0:=(FC.o _ hh.rel).inside;have hJ:=hh.j;clear hh;go_simp;exact⟨_,rfl,ae.refl _ _,rfl,⟨AJ.slots hJ.o.1 sn,hJ.o.2⟩⟩
     ·refine fP fun L a w1 hh=>?_;have h72:=rq (hh.d 3 72);have hB:=Hd (FC.o _ hh.rel);have hJ:=Hd hh.st;exact aN 117 _ rfl kC 0 (by simpa[go_sem]using h72) _ hB.o (d2.b.cs) rfl _ underlying117 rfl ag ⟨_,rfl,ae.refl _ _,rfl,⟨AJ.slots hJ.o.1 sn,hJ.o.2⟩⟩
     ·refine fP fun L a w1 hh=>?_;have h12:=hh.p 12 kC 0;have i0:=(FC.o _ hh.rel).inside;have hJ:=hh.j;clear hh;go_simp;exact⟨_,rfl,ae.refl _ _,rfl,⟨AJ.slots hJ.o.1 sn,hJ.o.2⟩⟩
     ·refine fP fun L a w1 hh=>?_;have h74:=rq (hh.d 5 74);have ⟨c0,i0⟩:=(FC.o _ hh.rel).ci 7 rfl;have hJ:=hh.j;clear hh;go_simp;exact⟨_,rfl,ae.refl _ _,rfl,⟨AJ.slots hJ.o.1 sn,hJ.o.2⟩⟩
     ·refine fP fun L a w1 hh=>?_;have h75:=rq (hh.d 6 75);have hC:=Hd (FL.o w1 hh.rel);have hE:=Hd (FE.o w1 hh.rel);have hJ:=Hd hh.st;have hsz:=Hd hh.size;clear hh;go_simp;refine hC.o.mono ?_;rintro e w9 ⟨g9,rfl,nz,bD,hbw⟩;exact⟨_,rfl,ae.below hbw,⟨g9,rfl,bD,Nat.le_trans hE.o nz⟩,AJ.slots (hJ.o.1.below hbw) sn,hJ.o.2⟩
     ·refine fP fun L a w1 hh=>?_;have h12:=hh.p 12 kC 0;have i0:=(FC.o _ hh.rel).inside;have hJ:=hh.j;clear hh;go_simp;exact⟨_,rfl,ae.refl _ _,rfl,⟨AJ.slots hJ.o.1 sn,hJ.o.2⟩⟩
     ·refine fP fun L a w1 hh=>?_;have h77:=rq (hh.d 8 77);have ⟨c0,i0⟩:=(FC.o _ hh.rel).ci 6 rfl;have hJ:=hh.j;clear hh;go_simp;exact⟨_,rfl,ae.refl _ _,rfl,⟨AJ.slots hJ.o.1 sn,hJ.o.2⟩⟩
     ·refine fP fun L a w1 hh=>?_;have h8:=hh.p 8 k8 0;have i0:=(F8.o _ hh.rel).inside;have hJ:=hh.j;clear hh;go_simp;exact⟨_,rfl,ae.refl _ _,rfl,⟨AJ.slots hJ.o.1 sn,hJ.o.2⟩⟩
     ·refine fP fun L a w1 hh=>?_;have h79:=rq (hh.d 10 79);have hB:=Hd (F8.o _ hh.rel);have hJ:=Hd hh.st;exact aN 75 _ rfl k8 13 (by simpa[go_sem]using h79) _ hB.o (n.lk.cs An cn) rfl _ underlying75 rfl ag ⟨_,rfl,ae.refl _ _,rfl,⟨AJ.slots hJ.o.1 sn,hJ.o.2⟩⟩
     ·refine fP fun L a w1 hh=>?_;have h70:=rq (hh.d 1 70);have h71:=rq (hh.d 2 71);have h73:=rq (hh.d 4 73);have h78:=rq (hh.d 9 78);have h80:=rq (hh.d 11 80)
      obtain⟨g9,e76,He⟩:=(show ∃g9,a.tmps.getD 76 undef=.slice (some ⟨g9,0,none⟩) rc.length d2.c.length∧EL B9 rc w1 g9 from hh.d 7 76)
      have h76:a.tmps[76]?.getD undef=.slice (some ⟨g9,0,none⟩) rc.length d2.c.length:=rq (e76);have hJ:=Hd hh.st;exact wp_build _ _ rfl (by simp[go_sem,h70,h71,h73,h76,h78,h80]) (UA (⟨⟨id,u,d2.b,rc,d2.o,n.lk⟩,some ⟨g9,0,none⟩,d2.c.length,An,cn⟩:iM) w1) ⟨_,rfl,ae.refl _ _,⟨g9,rfl,He⟩,⟨AJ.slots hJ.o.1 sn,hJ.o.2⟩⟩
     ·refine fP fun L a w1 hh=>?_
      obtain⟨g9,e81,He⟩:=(show ∃g9,a.tmps.getD 81 undef=.agg (iM.cs (⟨⟨id,u,d2.b,rc,d2.o,n.lk⟩,some ⟨g9,0,none⟩,d2.c.length,An,cn⟩:iM)).toArray∧EL B9 rc w1 g9 from hh.d 12 81)
      have h81:a.tmps[81]?.getD undef=.agg (iM.cs (⟨⟨id,u,d2.b,rc,d2.o,n.lk⟩,some ⟨g9,0,none⟩,d2.c.length,An,cn⟩:iM)).toArray:=rq (e81);have hJ:=Hd hh.st;have hE:=FE.o w1 hh.rel;have hal:bz w1 (w1.alloc (.cells (iM.cs (⟨⟨id,u,d2.b,rc,d2.o,n.lk⟩,some ⟨g9,0,none⟩,d2.c.length,An,cn⟩:iM)).toArray F5)):=bR.alloc nR _
      exact BM _ _ _ rfl (by simp[go_sem,h81]) (a2y (⟨⟨id,u,d2.b,rc,d2.o,n.lk⟩,some ⟨g9,0,none⟩,d2.c.length,An,cn⟩:iM) w1) ⟨_,rfl,ae.below hal,⟨g9,_,rfl,He.turn Ob.o (ae.below hal),aA w1 _ _,hE⟩,AJ.slots (hJ.o.1.below hal) sn,hJ.o.2⟩
     ·refine fP fun L a w1 hh=>?_;have h69:=rq (hh.d 0 69)
      obtain⟨g9,gs,e82,He,hb8,J9⟩:=(show ∃g9 gs,a.tmps.getD 82 undef=.slice (some ⟨gs,0,none⟩) 1 1∧EL B9 rc w1 g9∧az w1 gs (iM.cs (⟨⟨id,u,d2.b,rc,d2.o,n.lk⟩,some ⟨g9,0,none⟩,d2.c.length,An,cn⟩:iM))∧B9<=gs from hh.d 13 82)
      have h82:a.tmps[82]?.getD undef=.slice (some ⟨gs,0,none⟩) 1 1:=rq (e82);have hJ:=Hd hh.st;have hsz:=Hd hh.size;have hun:=Hd hh.un;have hns:=cZ hh.st.2.2 hh.un;have hj1:=hh.st.1;rw[hns]at hj1;have hr:=(FM.o w1 hh.rel).2.2.2.1;have hE:=FE.o w1 hh.rel;have hown:∀k,v.ownBlock=some k->k<B9:=fun k e=>Ob.o k (.inr e)
      obtain⟨v9,w9,hrn,ho9,nz,-⟩:=(hj1.own hh.un).app (⟨⟨id,u,d2.b,rc,d2.o,n.lk⟩,some ⟨g9,0,none⟩,d2.c.length,An,cn⟩:iM) (g:=gs) (c:=1) (yP (l:=[(⟨⟨id,u,d2.b,rc,d2.o,n.lk⟩,some ⟨g9,0,none⟩,d2.c.length,An,cn⟩:iM)]) iM.bV (by simpa using hb8)) ⟨yP Cl.bV He.1,hr⟩ ⟨fun a ea _=>by cases ea;exact⟨by have:=YM.o;have:=He.2;show w5.heap.size<=g9;omega,fun e=>by have:=hown _ e;have:=He.2;simp only at*;omega⟩,fun a ea hne=>⟨by have:=YM.o;have:=Yb.o a ea hne;omega,fun e=>by have:=hown _ e;have:=Yb.o a ea hne;omega⟩⟩ HLI.o (by have:=YM.o;omega)
      exact yF _ _ jS jS jS rfl rfl (by simpa[go_sem]using h69) (by simpa[go_sem]using h82) hrn ⟨v9,rfl,ae.grown nz (fun k e=>.inr e),trivial,AJ.a4m hJ.o.1 hns a3u.o ho9 (bP.bI (by rw[hsz.o];simp)) (nz.block _ (Nat.lt_of_lt_of_le (hj1.box rfl).inside nR) (fun e=>by have h1:=(hj1.own hh.un).own.block e.symm;have:=hj1.lt;omega)) nz.size,(fun _=>hh.up 0 ag),fun _=>rfl⟩
     ·refine fP fun L a w1 hh=>?_;have h3:=hh.p 3 b3 0;have hup:=hh.up 14 ag;have hj1:=hh.st.1;rw[hh.un,hup]at hj1;have hB:=hj1.box rfl;have c0:w1.cell? ⟨b3,0,none⟩=some v:=hB.blk.cell 0;have f0:=hB.blk.free 0;have i0:=hB.inside;obtain⟨q9,-,hi9⟩:=hj1.app rfl;obtain⟨A9,n9,c9,e9⟩:=hi9.own.shape;have e83:a.tmps.getD 83 undef=.slice A9 n9 c9:=e9;have h83:a.tmps[83]?.getD undef=.slice A9 n9 c9:=rq (e83);have HJ1:=Hd hj1;have hul:=Hd (hh.up 0 ag);have Xv:=Hd hup;have a4T:=Hd e83;have hun:=Hd hh.un;have hJ:=Hd hh.st;clear hh hB hup hj1 e83 e9 hi9;go_simp
      exact⟨ae.set (.inl rfl) _,⟨undef,trivial⟩,AJ.a1G (iA:=L 14) hJ.o.1 Xv.o hun.o a4T.o,(fun _=>hul.o),fun _=>Xv.o⟩
     intro L w14 val hL hJ hR hv;have a2S:=Hd hR;have haj:=hJ.1;rw[hL 14 (by decide),hL 15 (by decide)]at haj;obtain⟨q9,QV,hi9⟩:=haj.app rfl;have bD:=haj.sto rfl;have VC:=Hd QV;have HI9:=Hd hi9;have uY:=Hd bD;clear hv hL hJ hR haj QV hi9 bD;simp only[regs.aG,List.map_cons,List.map_nil];simp only[Act.put,List.setIfInBounds_toArray,List.set_cons_zero,List.set_cons_succ]
     skip
     have a4t:Hid (ae (UR b3 m2 v) (UR b3 m2 v) W9 w14):=HTE.o.trans (a2S.o.widen fun k e=>e.elim .inl fun e=>.inr (.inr e))
     have hsame:∀k,k<wE.heap.size->(k=b3->False)->(v.ownBlock=some k->False)->w14.heap[k]?=wE.heap[k]?:=fun k h1 h2 h3=>(a2S.o.far k h1 fun e=>by
      rcases e with e|e
      ·exact h2 e
      ·exact h3 e).2
     have a4q:Hid (VM w14 m2 (omap.put lt id (.agg (lX d2 p2).toArray) es)):=Yp.o.stays (hsame m2 Yp.o.inside (fun e=>by have:=LC.o;omega) fun e=>by have h1:=(VU.o.own.block e).1;have:=LC.o;omega)
     have a4w:Hid (Shown x w14 (omap.put lt id (.agg (lX d2 p2).toArray) es) T1):=a2Q.o.keep fun k cu fr h=>by
      refine hsame k (Array.getElem?_eq_some_iff.1 h).1 (fun e=>?_) fun e=>?_
      ·rw[e,YN.o]at h
       injection h with h
       injection h with _ h _
       exact absurd h (by decide)
      ·obtain⟨cu0,h0⟩:=VU.o.own.typed e;rw[h0]at h
       injection h with h
       injection h with _ h _
       exact absurd h (by decide)
     have HF:=Hd (iP.o w14 _ _ _ a4t.o uY.o HI9.o (by rw[List.map_append,I7.o,ET.o,HIE.o,List.map_cons,VC.o];rfl) a4q.o a4w.o);clear iP hsame
     gi_wp2_with (fail)
     exact HF.o
end
section
open Go.RowKit fD fO aF Go.Maps
theorem UG{M:Int}{x:aK}{l:List dM}(h:(bK M setSt x l).2.2=0):(bK M setSt x l).1.t=(aO M x l).1.t∧(bK M setSt x l).1.nd=(aO M x l).1.nd∧(aO M x l).2.2=0:=by
 unfold bK at h ⊢;by_cases h1:1024<l.length
 ·rw[if_pos h1]at h;cases h
 ·rw[if_neg h1]at h ⊢;by_cases h2:(aO M x l).2.2≠0
  ·rw[if_pos h2]at h;exact absurd h h2
  ·rw[if_neg h2]at h ⊢;by_cases h3:(setSt (aO M x l).1).2≠0
   ·rw[if_pos h3]at h;exact absurd h h3
   ·rw[if_neg h3];exact⟨tq _,tu _,Decidable.not_not.1 h2⟩
end
section
open Go.RowKit fD fO aF Go.Maps
end
section
open Go.RowKit fD fO aF Go.Maps
end
section
open Go.RowKit fD fO aF Go.Maps
theorem a1L{Z:ZZ}(hZ:Z.2.2=9){x:aK}{n:Nat}(h:x.t.length<=10)(hn:n<=1024):n<=1024->Room Z.2.2 x n:=fun _=>⟨hn,.inr ⟨by omega,by rw[hZ];decide⟩⟩
structure UT(w:World)(lb lo:Nat)(q:iM):Prop where
 row:w.rangeAt lb lo q.cs
 at_:pq w q
theorem UT.below{w w':World}{lb lo:Nat}{q:iM}(h:UT w lb lo q)(hb:bz w w'):UT w' lb lo q:=⟨fun i v hv=>(hb.cell (p:=⟨lb,lo+i,none⟩) (World.block_lt_of_cell? w _ (h.row i v hv))).trans (h.row i v hv),h.at_.below hb⟩
theorem UT.inside{w:World}{lb lo:Nat}{q:iM}(h:UT w lb lo q):lb<w.heap.size:=World.block_lt_of_cell? w ⟨lb,_,none⟩ (h.row 0 (.int .i64 q.it.i) rfl)
end
end
section
open Go.RowKit
end
section
open Go.RowKit
end
end Go.Proofs.YthmegninhpihkaaGreat
