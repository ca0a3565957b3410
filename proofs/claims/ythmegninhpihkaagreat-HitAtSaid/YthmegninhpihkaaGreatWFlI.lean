import Derived.Test.YthmegninhpihkaaGreatWFlE
import Derived.Sort.CutIn
set_option maxHeartbeats 16000000
set_option maxRecDepth 100000
open Go.Proofs.Tryz
namespace Go.Proofs.YthmegninhpihkaaGreat
section
open Go.RowKit fF fO aF Go.Maps yl Go.Shelf
attribute [local go_sem] Oper.semAt_some
theorem Sr(w:World):(Instr.build Hr #[(1,.int .i64 255)]).run prog w=.ok (.agg (mZ Dn.top none).toArray) w:=by kernel_rfl
theorem LH(w:World):(Instr.makeMap zT none).run prog w=.ok (.map (some w.heap.size)) (w.alloc (.map #[] 0)):=rfl
structure Ky(x y:Nat)(A W:World):Prop where
 os:W.os=A.os
 tape:W.tape=A.tape
 output:W.output=A.output
 size:A.heap.size<=W.heap.size
 same:∀k,k<A.heap.size->k≠x->k≠y->W.heap[k]?=A.heap[k]?
theorem Ky.refl(x y:Nat)(A:World):Ky x y A A:=⟨rfl,rfl,rfl,nR,fun _ _ _ _=>rfl⟩
theorem Ky.bk{x y:Nat}{A W W':World}(h:Ky x y A W)(hb:Bk A.heap.size W W'):Ky x y A W':=⟨hb.os.trans h.os,hb.tape.trans h.tape,hb.output.trans h.output,Nat.le_trans h.size hb.size,fun k hk h1 h2=>(hb.low (Nat.lt_of_lt_of_le hk h.size) hk).trans (h.same k hk h1 h2)⟩
theorem Ky.aS{x y n:Nat}{A W:World}(h:Ky x y A W)(hx:n<=x)(hy:n<=y)(hs:n<=A.heap.size):Below n A W:=⟨h.os,h.tape,h.output,h.size,fun k hk=>h.same k (by omega) (by omega) (by omega)⟩
def BR(x:Nat)(v:Value):bI:=fun k=>k=x∨v.ownBlock=some k
def Xm(x y:Nat)(v:Value):bI:=fun k=>k=x∨k=y∨v.ownBlock=some k
theorem Ky.turn{x y:Nat}{v:Value}{A W W':World}(h:Ky x y A W)(ht:ae (Xm x y v) (Xm x y v) W W')(hv:∀k,v.ownBlock=some k->A.heap.size<=k):Ky x y A W':=⟨ht.os.trans h.os,ht.tape.trans h.tape,ht.output.trans h.output,Nat.le_trans h.size ht.size,fun k hk h1 h2=>by
 have e:¬Xm x y v k:=fun e=>by
  rcases e with e|e|e
  ·exact h1 e
  ·exact h2 e
  ·have:=hv k e;omega
 exact(ht.far k (Nat.lt_of_lt_of_le hk h.size) e).2.trans (h.same k hk h1 h2)⟩
theorem ae.widen{S T:bI}{w w':World}(h:ae S S w w')(hs:∀k,S k->T k):ae T T w w':=⟨h.os,h.tape,h.output,h.size,fun k hk hn=>⟨hn,(h.far k hk fun e=>hn (hs k e)).2⟩⟩
def Xr(x:aJ)(w:World)(e:Ending)(w':World):Prop:=∃A c l,e=.returned (.slice A l.length c)∧aU 22 ja.cs w' A l∧(∀q∈l,qO w' q∧q.it.Ok∧(∀a,q.Ac=some a->q.it.c≠[]->w.heap.size<=a.block)∧∀a,q.A=some a->q.it.lk.l≠[]->w.heap.size<=a.block)∧l.map (·.it)=items x∧(∀a,A=some a->l≠[]->w.heap.size<=a.block)∧bz w w'
structure LsI(x:aJ)(w5:World)(b3 m2:Nat)(j:Nat)(W:World):Prop where
 ky:Ky b3 m2 w5 W
 ex:∃v l es,au W b3 [v] jY∧Its W w5.heap.size v l∧l.map (·.it)=((aF.walk x.t 0).take j).filterMap (dJ x)∧VM W m2 es∧Shown x W es ((aF.walk x.t 0).take j)
theorem VM.bk{w w':World}{m B:Nat}{es:LV}(h:VM w m es)(hb:Bk B w w'):VM w' m es:=h.stays (by
 obtain⟨es',clock,h1,_⟩:=h.own
 exact(hb.keep h1 rfl).trans h1.symm)
theorem LsI.bk{x:aJ}{w5 W W':World}{b3 m2 j:Nat}(h:LsI x w5 b3 m2 j W)(hb:Bk w5.heap.size W W'):LsI x w5 b3 m2 j W':=⟨h.ky.bk hb,by
 obtain⟨v,l,es,h1,h2,h3,h4,h5⟩:=h.ex
 exact⟨v,l,es,h1.bk hb,h2.bk hb,h3,h4.bk hb,h5.bk hb⟩⟩
theorem YK{ib db x y base:Nat}{v1 v2:Value}{l1 l2:List Int}{w:World}(hx:x<base)(hy:y<base)(h1:base<=ib)(h2:base<=db)(b1:au w ib [v1] bQ)(b2:au w db [v2] bQ)(o1:aP w base v1 l1)(o2:aP w base v2 l2) :
  ∃A1 A2 c1 c2,∀W,Ky x y w W->Nv ib db A1 A2 c1 c2 l1 l2 W:=by
 obtain⟨A1,c1,e1,-,-,r1⟩:=aP.kE o1;obtain⟨A2,c2,e2,-,-,r2⟩:=aP.kE o2;refine⟨A1,A2,c1,c2,fun W hk=>?_⟩
 have o1':aP W base v1 l1:=ak.stays o1 fun k hk'=>by
  have:=ak.block o1 hk';exact hk.same k this.2 (by omega) (by omega)
 have o2':aP W base v2 l2:=ak.stays o2 fun k hk'=>by
  have:=ak.block o2 hk';exact hk.same k this.2 (by omega) (by omega)
 obtain⟨A1',c1',e1',-,-,r1'⟩:=aP.kE o1';obtain⟨A2',c2',e2',-,-,r2'⟩:=aP.kE o2';have f1:=e1.symm.trans e1';have f2:=e2.symm.trans e2'
 injection f1 with f1 _ _
 injection f2 with f2 _ _
 have q1:=(b1.stays (hk.same ib b1.inside (by omega) (by omega))).blk.cell 0;have q2:=(b2.stays (hk.same db b2.inside (by omega) (by omega))).blk.cell 0;rw[e1]at q1;rw[e2]at q2;exact⟨q1,q2,by rw[f1];exact r1',by rw[f2];exact r2'⟩
theorem a01(x:aJ)(w:World):Shown x w (omap.put lt (-1) (.agg (mZ Dn.top none).toArray) []) []:=
 ⟨by rw[omap.dE,if_pos rfl],(fun _ h=>nomatch h),(fun _ h=>nomatch h),fun i _ h1=>by rw[omap.dE,if_neg h1];rfl,by have:=iJ (-1) (.agg (mZ Dn.top none).toArray) [];simpa using this⟩
theorem a2R{x:aJ}(hg:Good x)(ok:Ok x.t)(hw:∀i,has x.t i=true->(x.ws i).right=true)(hn:x.t.length<=900){i:Int}(hi:i=0∨i∈ids x.t){d:Dn}(h:Hg x i=some d):d.o<256∧d.c.length<=1900:=by
 unfold Hg at h;by_cases h0:i=0
 ·rw[if_pos h0]at h
  injection h with e
  rw[←e];exact⟨by decide,by decide⟩
 ·rw[if_neg h0]at h;have hp:par x.t i=0∨par x.t i∈ids x.t:=ok.pin _ (kJ (hi.resolve_left h0));have h1:=O5 hg ok hw hp d h;have h2:=mJ ok hp;exact⟨h1.o,by have:=h1.len;omega⟩
theorem qy{α:Type}{k:Nat}{enc:α->List Value}{w:World}{g:Nat}{l:List α}(hk:∀x,(enc x).length=k)(h:aA w g (l.flatMap enc)):aU k enc w (some ⟨g,0,none⟩) l:=fun _=>⟨g,0,rfl,fun j hj i v hv=>by
 rw[Nat.zero_add,h.cell]
 exact rF hk hj hv⟩
theorem WV(q:ja)(w:World):(Instr.build Hq #[(0,.int .i64 q.it.i),(1,.agg q.it.w.cs.toArray),(2,.agg q.it.b.cs.toArray),(3,.slice q.Ac q.it.c.length q.cc),(4,.int .i64 (q.it.o:Nat)),(5,.agg (q.it.lk.cs q.A q.c).toArray)]).run prog w=.ok (.agg q.cs.toArray) w:=by kernel_rfl
theorem a3T(q:ja)(w:World):(Instr.buildSlice jY 1 #[(0,.agg q.cs.toArray)]).run prog w=.ok (.slice (some ⟨w.heap.size,0,none⟩) 1 1) (w.alloc (.cells q.cs.toArray Hq)):=by kernel_rfl
structure AJ(base b3:Nat)(v:Value)(li:List ja)(it:It)(iA iS:Bool)(v':Value)(w:World):Prop where
 box:iS=false->au w b3 [v] jY
 own:iA=false->Its w base v li
 app:iA=true->∃q,q.it=it∧Its w base v' (li++[q])
 sto:iS=true->au w b3 [v'] jY
 lt:b3<base∧base<=w.heap.size
section
variable {base b3:Nat}{v v' u:Value}{li:List ja}{it:It}{iA iS:Bool}{w w':World}
theorem AJ.below(h:AJ base b3 v li it iA iS v' w)(hb:bz w w'):AJ base b3 v li it iA iS v' w':=⟨fun e=>(h.box e).stays (hb.block _ (h.box e).inside),fun e=>(h.own e).below hb,fun e=>by
 obtain⟨q,h1,h2⟩:=h.app e
 exact⟨q,h1,h2.below hb⟩,fun e=>(h.sto e).stays (hb.block _ (h.sto e).inside),h.lt.1,Nat.le_trans h.lt.2 hb.size⟩
theorem AJ.slots(h:AJ base b3 v li it iA iS v' w)(e:u=v'):AJ base b3 v li it iA iS u w:=by rw[e];exact h
theorem AJ.a5P(h:AJ base b3 v li it iA iS v' w)(hi:iS=false){q:ja}(hq:q.it=it){v9:Value}(h2:Its w' base v9 (li++[q]))(e:u=v9)(hb:w'.heap[b3]?=w.heap[b3]?)(hs:w.heap.size<=w'.heap.size):AJ base b3 v li it true iS u w':=by
 subst hi e;exact⟨fun _=>(h.box rfl).stays hb,nofun,fun _=>⟨q,hq,h2⟩,nofun,h.lt.1,Nat.le_trans h.lt.2 hs⟩
theorem AJ.a2W(h:AJ base b3 v li it iA iS u w)(hA:iA=true)(hS:iS=false){v9:Value}(e:u=v9):AJ base b3 v li it iA true u (w.setCell ⟨b3,0,none⟩ v9):=by
 subst hA hS e
 exact⟨nofun,nofun,fun _=>by
  obtain⟨q,h1,h2⟩:=h.app rfl
  exact⟨q,h1,h2.stays fun k hk _=>heap_setCell_other _ _ _ _ (by have:=h.lt.1;show k≠b3;omega)⟩,fun _=>(h.box rfl).set 0 u,h.lt.1,by have:=h.lt.2;simpa[World.setCell]using this⟩
end
def Gi(B:Nat)(c:List Cl)(w:World)(g:Nat):Prop:=aA w g (c.flatMap Cl.cs)∧B<=g
theorem Gi.turn{S:bI}{B:Nat}{c:List Cl}{w w':World}{g:Nat}(hS:∀k,S k->k<B)(h:Gi B c w g)(ht:ae S S w w'):Gi B c w' g:=⟨h.1.stays (ht.far _ h.1.inside fun e=>by have:=hS _ e;have:=h.2;omega).2,h.2⟩
theorem VD{w:World}{g b m:Nat}{s:Sh}{Z:ZZ}{x:aJ}(h:ax w g b m s Z x)(hx:mV x)(hn:x.t.length<=900) :
  Calls prog 64 #[.pointer (some ⟨g,0,none⟩)] w (Xr x w):=by
 have HS:=Hd h;have HX:=Hd hx;have HN:=Hd hn;have HWR:Hid (∀i,has x.t i=true->(x.ws i).right=true):=fun i hi=>jg hx.ok (fun i=>(hx.good i) |> fun h=>(iO h).1) (aj.1 hi) _ (hx.set i hi (fun _ _ h=>h) (fun h=>h));have HXL:Hid ((aF.walk x.t 0).length=x.t.length+1):=oz hx.ok;have HXM:Hid (∀i,i∈aF.walk x.t 0↔has x.t i=true):=fun i=>iI hx.ok;unfold Xr;clear h hx hn;have HB0:Hid (Below w.heap.size w ((w.alloc (.cells #[.pointer (some ⟨g,0,none⟩)] 25)).alloc (.cells #[.slice none 0 0] 164))):=(bR.alloc nR _).alloc (by simp) _
 have lW:Hid (au ((w.alloc (.cells #[.pointer (some ⟨g,0,none⟩)] 25)).alloc (.cells #[.slice none 0 0] 164)) w.heap.size [.pointer (some ⟨g,0,none⟩)] 25):=(au.new w [.pointer (some ⟨g,0,none⟩)] _).al _;have dO:Hid (au ((w.alloc (.cells #[.pointer (some ⟨g,0,none⟩)] 25)).alloc (.cells #[.slice none 0 0] 164)) (w.heap.size+1) [.slice none 0 0] 164):=jO (w.alloc _) _ (by simp) [.slice none 0 0] _;have JL:Hid (((w.alloc (.cells #[.pointer (some ⟨g,0,none⟩)] 25)).alloc (.cells #[.slice none 0 0] 164)).heap.size=w.heap.size+2):=by show _=_;simp
 refine bV func64 rfl ?_;simp only[ntmps64,List.size_toArray,List.length_cons,List.length_nil,Nat.reduceAdd,Nat.reduceSub,Array.replicate_succ,Array.replicate_zero,List.push_toArray,List.append_toArray,List.nil_append,List.cons_append]
 go_upto_region 2 with(fail)
 generalize ((w.alloc (.cells #[.pointer (some ⟨g,0,none⟩)] 25)).alloc (.cells #[.slice none 0 0] 164))=w0 at*;have hmk:=LH w0;have hm1:VM (w0.alloc (.map #[] 0)) w0.heap.size []:=VM.made w0;have GZ:=Hd hm1;have hb1:Below w0.heap.size w0 (w0.alloc (.map #[] 0)):=bR.alloc nR _;have a2K:Hid (Below w0.heap.size w0 (w0.alloc (.map #[] 0))):=hb1;have HB1:Hid (Below w.heap.size w (w0.alloc (.map #[] 0))):=HB0.o.trans (hb1.mono HB0.o.size);obtain⟨⟨q0,-,-,-,-,-⟩,qi⟩:=(HS.o.below HB1.o).top
 have cs1:(w0.alloc (.map #[] 0)).cell? ⟨w.heap.size,0,none⟩=some (.pointer (some ⟨g,0,none⟩)):=(lW.o.al _).blk.cell 0;have csi:w.heap.size<(w0.alloc (.map #[] 0)).heap.size:=(lW.o.al _).inside;have HTP:=Hd (yV (HS.o.below HB1.o).tree 0 (by constructor<;>decide));have hinv:=pG (.pointer (some ⟨b,0,none⟩)) (.int .i64 0);rw[par_none (Ff HX.o.ok)]at HTP;clear hm1 hb1;go_wp2_with (fail);refine HTP.o.mono ?_;rintro e w2 ⟨rfl,hb2⟩;have NS:=Hd (GZ.o.below hb2);have a2J:Hid (Below w0.heap.size w0 w2):=a2K.o.trans (hb2.mono a2K.o.size)
 clear hb2 GZ HB1 a2K hmk q0 qi cs1 csi hinv HTP
 obtain⟨m2,hm2⟩:=aB w0.heap.size
 rw[hm2]at NS ⊢;have HMZ:Hid (w0.heap.size=m2):=hm2;clear hm2;obtain⟨w3,hrun,VU,hg3⟩:=NS.o.store (t:=zT) (E:=Hr) vZ (i:=-1) ⟨by decide,by decide⟩ (.agg (mZ Dn.top none).toArray) (by decide);have uj:=Hd VU;have lN:Hid (Below w0.heap.size w0 w3):=a2J.o.grown hg3 a2J.o.size fun k hk=>by cases hk;exact Nat.le_of_eq HMZ.o
 clear VU hg3 NS a2J
 go_upto_region 3 with(first|((with_reducible refine gU ?_);refine dw _ _ rfl rfl (by simp[go_sem]) (Sr _) ?_))
 have a2G:Hid (Below w3.heap.size w3 (w3.alloc (.cells #[.map (some m2)] 209))):=bR.alloc nR _;have nT:Hid (au (w3.alloc (.cells #[.map (some m2)] 209)) w3.heap.size [.map (some m2)] 209):=au.new w3 [.map (some m2)] _;have iE:Hid (VM (w3.alloc (.cells #[.map (some m2)] 209)) m2 (omap.put lt (-1) (.agg (mZ Dn.top none).toArray) [])):=uj.o.below a2G.o;have jy:Hid (Below w0.heap.size w0 (w3.alloc (.cells #[.map (some m2)] 209))):=lN.o.trans (a2G.o.mono lN.o.size);have PR:Hid (m2<w3.heap.size):=uj.o.inside
 obtain⟨b4,hb4⟩:=aB w3.heap.size
 rw[hb4]at nT PR ⊢;clear hb4 lN uj a2G hrun;generalize (w3.alloc (.cells #[.map (some m2)] 209))=w4 at*;have Yj:=Hd (HB0.o.trans (jy.o.mono HB0.o.size));have Ya:Hid (au w4 w.heap.size [.pointer (some ⟨g,0,none⟩)] 25):=lW.o.stays (jy.o.block _ lW.o.inside);have a0d:Hid (au w4 (w.heap.size+1) [.slice none 0 0] 164):=dO.o.stays (jy.o.block _ dO.o.inside)
 have XW:Hid (w.heap.size+1<m2∧m2<b4):=⟨by have:=dO.o.inside;have:=HMZ.o;omega,PR.o⟩
 clear lW dO HB0 jy HMZ PR JL;obtain⟨⟨q0,-,-,-,-,-⟩,qi⟩:=(HS.o.below Yj.o).top;have cs1:w4.cell? ⟨w.heap.size,0,none⟩=some (.pointer (some ⟨g,0,none⟩)):=Ya.o.blk.cell 0;have csi:=Ya.o.inside;have HTW:=Hd (a2S (HS.o.below Yj.o).tree (by have:=HN.o;omega));have hinv:=VL (.pointer (some ⟨b,0,none⟩));go_wp2_with (fail);refine HTW.o.mono ?_;rintro e w5 ⟨ib,db,v1,v2,rfl,hi1,hi2,hx1,hx2,ho1,ho2,hb5⟩;clear q0 qi cs1 csi hinv HTW;have gV:=Hd (Yj.o.trans (hb5.mono Yj.o.size))
 have a2q:Hid (au w5 w.heap.size [.pointer (some ⟨g,0,none⟩)] 25):=Ya.o.stays (hb5.block _ Ya.o.inside);have a4P:Hid (au w5 (w.heap.size+1) [.slice none 0 0] 164):=a0d.o.stays (hb5.block _ a0d.o.inside);have a2p:Hid (au w5 b4 [.map (some m2)] 209):=nT.o.stays (hb5.block _ nT.o.inside);have sH:Hid (VM w5 m2 (omap.put lt (-1) (.agg (mZ Dn.top none).toArray) [])):=iE.o.below hb5
 obtain⟨b3,hb3⟩:=aB (w.heap.size+1)
 have HB3:=Hd hb3;rw[hb3]at a4P XW ⊢
 obtain⟨sb,hsb⟩:=aB w.heap.size
 have PQ:=Hd hsb;rw[hsb]at a2q ⊢;have hz3:b3<w4.heap.size:=by have:=a0d.o.inside;omega
 have hz4:m2<w4.heap.size:=by have:=nT.o.inside;have:=XW.o;omega
 obtain⟨B1,B2,d1,d2,a3t⟩:=YK (x:=b3) (y:=m2) hz3 hz4 hi1 hi2 hx1 hx2 ho1 ho2;have HPR:=Hd a3t
 have HXW:Hid (∀j (h:j<(aF.walk x.t 0).length),(tH x.t)[j]?.getD 0=(aF.walk x.t 0)[j]∧(xy x.t)[j]?.getD 0=(depth x.t (aF.walk x.t 0)[j]:Nat)):=fun j h=>by
  have hj2:j<(wd x.t 0 0).length:=by rw[nX];exact h
  have e:=a2Q hj2 h;rw[tH,xy,List.getElem?_map,List.getElem?_map,List.getElem?_eq_getElem hj2,e];exact⟨rfl,rfl⟩
 have HEL:Hid ((sD (tH x.t) (xy x.t)).length=(aF.walk x.t 0).length):=by show _=_;rw[ru,tH,List.length_map,nX]
 have HIL:Hid ((tH x.t).length=(aF.walk x.t 0).length∧(xy x.t).length=(tH x.t).length):=by show _∧_;rw[xy,tH,List.length_map,List.length_map,nX];exact⟨rfl,rfl⟩
 have NG:Hid (sb<b3∧b3<m2∧m2<b4∧b4<w5.heap.size):=⟨by omega,XW.o.1,XW.o.2,a2p.o.inside⟩
 have Yx:Hid (∀W,Ky b3 m2 w5 W->ax W g b m s Z x∧Below w.heap.size w W∧au W sb [.pointer (some ⟨g,0,none⟩)] 25∧au W b4 [.map (some m2)] 209):=fun W hk=>by
  have h1:=NG.o;have h2:Below w.heap.size w W:=gV.o.trans (hk.aS (by omega) (by omega) gV.o.size);exact⟨HS.o.below h2,h2,a2q.o.stays (hk.same _ a2q.o.inside (by omega) (by omega)),a2p.o.stays (hk.same _ a2p.o.inside (by omega) (by omega))⟩
 clear hi1 hi2 hx1 hx2 ho1 ho2 hb5 a3t hz3 hz4 hsb hb3 Ya a0d nT iE XW Yj;go_wp2_with (fail)
 refine kN (gf:=192) (lb:=#[.pointer (some ⟨ib,0,none⟩),.pointer (some ⟨db,0,none⟩)]) rfl (enters_of func192 ag rfl) (es:=sD (tH x.t) (xy x.t)) (R:=fun _=>Eq)
  (Kp:=fun A B=>Nv ib db B1 B2 d1 d2 (tH x.t) (xy x.t) A->Nv ib db B1 B2 d1 d2 (tH x.t) (xy x.t) B)
  (fun W1 hb=>Qx (by have h1:=HIL.o.1;have h2:=HXL.o;have:=HN.o;omega) HIL.o.2 (HPR.o W1 ((Ky.refl _ _ _).bk hb))) (fun h k x=>k (h x)) (fun A B hb h=>h.cells fun a v=>eQ hb) (fun n A B e k o _ hk _=>e ▸ hk)
  (fun e he=>by obtain⟨j,_,rfl⟩:=List.mem_map.1 he;rfl)
  (fun k W=>LsI x w5 b3 m2 k W)
  (fun _ _ _=>False) (fun k A B h hr=>?hI) (fun _ _ _ _ h _=>h.elim) ⟨Ky.refl _ _ _,.slice none 0 0,[],_,a4P.o,Its.nil _ _,rfl,sH.o,a01 _ _⟩ ?a1 ?assign ?body ?done (fun _ _ _ _ _ _ h _=>h.elim)
 case hI=>
  rcases hr with ⟨n,hn,rfl⟩|hb
  ·exact h
  ·exact h.bk hb
 case assign=>
  intro l j hj W9 KK FQ;rw[Il]
  gi_wp2
  exact FQ
 case done=>
  rintro D W9 hD ⟨hk,v,li,es,hb3,hits,hmap,hvm,hsh⟩ hdd
  have HIS:Hid (li.map (·.it)=items x):=by
   show _=_;rw[hmap,HEL.o,List.take_length];rfl
  have HITS:=Hd hits;have Yf:=Hd hdd;have HD1:Hid (w5.heap.size<=D):=hD;have TQ:Hid (Below w.heap.size w W9):=(Yx.o W9 hk).2.1;have c3:W9.cell? ⟨b3,0,none⟩=some v:=hb3.blk.cell 0;have i3:=hb3.inside
  have JP:Hid (∀q∈li,q.it.Ok):=fun q hq=>by
   have h1:q.it∈items x:=by rw[←HIS.o];exact List.mem_map_of_mem hq
   obtain⟨i,hi,he⟩:=List.mem_filterMap.1 h1;exact Fp HX.o.good HX.o.fit HX.o.ok HWR.o HN.o (aj.1 ((HXM.o i).1 hi)) he
  obtain⟨A,n9,c,rfl⟩:=hits.own.shape;clear hk hb3 hits hmap hvm hsh hdd hD;go_wp2_with (fail)
  refine dI w5.heap.size ⟨⟨D,rfl,HD1.o,Yf.o,by simp⟩,trivial⟩ fun w' hb=>⟨_,results_tmp rfl _ _ _,?_⟩
  have h5:=gV.o.size;have hI:=HITS.o.bk hb;obtain⟨A',c',e',-,-,hrow⟩:=hI.own.row ja.bF
  injection e' with e1 e2 e3
  subst e1 e2 e3;refine⟨_,_,li,rfl,hrow,fun q hq=>⟨(hI.at_ q hq).1,JP.o q hq,fun a ea hne=>Nat.le_trans h5 ((hI.at_ q hq).2.c a ea hne).1,fun a ea hne=>Nat.le_trans h5 ((hI.at_ q hq).2.p a ea hne).1⟩,HIS.o,fun a ea hne=>?_,TQ.o.trans (hb.below h5 TQ.o.size)⟩;obtain⟨g0,c0,e0,-⟩:=hI.own.row0 ja.bF (List.length_pos_iff.2 hne);have h0:=(hI.own.block (g:=g0) (by rw[e0];rfl)).1;rw[ea]at e0
  injection e0 with e0 _ _
  injection e0 with e0
  rw[e0];exact Nat.le_trans h5 h0
 case body=>
  rintro l j hj W9 ⟨hk,v,li,es,hb3,hits,hmap,hvm,hsh⟩;have hjX:j<(aF.walk x.t 0).length:=by rw[HEL.o]at hj;exact hj
  obtain⟨h1,h2⟩:=HXW.o j hjX;have J8:Hid (has x.t (aF.walk x.t 0)[j]=true):=(HXM.o _).1 (List.getElem_mem hjX);obtain⟨d,p,okb,hlk,hsm,hyes,hno⟩:=hsh.look HX.o.ok hjX;obtain⟨hnw,hn1,htk⟩:=Ui HX.o.ok hjX;have HJB:Hid (j<=900):=by have:=HXL.o;have:=HN.o;show _<=_;omega
  have J9:=Hd (qG (dJ x) hjX);have yM:=Hd (And.intro hnw (And.intro hn1 htk));have HLEN:Hid (((aF.walk x.t 0).take j).length=j):=by show _=_;rw[List.length_take];omega
  rw[h1,h2];generalize (aF.walk x.t 0)[j]=id at*;generalize hT1:(aF.walk x.t 0).take (j+1)=T1 at*;have HT1:=Hd hT1;clear hT1;generalize (aF.walk x.t 0).take j=T0 at*;generalize hdx:depth x.t id=dx at*;have NY:Hid (I64 id):=lh HX.o.ok J8.o
  have HPI:Hid (I64 (par x.t id)):=by
   by_cases h0:id=0
   ·rw[h0,par_none (Ff HX.o.ok)];constructor<;>decide
   ·rcases HX.o.ok.pin _ (kJ ((aj.1 J8.o).resolve_left h0)) with e|e
    ·simp only at e;rw[e];constructor<;>decide
    ·exact lh HX.o.ok (aj.2 (.inr e))
  have a4X:=Hd (fun d h=>a2R HX.o.good HX.o.ok HWR.o HN.o (aj.1 J8.o) (d:=d) h);have HUP:Hid (bT x id=Dn.step (x.nd id) (x.ws id) (Hg x id)):=Ru HX.o.ok (aj.1 J8.o);have Gl:=Hd hyes;have uh:=Hd hno;have HK:=Hd hk;have N9:=Hd hb3;have HITS:=Hd hits;have Gt:=Hd hmap;have ZE:=Hd hvm;have HSH:=Hd hsh;have HVN:Hid (∀k,v.ownBlock=some k->k<W9.heap.size):=fun k e=>(hits.own.block e).2;have HVB:Hid (∀k,v.ownBlock=some k->w5.heap.size<=k):=fun k e=>(hits.own.block e).1
  have HST:Hid (∀W,ae (Xm b3 m2 v) (Xm b3 m2 v) W9 W->ax W g b m s Z x∧Below w.heap.size w W∧au W sb [.pointer (some ⟨g,0,none⟩)] 25∧au W b4 [.map (some m2)] 209∧Ky b3 m2 w5 W):=fun W ht=>by
   have h:=HK.o.turn ht HVB.o;obtain⟨a1,a2,a3,a4⟩:=Yx.o W h;exact⟨a1,a2,a3,a4,h⟩
  have xJ:Hid (∀W,Below W9.heap.size W9 W->ax W g b m s Z x∧aA W sb [.pointer (some ⟨g,0,none⟩)]∧aA W b4 [.map (some m2)]∧VM W m2 es):=fun W hb=>by
   obtain⟨a1,a2,a3,a4,-⟩:=HST.o W (ae.below hb);exact⟨a1,a3.blk,a4.blk,ZE.o.below hb⟩
  -- what a round leaves,if nothing of what is told changes
  have iR:Hid (∀W v' li' es',ae (Xm b3 m2 v) (Xm b3 m2 v) W9 W->au W b3 [v'] jY->Its W w5.heap.size v' li'->li'.map (·.it)=T1.filterMap (dJ x)->VM W m2 es'->Shown x W es' T1 ->
    KB W9 W∧(Nv ib db B1 B2 d1 d2 (tH x.t) (xy x.t) W9->Nv ib db B1 B2 d1 d2 (tH x.t) (xy x.t) W)∧LsI x w5 b3 m2 (j+1) W):=fun W v' li' es' ht a1 a2 a3 a4 a5=>by
   obtain⟨-,-,-,-,hky⟩:=HST.o W ht;refine⟨fun k o hk9 ho=>(ht.far k (Array.getElem?_eq_some_iff.1 hk9).1 fun e=>?_).2.trans hk9,fun _=>HPR.o W hky,hky,v',li',es',a1,a2,by rw[HT1.o];exact a3,a4,by rw[HT1.o];exact a5⟩;rcases e with e|e|e
   ·rw[e,N9.o]at hk9;cases hk9;cases ho
   ·obtain⟨es0,clock,h0,_⟩:=ZE.o.own;rw[e,h0]at hk9;cases hk9;cases ho
   ·obtain⟨cu,h0⟩:=HITS.o.own.typed e;rw[h0]at hk9;cases hk9;cases ho
  have JO:Hid (∀W,Below W9.heap.size W9 W->bT x id=none->KB W9 W∧(Nv ib db B1 B2 d1 d2 (tH x.t) (xy x.t) W9->Nv ib db B1 B2 d1 d2 (tH x.t) (xy x.t) W)∧LsI x w5 b3 m2 (j+1) W):=fun W hb hd=>by
   refine iR.o W v li es (ae.below hb) (N9.o.stays (hb.block _ N9.o.inside)) (HITS.o.below hb) ?_ (ZE.o.below hb) ?_
   ·rw[J9.o,Gt.o,show dJ x id=none from by unfold dJ;rw[hd];rfl];simp
   ·rw[yM.o.2.2];exact(HSH.o.keep fun k cu fr hk=>hb.block _ (Array.getElem?_eq_some_iff.1 hk).1).skip yM.o.1 yM.o.2.1 hd
  have FV:Hid (∀W,Below W9.heap.size W9 W->(Instr.lookup zT (.map (some m2)) (.int .i64 (par x.t id)) true).run prog W=.ok (.tuple #[.agg (mZ d p).toArray,.bool okb]) W):=fun W hb=>by
   have h:=(xJ.o W hb).2.2.2.look_ok vZ (P7 W) HPI.o;rw[hlk,hsm]at h;exact h
  have FP:Hid (∀W,Below W9.heap.size W9 W->Calls prog 189 #[.pointer (some ⟨b,0,none⟩),.int .i64 id] W (aX (.int .i64 (par x.t id)) W)):=fun W hb=>yV (xJ.o W hb).1.tree id NY.o;have FS:Hid (∀W,Below W9.heap.size W9 W->aA W sb [.pointer (some ⟨g,0,none⟩)]):=fun W hb=>(xJ.o W hb).2.1;have F4:Hid (∀W,Below W9.heap.size W9 W->aA W b4 [.map (some m2)]):=fun W hb=>(xJ.o W hb).2.2.1;have FG:Hid (∀W,Below W9.heap.size W9 W->aA W g (sccs b m Z)):=fun W hb=>(xJ.o W hb).1.blk.blk;generalize par x.t id=pp at*
  clear hk hb3 hits hmap hvm hsh hlk hsm hyes hno hnw hn1 htk h1 h2 hj hjX hdx HXW;refine wpIn_block (wpIn_seq ?_)
  refine D9.dP (Below W9.heap.size) (fun L V wx=>JN W9.heap.size [] ([.int .i64 0,.int .i64 0,.int .i64 0,.int .i64 0,.int .i64 0,.int .i64 0,.int .i64 0,.pointer none]) (mZ d p) (L 11) (L 12) (V 6) wx) [29,30,31,32,33,34,35,36,28,37,38,6,7] ag ag ag (fun _=>bR) (fun _ _ _ h k=>h.trans k) (fun i=>(match i with
   |0=>rV (.map (some m2))
   |1|2|3=>rp g 0
   |4=>rV (.iface 88 (.pointer (some ⟨b,0,none⟩)))
   |5=>rV (.int .i64 id)
   |6=>rV (.int .i64 pp)
   |7|8=>rV (.tuple #[.agg (mZ d p).toArray,.bool okb])
   |9=>rV (.agg (mZ d p).toArray)
   |10|13=>rV (.bool okb)
   |_=>ra:regs.kX (Below W9.heap.size)).p) (fun _=>regs.kX.mono _) ag (bR.drew) (JN.start (old:=[]) trivial) ⟨?_,?_,?_,?_,?_,?_,?_,?_,?_,?_,?_,?_,?_,?_,trivial⟩ ?_
  ·refine fK fun L a w1 hh=>?_;have h4:=hh.p 4 b4 0;have ⟨c0,i0⟩:=(F4.o _ hh.rel).ci 0 rfl;have hJ:=hh.j;clear hh;go_simp;exact⟨_,rfl,bR,rfl,JN.slots hJ.o sn⟩
  ·refine fK fun L a w1 hh=>?_;have h1:=hh.p 1 sb 0;have ⟨c0,i0⟩:=(FS.o _ hh.rel).ci 0 rfl;have hJ:=hh.j;clear hh;go_simp;exact⟨_,rfl,bR,rfl,JN.slots hJ.o sn⟩
  ·refine fK fun L a w1 hh=>?_;have h30:=rq (hh.d 1 30);have hJ:=hh.j;clear hh;go_simp;exact⟨_,rfl,bR,rfl,JN.slots hJ.o sn⟩
  ·refine fK fun L a w1 hh=>?_;have h31:=rq (hh.d 2 31);have i0:=(FG.o _ hh.rel).inside;have hJ:=hh.j;clear hh;go_simp;exact⟨_,rfl,bR,rfl,JN.slots hJ.o sn⟩
  ·refine fK fun L a w1 hh=>?_;have h32:=rq (hh.d 3 32);have ⟨c0,i0⟩:=(FG.o _ hh.rel).ci 0 rfl;have hJ:=hh.j;clear hh;go_simp;exact⟨_,rfl,bR,rfl,JN.slots hJ.o sn⟩
  ·refine fK fun L a w1 hh=>?_;have h5:=hh.o 5 (v:=.int .i64 id) rfl;have hJ:=hh.j;clear hh;go_simp;exact⟨_,rfl,bR,rfl,JN.slots hJ.o sn⟩
  ·refine fK fun L a w1 hh=>?_;have TG:=rq (hh.d 4 33);have V9:=rq (hh.d 5 34);have hinv:=pG (.pointer (some ⟨b,0,none⟩)) (.int .i64 id);have hC:=Hd (FP.o _ hh.rel);have hJ:=hh.j;clear hh;go_simp;refine hC.o.mono ?_;rintro e w9 ⟨rfl,aY⟩;exact⟨_,rfl,aY.mono hJ.o.1.2.1,rfl,JN.slots (JN.below hJ.o aY) sn⟩
  ·refine fK fun L a w1 hh=>?_;have CS:=rq (hh.d 0 29);have h35:=rq (hh.d 6 35);have hlk:=FV.o _ hh.rel;have hJ:=hh.j;clear hh;go_simp;exact⟨_,rfl,bR,rfl,JN.slots hJ.o sn⟩
  ·refine fK fun L a w1 hh=>?_;have TF:=rq (hh.d 7 36);have hJ:=hh.j;clear hh;go_simp;exact⟨_,rfl,bR,rfl,JN.slots hJ.o sn⟩
  ·refine fK fun L a w1 hh=>?_;have h28:=rq (hh.d 8 28);have hJ:=hh.j;clear hh;go_simp;exact⟨_,rfl,bR,rfl,JN.slots hJ.o sn⟩
  ·refine fK fun L a w1 hh=>?_;have h28:=rq (hh.d 8 28);have hJ:=hh.j;clear hh;go_simp;exact⟨_,rfl,bR,rfl,JN.slots hJ.o sn⟩
  ·refine fK fun L a w1 hh=>?_;have hJ:=Hd hh.st;have hsz:=Hd hh.size;have hun:=Hd hh.un;clear hh;go_simp;exact⟨_,rfl,bR.alloc hJ.o.1.2.1 _,trivial,JN.new hJ.o hun.o (bJ.aZ (by rw[hsz.o];simp))⟩
  ·refine fK fun L a w1 hh=>?_;have h37:=rq (hh.d 9 37);have hup:=hh.up 11 ag;obtain⟨g9,qj,jA,fJ⟩:=hh.st.2.1 hup;have h6:a.tmps[6]?.getD undef=.pointer (some ⟨g9,0,none⟩):=rq (qj);rw[hh.un]at fJ;have hJ:=Hd hh.st;have hun:=Hd hh.un;refine bW 208 _ _ rfl g9 0 (by simpa[go_sem]using h6) (mZ d p) (by simpa[go_sem]using h37) _ fJ (nE rfl) ag (by rfl) ?_;intro w9 lu xg;have hP:=hJ.o.Ht hup hun.o qj lu xg rfl;exact⟨undef,rfl,hP.2,trivial,hP.1⟩
  ·refine fK fun L a w1 hh=>?_;have h38:=rq (hh.d 10 38);have hJ:=hh.j;clear hh;go_simp;exact⟨_,rfl,bR,rfl,JN.slots hJ.o sn⟩
  intro L w6 val hL hJ hR hv;have h7:val 7=.bool okb:=hv 13 7 ag;have CU:=Hd hR;obtain⟨g6,e6,zk,hB6⟩:=hJ.2.1 (hL 11 (by decide));rw[hL 12 (by decide)]at hB6;have ou:=Hd (And.intro zk hB6);clear hv hL hJ hR zk hB6;simp only[regs.aG,List.map_cons,List.map_nil,h7];simp only[Act.put,List.setIfInBounds_toArray,List.set_cons_zero,List.set_cons_succ];clear h7
  skip
  rw[e6];clear e6;have N8:Hid (Below W9.heap.size W9 w6):=CU.o;clear CU FV FP FS F4 FG;simp only[Exit.then];cases okb with
  |false=>
   have HD:Hid (bT x id=none):=by
    show _=_;rw[HUP.o,uh.o rfl];rfl
   have HF:=Hd (JO.o w6 N8.o HD.o);clear JO iR
   gi_wp2_with (fail)
   exact HF.o
  |true=>
   obtain⟨a1j,hcl⟩:=Gl.o rfl;rw[a1j]at HUP;have HDO:=Hd (a4X.o d a1j);have PX:=Hd hcl;have GX:=Hd (UU (xJ.o w6 N8.o).1 HX.o.fit id NY.o);have hnd:gZ x id=x.nd id:=if_pos J8.o;have hws:gy x id=x.ws id:=if_pos J8.o;have Yw:=Hd (fun W (hb:Below W9.heap.size W9 W)=>Dz (xJ.o W hb).1 id NY.o);have TY:Hid (has x.t id=true):=J8.o;rw[hnd,TY.o]at GX;rw[hws,TY.o]at Yw;have HCK:Hid ((x.nd id).chk=0):=HX.o.good id
   have HIT:Hid (∀q,dJ x id=some q->q.Ok):=fun q hq=>Fp HX.o.good HX.o.fit HX.o.ok HWR.o HN.o (aj.1 J8.o) hq;have HIE:Hid (dJ x id=(bT x id).bind fun d=>if (x.nd id).lk.k=0 then none else some ⟨id,x.ws id,d.b,d.c.reverse,d.o,(x.nd id).lk⟩):=rfl;generalize x.nd id=n at*;generalize x.ws id=u at*;have c1:=(xJ.o w6 N8.o).2.1.c 0 rfl;have i1:=(xJ.o w6 N8.o).2.1.inside;clear a1j hcl hnd hws Gl uh a4X TY
   gi_wp2_with (fail)
   refine⟨trivial,rfl,CallsIn.inRound l ((callsIn_wide (n:=0)).2 (GX.o.mono ?_))⟩;rintro e w7 ⟨An,cn,rfl,hbN,hoff,hnw⟩;have a0q:Hid (Below W9.heap.size W9 w7):=N8.o.trans (hbN.mono N8.o.size);have Ym:=Hd (ou.o.2.below' hbN);have ZM:Hid (Row eW w7 An n.lk.l):=hoff.row;have ZL:Hid (∀a,An=some a->n.lk.l≠[]->W9.heap.size<=a.block):=fun a ea hne=>Nat.le_trans N8.o.size (hnw a ea hne).1;clear hbN hoff hnw c1 i1 GX;have TP:Hid (aA (w7.alloc (.cells Va.toArray 77)) w7.heap.size Va):=az w7 Va _
   have jW:Hid (Below w7.heap.size w7 (w7.alloc (.cells Va.toArray 77))):=bR.alloc nR _
   gi_upto_region 8 with(first|((with_reducible show wpListIn _ _ _ _ _ (Oper.mk _ (Op.store _ _ _) _ _ _ _::_) _ _);first|(refine qp 77 _ _ rfl rfl rfl _ 0 rfl (n.cs An cn) rfl (Va) TP.o (n.cs An cn) rfl (nE rfl) ag (Nd.one _ _ _) ?_;intro w8 HW8 X9)))
   have yG:Hid (Below w7.heap.size w7 w8):=HW8.o.below jW.o nR
   obtain⟨k8,hk8⟩:=aB w7.heap.size
   have Tn:Hid (Below W9.heap.size W9 w8):=a0q.o.trans (yG.o.mono a0q.o.size);have a5j:=Hd (Ym.o.below' yG.o);have zF:=Hd (Row.below ZM.o yG.o);have HG8:Hid (W9.heap.size<=k8):=by rw[←hk8];exact a0q.o.size
   rw[hk8]at X9 ⊢;clear TP jW HW8 yG a0q Ym ZM hk8;have c1:=(xJ.o w8 Tn.o).2.1.c 0 rfl;have i1:=(xJ.o w8 Tn.o).2.1.inside;have HWD:=Hd (Yw.o w8 Tn.o)
   gi_wp2_with (fail)
   refine⟨trivial,rfl,CallsIn.inRound l ((callsIn_wide (n:=0)).2 (HWD.o.mono ?_))⟩;rintro e wA ⟨rfl,OZ⟩;have a0p:Hid (Below W9.heap.size W9 wA):=Tn.o.trans (OZ.mono Tn.o.size);have a5i:=Hd (a5j.o.below' OZ);have a4M:=Hd (X9.o.below' OZ);have TS:=Hd (Row.below zF.o OZ);clear OZ c1 i1 Yw HWD Tn a5j X9 zF;have TP:Hid (aA (wA.alloc (.cells Vd.toArray 67)) wA.heap.size Vd):=az wA Vd _;have jW:Hid (Below wA.heap.size wA (wA.alloc (.cells Vd.toArray 67))):=bR.alloc nR _
   gi_upto_region 9 with(first|((with_reducible show wpListIn _ _ _ _ _ (Oper.mk _ (Op.store _ _ _) _ _ _ _::_) _ _);first|(refine qp 67 _ _ rfl rfl rfl _ 0 rfl (u.cs) rfl (Vd) TP.o (u.cs) rfl (nE rfl) ag (Mp.one1 _) ?_;intro wB HWB HKB)))
   have yG:Hid (Below wA.heap.size wA wB):=HWB.o.below jW.o nR
   obtain⟨kA,hkA⟩:=aB wA.heap.size
   have a0o:Hid (Below W9.heap.size W9 wB):=a0p.o.trans (yG.o.mono a0p.o.size);have a2F:=Hd (a5i.o.below' yG.o);have a0b:=Hd (a4M.o.below' yG.o);have Dt:=Hd (Row.below TS.o yG.o);have HGA:Hid (W9.heap.size<=kA):=by rw[←hkA];exact a0p.o.size
   rw[hkA]at HKB ⊢;clear TP jW HWB yG a0p a5i a4M TS hkA;have i6:=a2F.o.inside;have i8:=a0b.o.inside;have iA:=HKB.o.inside;have HTO:=Hd (a0Y d p n An cn u wB HDO.o.1 HCK.o (PX.o.below a0o.o) HDO.o.2)
   gi_wp2_with (first|((with_reducible show wpListIn _ _ _ _ _ (Oper.mk _ (Op.load _ _) _ _ _ _::_) _ _);first|(refine nD 208 _ rfl rfl _ 0 rfl (mZ d p) a2F.o (mZ d p) rfl _ underlying208 rfl ag ?_)|(refine nD 77 _ rfl rfl _ 0 rfl (n.cs An cn) a0b.o (n.cs An cn) rfl _ underlying77 rfl ag ?_)|(refine nD 67 _ rfl rfl _ 0 rfl (u.cs) HKB.o (u.cs) rfl _ underlying67 rfl ag ?_)))
   refine⟨trivial,rfl,CallsIn.inRound l ((callsIn_wide (n:=0)).2 (HTO.o.mono ?_))⟩;rintro e wC ⟨p2,rfl,a3F,hbC⟩;have a0n:Hid (Below W9.heap.size W9 wC):=a0o.o.trans (hbC.mono a0o.o.size);have a4L:=Hd (a0b.o.below' hbC);have a4K:=Hd (HKB.o.below' hbC);have SQ:=Hd (Row.below Dt.o hbC);have a2v:=Hd a3F;clear hbC a3F HTO i6 i8 iA a0o a2F a0b HKB Dt PX;have NF:Hid (bT x id=if d.ok n u=true then some (d.to n u) else none):=HUP.o
   obtain⟨d2,hd2⟩:=aB (d.to n u)
   obtain⟨ok2,hok2⟩:=aB (d.ok n u)
   rw[hd2]at a2v NF ⊢;rw[hok2]at NF ⊢;clear hd2 hok2 HUP;have TP:Hid (aA (wC.alloc (.cells #[.int .i64 0,.int .i64 0,.int .i64 0,.int .i64 0,.int .i64 0,.int .i64 0,.int .i64 0,.pointer none] 208)) wC.heap.size [.int .i64 0,.int .i64 0,.int .i64 0,.int .i64 0,.int .i64 0,.int .i64 0,.int .i64 0,.pointer none]):=az wC [.int .i64 0,.int .i64 0,.int .i64 0,.int .i64 0,.int .i64 0,.int .i64 0,.int .i64 0,.pointer none] _
   have jW:Hid (Below wC.heap.size wC (wC.alloc (.cells #[.int .i64 0,.int .i64 0,.int .i64 0,.int .i64 0,.int .i64 0,.int .i64 0,.int .i64 0,.pointer none] 208))):=bR.alloc nR _
   gi_upto_region 10 with(first|((with_reducible show wpListIn _ _ _ _ _ (Oper.mk _ (Op.store _ _ _) _ _ _ _::_) _ _);first|(refine qp 208 _ _ rfl rfl rfl _ 0 rfl (mZ d2 p2) rfl ([.int .i64 0,.int .i64 0,.int .i64 0,.int .i64 0,.int .i64 0,.int .i64 0,.int .i64 0,.pointer none]) TP.o (mZ d2 p2) rfl (nE rfl) ag (Zn _ _) ?_;intro wD HWD nS)))
   have yG:Hid (Below wC.heap.size wC wD):=HWD.o.below jW.o nR
   obtain⟨kC,hkC⟩:=aB wC.heap.size
   have Gz:Hid (Below W9.heap.size W9 wD):=a0n.o.trans (yG.o.mono a0n.o.size);have a2n:=Hd (a4L.o.below' yG.o);have a2m:=Hd (a4K.o.below' yG.o);have oh:=Hd (Row.below SQ.o yG.o);have a5b:=Hd (a2v.o.below yG.o);have HGC:Hid (W9.heap.size<=kC):=by rw[←hkC];exact a0n.o.size
   rw[hkC]at nS ⊢;clear TP jW HWD yG a0n a4L a4K SQ a2v hkC;cases ok2 with
   |false=>
    have HF:=Hd (JO.o wD Gz.o (NF.o.trans (if_neg (by decide))));clear JO iR
    gi_wp2_with (fail)
    exact HF.o
   |true=>
    have Yf:Hid (bT x id=some d2):=NF.o.trans (if_pos rfl);have HVD:Hid (VM wD m2 es):=ZE.o.below Gz.o;obtain⟨wE,hrun,hmE,hgE⟩:=HVD.o.store (t:=zT) (E:=Hr) vZ NY.o (.agg (mZ d2 p2).toArray) (by have h1:=iJ id (.agg (mZ d2 p2).toArray) es;have h2:=HSH.o.few;have h3:=HLEN.o;have h4:=HJB.o;omega);have Z7:=Hd hmE;have HGE:=Hd hgE;have GY:Hid (m2<W9.heap.size):=ZE.o.inside;have c4:=(xJ.o wD Gz.o).2.2.1.c 0 rfl;have i4:=(xJ.o wD Gz.o).2.2.1.inside;have iC:=nS.o.inside;clear hmE hgE NF JO
    gi_upto_region 12 with(first|((with_reducible show wpListIn _ _ _ _ _ (Oper.mk _ (Op.load _ _) _ _ _ _::_) _ _);first|(refine nD 208 _ rfl rfl _ 0 rfl (mZ d2 p2) nS.o (mZ d2 p2) rfl _ underlying208 rfl ag ?_)))
    have HTE:Hid (ae (Xm b3 m2 v) (Xm b3 m2 v) W9 wE):=(ae.below Gz.o).trans (ae.grown HGE.o fun k e=>.inr (.inl (Option.some.inj e).symm));have Z9:Hid (aA wE k8 (n.cs An cn)):=a2n.o.stays (HGE.o.block _ a2n.o.inside fun e=>by have:=Option.some.inj e;have:=HG8.o;have:=GY.o;omega);have a4J:Hid (aA wE kA u.cs):=a2m.o.stays (HGE.o.block _ a2m.o.inside fun e=>by have:=Option.some.inj e;have:=HGA.o;have:=GY.o;omega)
    have a4I:Hid (aA wE kC (mZ d2 p2)):=nS.o.stays (HGE.o.block _ nS.o.inside fun e=>by have:=Option.some.inj e;have:=HGC.o;have:=GY.o;omega);have SQ:Hid (Row eW wE An n.lk.l):=Row.stays oh.o fun a ea hne=>HGE.o.block _ (Row.lt oh.o ea hne) fun e=>by have:=Option.some.inj e;have:=ZL.o a ea hne;have:=GY.o;omega
    have hnm:∀(k:Nat) (cu:Array Value) (T:TypeId) (fr:Nat×Nat),wD.heap[k]?=some (Obj.cells cu T fr)->wE.heap[k]?=wD.heap[k]?:=fun k cu T fr h=>HGE.o.block _ (Array.getElem?_eq_some_iff.1 h).1 fun e=>by
     obtain⟨es0,clock,h0,_⟩:=HVD.o.own;have:=Option.some.inj e;subst this;rw[h0]at h;cases h
    have a5a:Hid (yR wE p2 d2.c):=a5b.o.keep fun k cu fr h=>hnm k cu _ fr h
    have a4l:Hid (Shown x wE (omap.put lt id (.agg (mZ d2 p2).toArray) es) T1):=by
     show Shown _ _ _ _;rw[yM.o.2.2];refine(HSH.o.keep fun k cu fr h=>?_).put yM.o.1 yM.o.2.1 Yf.o a5a.o;have h1:wD.heap[k]?=W9.heap[k]?:=Gz.o.block k (Array.getElem?_eq_some_iff.1 h).1;exact(hnm k cu _ fr (h1.trans h)).trans h1
    have Yb:Hid (Its wE w5.heap.size v li):=(HITS.o.below Gz.o).stays fun k hk1 hk2=>HGE.o.block k hk2 fun e=>by have:=Option.some.inj e;have:=NG.o;omega
    have a0s:Hid (au wE b3 [v] jY):=(N9.o.stays (Gz.o.block _ N9.o.inside)).stays (HGE.o.block _ (Nat.lt_of_lt_of_le N9.o.inside Gz.o.size) fun e=>by have:=Option.some.inj e;have:=NG.o;omega);have c13:=Z9.o.c 13 rfl;have i8:=Z9.o.inside;rw[Yf.o,Option.bind_some]at HIE;clear hnm c4 i4 iC hrun HGE HVD oh a5b a2n a2m nS HSH HITS N9;by_cases hk0:n.lk.k=0
    ·rw[hk0]at c13;rw[if_pos hk0]at HIE;have HF:=Hd (iR.o wE v li _ HTE.o a0s.o Yb.o (by rw[J9.o,Gt.o,HIE.o];simp) Z7.o a4l.o);clear hk0 iR
     gi_wp2_with (fail)
     exact HF.o
    ·have q0:(n.lk.k != 0)=true:=by simpa using hk0
     rw[if_neg hk0]at HIE
     obtain⟨it,hit⟩:∃it:It,(⟨id,u,d2.b,d2.c.reverse,d2.o,n.lk⟩:It)=it:=⟨_,rfl⟩
     obtain⟨rc,hrc⟩:=aB d2.c.reverse
     have TS:=Hd hrc;rw[hit]at HIE;rw[hrc]at hit;have a4S:=Hd hit
     have hS:∀k,BR b3 v k->k<W9.heap.size:=fun k e=>by
      have h1:=NG.o;have h2:=GY.o;rcases e with e|e
      ·omega
      ·exact HVN.o k e
     have PO:=Hd hS
     obtain⟨B9,fJ⟩:=aB W9.heap.size
     rw[fJ]at PO HG8 HGA HGC ZL;have a0r:Hid (w5.heap.size<=B9):=by rw[←fJ];exact HK.o.size
     have FM:Hid (∀W,ae (BR b3 v) (BR b3 v) wE W->aA W k8 (n.cs An cn)∧aA W kA u.cs∧aA W kC (mZ d2 p2)∧Row eW W An n.lk.l∧yR W p2 d2.c):=fun W ht=>by
      have hf:∀k,B9<=k->k<wE.heap.size->W.heap[k]?=wE.heap[k]?:=fun k h1 h2=>(ht.far k h2 fun e=>by have:=PO.o k e;omega).2;refine⟨Z9.o.stays (hf _ HG8.o Z9.o.inside),a4J.o.stays (hf _ HGA.o a4J.o.inside),a4I.o.stays (hf _ HGC.o a4I.o.inside),Row.stays SQ.o (fun a ea hne=>hf _ (ZL.o a ea hne) (Row.lt SQ.o ea hne)),a5a.o.keep fun k cu fr h=>(ht.far k (Array.getElem?_eq_some_iff.1 h).1 fun e=>?_).2⟩;rcases e with e|e
      ·rw[e,a0s.o]at h
       injection h with h
       injection h with _ h _
       exact absurd h (by decide)
      ·obtain⟨cu0,h0⟩:=Yb.o.own.typed e;rw[h0]at h
       injection h with h
       injection h with _ h _
       exact absurd h (by decide)
     have mX:Hid (d2.c.length<=2000):=by
      have h:=(HIT.o it HIE.o).few;rw[←a4S.o,←TS.o]at h;show _<=_
      simpa using h
     have FL:Hid (∀W,ae (BR b3 v) (BR b3 v) wE W->Calls prog 88 #[pv p2] W fun e w'=>∃g9,e=.returned (.slice (some ⟨g9,0,none⟩) rc.length d2.c.length)∧W.heap.size<=g9∧aA w' g9 (rc.flatMap Cl.cs)∧bz W w'):=fun W ht=>by
      rw[←TS.o,List.length_reverse];exact RI d2.c p2 W (FM.o W ht).2.2.2.2 mX.o
     have Gx:Hid (B9<=wE.heap.size):=by rw[←fJ];exact HTE.o.size
     have Cm:Hid (∀v',AJ w5.heap.size b3 v li it false false v' wE.drew):=fun v'=>⟨fun _=>a0s.o.stays rfl,fun _=>Yb.o.below bR.drew,nofun,nofun,by have:=NG.o;omega,by have:=a0r.o;have:=Gx.o;show _<=wE.heap.size;omega⟩
     have HLI:Hid (li.length<=2000):=by
      have h1:=congrArg List.length Gt.o;rw[List.length_map]at h1;have h2:=List.length_filterMap_le (dJ x) T0;have h3:=HLEN.o;have h4:=HJB.o;show _<=_;omega
     have F8:Hid (∀W,ae (BR b3 v) (BR b3 v) wE W->aA W k8 (n.cs An cn)):=fun W ht=>(FM.o W ht).1;have FA:Hid (∀W,ae (BR b3 v) (BR b3 v) wE W->aA W kA u.cs):=fun W ht=>(FM.o W ht).2.1;have FC:Hid (∀W,ae (BR b3 v) (BR b3 v) wE W->aA W kC (mZ d2 p2)):=fun W ht=>(FM.o W ht).2.2.1;have FE:Hid (∀W,ae (BR b3 v) (BR b3 v) wE W->B9<=W.heap.size):=fun W ht=>Nat.le_trans Gx.o ht.size;clear fJ
     gi_upto_region 13 with(fail)
     clear c13 i8 q0
     refine D9.dP (ae (BR b3 v) (BR b3 v)) (fun L V wx=>AJ w5.heap.size b3 v li it (L 14) (L 15) (V 83) wx∧(L 15=true->L 0=true)∧(L 15=true->L 14=true)) [69,70,71,72,73,74,75,76,77,78,79,80,81,82,83] ag ag ag (fun _=>ae.refl _ _) (fun _ _ _ h k=>h.trans k) (fun i=>(match i with
      |0=>rV (v)
      |1=>rV (.int .i64 id)
      |2=>rV (.agg (u.cs).toArray)
      |3=>rp kC 0
      |4=>rV (.agg (d2.b.cs).toArray)
      |5=>rp kC 7
      |6=>rV (pv p2)
      |7=>(⟨fun v9 wv=>∃g9,v9=.slice (some ⟨g9,0,none⟩) rc.length d2.c.length∧Gi B9 rc wv g9,fun v9 wa wb h hb=>by
   obtain⟨g9,e,hc⟩:=h
   exact⟨g9,e,hc.turn PO.o hb⟩⟩:regs.kX (ae (BR b3 v) (BR b3 v)))
      |8=>rp kC 6
      |9=>rV (.int .i64 (d2.o:Nat))
      |10=>rp k8 13
      |11=>rV (.agg (n.lk.cs An cn).toArray)
      |12=>(⟨fun v9 wv=>∃g9,v9=.agg (ja.cs (⟨⟨id,u,d2.b,rc,d2.o,n.lk⟩,some ⟨g9,0,none⟩,d2.c.length,An,cn⟩:ja)).toArray∧Gi B9 rc wv g9,fun v9 wa wb h hb=>by
   obtain⟨g9,e,hc⟩:=h
   exact⟨g9,e,hc.turn PO.o hb⟩⟩:regs.kX (ae (BR b3 v) (BR b3 v)))
      |13=>(⟨fun v9 wv=>∃g9 gs,v9=.slice (some ⟨gs,0,none⟩) 1 1∧Gi B9 rc wv g9∧aA wv gs (ja.cs (⟨⟨id,u,d2.b,rc,d2.o,n.lk⟩,some ⟨g9,0,none⟩,d2.c.length,An,cn⟩:ja))∧B9<=gs,fun v9 wa wb h hb=>by
   obtain⟨g9,gs,e,hc,hb8,MC⟩:=h
   exact⟨g9,gs,e,hc.turn PO.o hb,hb8.stays (hb.far _ hb8.inside fun e=>by have:=PO.o _ e;omega).2,MC⟩⟩:regs.kX (ae (BR b3 v) (BR b3 v)))
      |_=>ra:regs.kX (ae (BR b3 v) (BR b3 v))).p) (fun _=>regs.kX.mono _) ag (ae.below bR.drew) (⟨Cm.o _,nofun,nofun⟩) ⟨?_,?_,?_,?_,?_,?_,?_,?_,?_,?_,?_,?_,?_,?_,?_,?_,trivial⟩ ?_
     ·refine fK fun L a w1 hh=>?_;have h3:=hh.p 3 b3 0;have hbx:=hh.st.1.box (bU hh.st.2.1 hh.un);have c0:w1.cell? ⟨b3,0,none⟩=some v:=hbx.blk.cell 0;have i0:=hbx.inside;clear hbx;have hJ:=Hd hh.st;have hsz:=Hd hh.size;clear hh;go_simp;exact⟨_,rfl,ae.refl _ _,rfl,AJ.slots hJ.o.1 sn,(fun _=>rfl),hJ.o.2.2⟩
     ·refine fK fun L a w1 hh=>?_;have h5:=hh.o 5 (v:=.int .i64 id) rfl;have hJ:=hh.j;clear hh;go_simp;exact⟨_,rfl,ae.refl _ _,rfl,⟨AJ.slots hJ.o.1 sn,hJ.o.2⟩⟩
     ·refine fK fun L a w1 hh=>?_;have h10:=hh.p 10 kA 0;have hB:=Hd (FA.o _ hh.rel);have hJ:=Hd hh.st;exact aN 67 _ rfl kA 0 (by simpa[go_sem]using h10) _ hB.o (u.cs) rfl _ underlying67 rfl ag ⟨_,rfl,ae.refl _ _,rfl,⟨AJ.slots hJ.o.1 sn,hJ.o.2⟩⟩
     ·refine fK fun L a w1 hh=>?_;have h12:=hh.p 12 kC 0;have i0:=(FC.o _ hh.rel).inside;have hJ:=hh.j;clear hh;go_simp;exact⟨_,rfl,ae.refl _ _,rfl,⟨AJ.slots hJ.o.1 sn,hJ.o.2⟩⟩
     ·refine fK fun L a w1 hh=>?_;have h72:=rq (hh.d 3 72);have hB:=Hd (FC.o _ hh.rel);have hJ:=Hd hh.st;exact aN 117 _ rfl kC 0 (by simpa[go_sem]using h72) _ hB.o (d2.b.cs) rfl _ underlying117 rfl ag ⟨_,rfl,ae.refl _ _,rfl,⟨AJ.slots hJ.o.1 sn,hJ.o.2⟩⟩
     ·refine fK fun L a w1 hh=>?_;have h12:=hh.p 12 kC 0;have i0:=(FC.o _ hh.rel).inside;have hJ:=hh.j;clear hh;go_simp;exact⟨_,rfl,ae.refl _ _,rfl,⟨AJ.slots hJ.o.1 sn,hJ.o.2⟩⟩
     ·refine fK fun L a w1 hh=>?_;have h74:=rq (hh.d 5 74);have ⟨c0,i0⟩:=(FC.o _ hh.rel).ci 7 rfl;have hJ:=hh.j;clear hh;go_simp;exact⟨_,rfl,ae.refl _ _,rfl,⟨AJ.slots hJ.o.1 sn,hJ.o.2⟩⟩
     ·refine fK fun L a w1 hh=>?_;have h75:=rq (hh.d 6 75);have hC:=Hd (FL.o w1 hh.rel);have hE:=Hd (FE.o w1 hh.rel);have hJ:=Hd hh.st;have hsz:=Hd hh.size;clear hh;go_simp;refine hC.o.mono ?_;rintro e w9 ⟨g9,rfl,jA,aY,hbw⟩;exact⟨_,rfl,ae.below hbw,⟨g9,rfl,aY,Nat.le_trans hE.o jA⟩,AJ.slots (hJ.o.1.below hbw) sn,hJ.o.2⟩
     ·refine fK fun L a w1 hh=>?_;have h12:=hh.p 12 kC 0;have i0:=(FC.o _ hh.rel).inside;have hJ:=hh.j;clear hh;go_simp;exact⟨_,rfl,ae.refl _ _,rfl,⟨AJ.slots hJ.o.1 sn,hJ.o.2⟩⟩
     ·refine fK fun L a w1 hh=>?_;have h77:=rq (hh.d 8 77);have ⟨c0,i0⟩:=(FC.o _ hh.rel).ci 6 rfl;have hJ:=hh.j;clear hh;go_simp;exact⟨_,rfl,ae.refl _ _,rfl,⟨AJ.slots hJ.o.1 sn,hJ.o.2⟩⟩
     ·refine fK fun L a w1 hh=>?_;have h8:=hh.p 8 k8 0;have i0:=(F8.o _ hh.rel).inside;have hJ:=hh.j;clear hh;go_simp;exact⟨_,rfl,ae.refl _ _,rfl,⟨AJ.slots hJ.o.1 sn,hJ.o.2⟩⟩
     ·refine fK fun L a w1 hh=>?_;have h79:=rq (hh.d 10 79);have hB:=Hd (F8.o _ hh.rel);have hJ:=Hd hh.st;exact aN 75 _ rfl k8 13 (by simpa[go_sem]using h79) _ hB.o (n.lk.cs An cn) rfl _ underlying75 rfl ag ⟨_,rfl,ae.refl _ _,rfl,⟨AJ.slots hJ.o.1 sn,hJ.o.2⟩⟩
     ·refine fK fun L a w1 hh=>?_;have h70:=rq (hh.d 1 70);have h71:=rq (hh.d 2 71);have h73:=rq (hh.d 4 73);have h78:=rq (hh.d 9 78);have h80:=rq (hh.d 11 80)
      obtain⟨g9,e76,IU⟩:=(show ∃g9,a.tmps.getD 76 undef=.slice (some ⟨g9,0,none⟩) rc.length d2.c.length∧Gi B9 rc w1 g9 from hh.d 7 76)
      have h76:a.tmps[76]?.getD undef=.slice (some ⟨g9,0,none⟩) rc.length d2.c.length:=rq (e76);have hJ:=Hd hh.st;exact wp_build _ _ rfl (by simp[go_sem,h70,h71,h73,h76,h78,h80]) (WV (⟨⟨id,u,d2.b,rc,d2.o,n.lk⟩,some ⟨g9,0,none⟩,d2.c.length,An,cn⟩:ja) w1) ⟨_,rfl,ae.refl _ _,⟨g9,rfl,IU⟩,⟨AJ.slots hJ.o.1 sn,hJ.o.2⟩⟩
     ·refine fK fun L a w1 hh=>?_
      obtain⟨g9,e81,IU⟩:=(show ∃g9,a.tmps.getD 81 undef=.agg (ja.cs (⟨⟨id,u,d2.b,rc,d2.o,n.lk⟩,some ⟨g9,0,none⟩,d2.c.length,An,cn⟩:ja)).toArray∧Gi B9 rc w1 g9 from hh.d 12 81)
      have h81:a.tmps[81]?.getD undef=.agg (ja.cs (⟨⟨id,u,d2.b,rc,d2.o,n.lk⟩,some ⟨g9,0,none⟩,d2.c.length,An,cn⟩:ja)).toArray:=rq (e81);have hJ:=Hd hh.st;have hE:=FE.o w1 hh.rel;have hal:bz w1 (w1.alloc (.cells (ja.cs (⟨⟨id,u,d2.b,rc,d2.o,n.lk⟩,some ⟨g9,0,none⟩,d2.c.length,An,cn⟩:ja)).toArray Hq)):=bR.alloc nR _
      exact zJ _ _ _ rfl (by simp[go_sem,h81]) (a3T (⟨⟨id,u,d2.b,rc,d2.o,n.lk⟩,some ⟨g9,0,none⟩,d2.c.length,An,cn⟩:ja) w1) ⟨_,rfl,ae.below hal,⟨g9,_,rfl,IU.turn PO.o (ae.below hal),az w1 _ _,hE⟩,AJ.slots (hJ.o.1.below hal) sn,hJ.o.2⟩
     ·refine fK fun L a w1 hh=>?_;have h69:=rq (hh.d 0 69)
      obtain⟨g9,gs,e82,IU,hb8,MC⟩:=(show ∃g9 gs,a.tmps.getD 82 undef=.slice (some ⟨gs,0,none⟩) 1 1∧Gi B9 rc w1 g9∧aA w1 gs (ja.cs (⟨⟨id,u,d2.b,rc,d2.o,n.lk⟩,some ⟨g9,0,none⟩,d2.c.length,An,cn⟩:ja))∧B9<=gs from hh.d 13 82)
      have h82:a.tmps[82]?.getD undef=.slice (some ⟨gs,0,none⟩) 1 1:=rq (e82);have hJ:=Hd hh.st;have hsz:=Hd hh.size;have hun:=Hd hh.un;have hns:=bU hh.st.2.2 hh.un;have hj1:=hh.st.1;rw[hns]at hj1;have hr:=(FM.o w1 hh.rel).2.2.2.1;have hE:=FE.o w1 hh.rel;have hown:∀k,v.ownBlock=some k->k<B9:=fun k e=>PO.o k (.inr e)
      obtain⟨v9,w9,hrn,L9,jA,-⟩:=(hj1.own hh.un).app (⟨⟨id,u,d2.b,rc,d2.o,n.lk⟩,some ⟨g9,0,none⟩,d2.c.length,An,cn⟩:ja) (g:=gs) (c:=1) (qy (l:=[(⟨⟨id,u,d2.b,rc,d2.o,n.lk⟩,some ⟨g9,0,none⟩,d2.c.length,An,cn⟩:ja)]) ja.bF (by simpa using hb8)) ⟨qy Cl.bF IU.1,hr⟩ ⟨fun a ea _=>by cases ea;exact⟨by have:=a0r.o;have:=IU.2;show w5.heap.size<=g9;omega,fun e=>by have:=hown _ e;have:=IU.2;simp only at*;omega⟩,fun a ea hne=>⟨by have:=a0r.o;have:=ZL.o a ea hne;omega,fun e=>by have:=hown _ e;have:=ZL.o a ea hne;omega⟩⟩ HLI.o (by have:=a0r.o;omega)
      exact vX _ _ jY jY jY rfl rfl (by simpa[go_sem]using h69) (by simpa[go_sem]using h82) hrn ⟨v9,rfl,ae.grown jA (fun k e=>.inr e),trivial,AJ.a5P hJ.o.1 hns a4S.o L9 (bJ.aZ (by rw[hsz.o];simp)) (jA.block _ (Nat.lt_of_lt_of_le (hj1.box rfl).inside nR) (fun e=>by have h1:=(hj1.own hh.un).own.block e.symm;have:=hj1.lt;omega)) jA.size,(fun _=>hh.up 0 ag),fun _=>rfl⟩
     ·refine fK fun L a w1 hh=>?_;have h3:=hh.p 3 b3 0;have hup:=hh.up 14 ag;have hj1:=hh.st.1;rw[hh.un,hup]at hj1;have hB:=hj1.box rfl;have c0:w1.cell? ⟨b3,0,none⟩=some v:=hB.blk.cell 0;have f0:=hB.blk.free 0;have i0:=hB.inside;obtain⟨q9,-,hi9⟩:=hj1.app rfl;obtain⟨A9,n9,c9,e9⟩:=hi9.own.shape;have e83:a.tmps.getD 83 undef=.slice A9 n9 c9:=e9;have h83:a.tmps[83]?.getD undef=.slice A9 n9 c9:=rq (e83);have HJ1:=Hd hj1;have hul:=Hd (hh.up 0 ag);have Za:=Hd hup;have a6x:=Hd e83;have hun:=Hd hh.un;have hJ:=Hd hh.st;clear hh hB hup hj1 e83 e9 hi9;go_simp
      exact⟨ae.set (.inl rfl) _,⟨undef,trivial⟩,AJ.a2W (iA:=L 14) hJ.o.1 Za.o hun.o a6x.o,(fun _=>hul.o),fun _=>Za.o⟩
     intro L w14 val hL hJ hR hv;have a4n:=Hd hR;have haj:=hJ.1;rw[hL 14 (by decide),hL 15 (by decide)]at haj;obtain⟨q9,OW,hi9⟩:=haj.app rfl;have aY:=haj.sto rfl;have XL:=Hd OW;have HI9:=Hd hi9;have pV:=Hd aY;clear hv hL hJ hR haj OW hi9 aY;simp only[regs.aG,List.map_cons,List.map_nil];simp only[Act.put,List.setIfInBounds_toArray,List.set_cons_zero,List.set_cons_succ]
     skip
     have a5W:Hid (ae (Xm b3 m2 v) (Xm b3 m2 v) W9 w14):=HTE.o.trans (a4n.o.widen fun k e=>e.elim .inl fun e=>.inr (.inr e))
     have hsame:∀k,k<wE.heap.size->(k=b3->False)->(v.ownBlock=some k->False)->w14.heap[k]?=wE.heap[k]?:=fun k h1 h2 h3=>(a4n.o.far k h1 fun e=>by
      rcases e with e|e
      ·exact h2 e
      ·exact h3 e).2
     have a5T:Hid (VM w14 m2 (omap.put lt id (.agg (mZ d2 p2).toArray) es)):=Z7.o.stays (hsame m2 Z7.o.inside (fun e=>by have:=NG.o;omega) fun e=>by have h1:=(Yb.o.own.block e).1;have:=NG.o;omega)
     have a5Z:Hid (Shown x w14 (omap.put lt id (.agg (mZ d2 p2).toArray) es) T1):=a4l.o.keep fun k cu fr h=>by
      refine hsame k (Array.getElem?_eq_some_iff.1 h).1 (fun e=>?_) fun e=>?_
      ·rw[e,a0s.o]at h
       injection h with h
       injection h with _ h _
       exact absurd h (by decide)
      ·obtain⟨cu0,h0⟩:=Yb.o.own.typed e;rw[h0]at h
       injection h with h
       injection h with _ h _
       exact absurd h (by decide)
     have HF:=Hd (iR.o w14 _ _ _ a5W.o pV.o HI9.o (by rw[List.map_append,J9.o,Gt.o,HIE.o,List.map_cons,XL.o];rfl) a5T.o a5Z.o);clear iR hsame
     gi_wp2_with (fail)
     exact HF.o
end
section
open Go.RowKit fF fO aF Go.Maps
theorem Xc{M:Int}{x:aJ}{l:List dU}(h:(cO M setSt x l).2.2=0):(cO M setSt x l).1.t=(aT M x l).1.t∧(cO M setSt x l).1.nd=(aT M x l).1.nd∧(aT M x l).2.2=0:=by
 unfold cO at h ⊢;by_cases h1:1024<l.length
 ·rw[if_pos h1]at h;cases h
 ·rw[if_neg h1]at h ⊢;by_cases h2:(aT M x l).2.2≠0
  ·rw[if_pos h2]at h;exact absurd h h2
  ·rw[if_neg h2]at h ⊢;by_cases h3:(setSt (aT M x l).1).2≠0
   ·rw[if_pos h3]at h;exact absurd h h3
   ·rw[if_neg h3];exact⟨uq _,uu _,Decidable.not_not.1 h2⟩
end
section
open Go.RowKit fF fO aF Go.Maps
end
section
open Go.RowKit fF fO aF Go.Maps
theorem UD{w w':World}{b o:Nat}{cs:List Value}(h:w.rangeAt b o cs)(hb:bz w w'):w'.rangeAt b o cs:=fun i v hv=>(hb.cell (p:=⟨b,o+i,none⟩) (World.block_lt_of_cell? w _ (h i v hv))).trans (h i v hv)
end
section
open Go.RowKit fF fO aF Go.Maps
theorem a3b{Z:ZZ}(hZ:Z.2.2=9){x:aJ}{n:Nat}(h:x.t.length<=10)(hn:n<=1024):n<=1024->Room Z.2.2 x n:=fun _=>⟨hn,.inr ⟨by omega,by rw[hZ];decide⟩⟩
structure Xn(w:World)(lb lo:Nat)(q:ja):Prop where
 row:w.rangeAt lb lo q.cs
 at_:qO w q
theorem Xn.below{w w':World}{lb lo:Nat}{q:ja}(h:Xn w lb lo q)(hb:bz w w'):Xn w' lb lo q:=⟨fun i v hv=>(hb.cell (p:=⟨lb,lo+i,none⟩) (World.block_lt_of_cell? w _ (h.row i v hv))).trans (h.row i v hv),h.at_.below hb⟩
theorem Xn.inside{w:World}{lb lo:Nat}{q:ja}(h:Xn w lb lo q):lb<w.heap.size:=World.block_lt_of_cell? w ⟨lb,_,none⟩ (h.row 0 (.int .i64 q.it.i) rfl)
end
end Go.Proofs.YthmegninhpihkaaGreat
