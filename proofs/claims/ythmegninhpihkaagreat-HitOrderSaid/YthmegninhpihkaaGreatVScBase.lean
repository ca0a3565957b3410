import Derived.Test.YthmegninhpihkaaGreatVFlE
import Derived.Sort.CutIn
import Derived.Test.YthmegninhpihkaaGreatRows
import Derived.ProofKit
import Derived.OpenShut
import Derived.ChangeOld
import Derived.Carry
import Derived.Deep.Fields
set_option maxHeartbeats 16000000
set_option maxRecDepth 100000
open Go.Proofs.Tryz
namespace Go.Proofs.YthmegninhpihkaaGreat
section
open Go.RowKit fG gm aF Go.Maps xk Go.Shelf
attribute [local go_sem] Oper.semAt_some
theorem Qc(w:World):(Instr.build FH #[(1,.int .i64 255)]).run prog w=.ok (.agg (lX Dn.top none).toArray) w:=by kernel_rfl
theorem JB(w:World):(Instr.makeMap yM none).run prog w=.ok (.map (some w.heap.size)) (w.alloc (.map #[] 0)):=rfl
structure I4(x y:Nat)(A W:World):Prop where
 os:W.os=A.os
 tape:W.tape=A.tape
 output:W.output=A.output
 size:A.heap.size<=W.heap.size
 same:∀k,k<A.heap.size->k≠x->k≠y->W.heap[k]?=A.heap[k]?
theorem I4.refl(x y:Nat)(A:World):I4 x y A A:=⟨rfl,rfl,rfl,nR,fun _ _ _ _=>rfl⟩
theorem I4.bk{x y:Nat}{A W W':World}(h:I4 x y A W)(hb:Bk A.heap.size W W'):I4 x y A W':=⟨hb.os.trans h.os,hb.tape.trans h.tape,hb.output.trans h.output,Nat.le_trans h.size hb.size,fun k hk h1 h2=>(hb.low (Nat.lt_of_lt_of_le hk h.size) hk).trans (h.same k hk h1 h2)⟩
theorem I4.aQ{x y n:Nat}{A W:World}(h:I4 x y A W)(hx:n<=x)(hy:n<=y)(hs:n<=A.heap.size):Below n A W:=⟨h.os,h.tape,h.output,h.size,fun k hk=>h.same k (by omega) (by omega) (by omega)⟩
def Aw(x:Nat)(v:Value):bF:=fun k=>k=x∨v.ownBlock=some k
def UA(x y:Nat)(v:Value):bF:=fun k=>k=x∨k=y∨v.ownBlock=some k
theorem I4.turn{x y:Nat}{v:Value}{A W W':World}(h:I4 x y A W)(ht:ae (UA x y v) (UA x y v) W W')(hv:∀k,v.ownBlock=some k->A.heap.size<=k):I4 x y A W':=⟨ht.os.trans h.os,ht.tape.trans h.tape,ht.output.trans h.output,Nat.le_trans h.size ht.size,fun k hk h1 h2=>by
 have e:¬UA x y v k:=fun e=>by
  rcases e with e|e|e
  ·exact h1 e
  ·exact h2 e
  ·have:=hv k e;omega
 exact(ht.far k (Nat.lt_of_lt_of_le hk h.size) e).2.trans (h.same k hk h1 h2)⟩
theorem ae.widen{S T:bF}{w w':World}(h:ae S S w w')(hs:∀k,S k->T k):ae T T w w':=⟨h.os,h.tape,h.output,h.size,fun k hk hn=>⟨hn,(h.far k hk fun e=>hn (hs k e)).2⟩⟩
def UD(x:aJ)(w:World)(e:Ending)(w':World):Prop:=∃A c l,e=.returned (.slice A l.length c)∧aV 22 jl.cs w' A l∧(∀q∈l,qR w' q∧q.it.Ok∧(∀a,q.Ac=some a->q.it.c≠[]->w.heap.size<=a.block)∧∀a,q.A=some a->q.it.lk.l≠[]->w.heap.size<=a.block)∧l.map (·.it)=items x∧(∀a,A=some a->l≠[]->w.heap.size<=a.block)∧bz w w'
structure LsI(x:aJ)(w5:World)(b3 m2:Nat)(j:Nat)(W:World):Prop where
 ky:I4 b3 m2 w5 W
 ex:∃v l es,au W b3 [v] jR∧Its W w5.heap.size v l∧l.map (·.it)=((aF.walk x.t 0).take j).filterMap (fA x)∧VM W m2 es∧Shown x W es ((aF.walk x.t 0).take j)
theorem VM.bk{w w':World}{m B:Nat}{es:LV}(h:VM w m es)(hb:Bk B w w'):VM w' m es:=h.stays (by
 obtain⟨es',clock,h1,_⟩:=h.own
 exact(hb.keep h1 rfl).trans h1.symm)
theorem LsI.bk{x:aJ}{w5 W W':World}{b3 m2 j:Nat}(h:LsI x w5 b3 m2 j W)(hb:Bk w5.heap.size W W'):LsI x w5 b3 m2 j W':=⟨h.ky.bk hb,by
 obtain⟨v,l,es,h1,h2,h3,h4,h5⟩:=h.ex
 exact⟨v,l,es,h1.bk hb,h2.bk hb,h3,h4.bk hb,h5.bk hb⟩⟩
theorem WC{ib db x y base:Nat}{v1 v2:Value}{l1 l2:List Int}{w:World}(hx:x<base)(hy:y<base)(h1:base<=ib)(h2:base<=db)(b1:au w ib [v1] bU)(b2:au w db [v2] bU)(o1:aU w base v1 l1)(o2:aU w base v2 l2) :
  ∃A1 A2 c1 c2,∀W,I4 x y w W->KP ib db A1 A2 c1 c2 l1 l2 W:=by
 obtain⟨A1,c1,e1,-,-,r1⟩:=aU.lM o1;obtain⟨A2,c2,e2,-,-,r2⟩:=aU.lM o2;refine⟨A1,A2,c1,c2,fun W hk=>?_⟩
 have o1':aU W base v1 l1:=ax.stays o1 fun k hk'=>by
  have:=ax.block o1 hk';exact hk.same k this.2 (by omega) (by omega)
 have o2':aU W base v2 l2:=ax.stays o2 fun k hk'=>by
  have:=ax.block o2 hk';exact hk.same k this.2 (by omega) (by omega)
 obtain⟨A1',c1',e1',-,-,r1'⟩:=aU.lM o1';obtain⟨A2',c2',e2',-,-,r2'⟩:=aU.lM o2';have f1:=e1.symm.trans e1';have f2:=e2.symm.trans e2'
 injection f1 with f1 _ _
 injection f2 with f2 _ _
 have q1:=(b1.stays (hk.same ib b1.inside (by omega) (by omega))).blk.cell 0;have q2:=(b2.stays (hk.same db b2.inside (by omega) (by omega))).blk.cell 0;rw[e1]at q1;rw[e2]at q2;exact⟨q1,q2,by rw[f1];exact r1',by rw[f2];exact r2'⟩
theorem ZH(x:aJ)(w:World):Shown x w (omap.put lt (-1) (.agg (lX Dn.top none).toArray) []) []:=
 ⟨by rw[omap.dw,if_pos rfl],(fun _ h=>nomatch h),(fun _ h=>nomatch h),fun i _ h1=>by rw[omap.dw,if_neg h1];rfl,by have:=iF (-1) (.agg (lX Dn.top none).toArray) [];simpa using this⟩
theorem a1o{x:aJ}(hg:Good x)(ok:Ok x.t)(hw:∀i,has x.t i=true->(x.ws i).right=true)(hn:x.t.length<=900){i:Int}(hi:i=0∨i∈ids x.t){d:Dn}(h:Fj x i=some d):d.o<256∧d.c.length<=1900:=by
 unfold Fj at h;by_cases h0:i=0
 ·rw[if_pos h0]at h
  injection h with e
  rw[←e];exact⟨by decide,by decide⟩
 ·rw[if_neg h0]at h;have hp:par x.t i=0∨par x.t i∈ids x.t:=ok.pin _ (jX (hi.resolve_left h0));have h1:=Nh hg ok hw hp d h;have h2:=nN ok hp;exact⟨h1.o,by have:=h1.len;omega⟩
theorem FN{α:Type}{k:Nat}{enc:α->List Value}{w:World}{g:Nat}{l:List α}(hk:∀x,(enc x).length=k)(h:az w g (l.flatMap enc)):aV k enc w (some ⟨g,0,none⟩) l:=fun _=>⟨g,0,rfl,fun j hj i v hv=>by
 rw[Nat.zero_add,h.cell]
 exact qH hk hj hv⟩
theorem Uj(q:jl)(w:World):(Instr.build FD #[(0,.int .i64 q.it.i),(1,.agg q.it.w.cs.toArray),(2,.agg q.it.b.cs.toArray),(3,.slice q.Ac q.it.c.length q.cc),(4,.int .i64 (q.it.o:Nat)),(5,.agg (q.it.lk.cs q.A q.c).toArray)]).run prog w=.ok (.agg q.cs.toArray) w:=by kernel_rfl
theorem a2n(q:jl)(w:World):(Instr.buildSlice jR 1 #[(0,.agg q.cs.toArray)]).run prog w=.ok (.slice (some ⟨w.heap.size,0,none⟩) 1 1) (w.alloc (.cells q.cs.toArray FD)):=by kernel_rfl
structure AJ(base b3:Nat)(v:Value)(li:List jl)(it:It)(iA iS:Bool)(v':Value)(w:World):Prop where
 box:iS=false->au w b3 [v] jR
 own:iA=false->Its w base v li
 app:iA=true->∃q,q.it=it∧Its w base v' (li++[q])
 sto:iS=true->au w b3 [v'] jR
 lt:b3<base∧base<=w.heap.size
section
variable {base b3:Nat}{v v' u:Value}{li:List jl}{it:It}{iA iS:Bool}{w w':World}
theorem AJ.below(h:AJ base b3 v li it iA iS v' w)(hb:bz w w'):AJ base b3 v li it iA iS v' w':=⟨fun e=>(h.box e).stays (hb.block _ (h.box e).inside),fun e=>(h.own e).below hb,fun e=>by
 obtain⟨q,h1,h2⟩:=h.app e
 exact⟨q,h1,h2.below hb⟩,fun e=>(h.sto e).stays (hb.block _ (h.sto e).inside),h.lt.1,Nat.le_trans h.lt.2 hb.size⟩
theorem AJ.slots(h:AJ base b3 v li it iA iS v' w)(e:u=v'):AJ base b3 v li it iA iS u w:=by rw[e];exact h
theorem AJ.a4b(h:AJ base b3 v li it iA iS v' w)(hi:iS=false){q:jl}(hq:q.it=it){v9:Value}(h2:Its w' base v9 (li++[q]))(e:u=v9)(hb:w'.heap[b3]?=w.heap[b3]?)(hs:w.heap.size<=w'.heap.size):AJ base b3 v li it true iS u w':=by
 subst hi e;exact⟨fun _=>(h.box rfl).stays hb,nofun,fun _=>⟨q,hq,h2⟩,nofun,h.lt.1,Nat.le_trans h.lt.2 hs⟩
theorem AJ.a1u(h:AJ base b3 v li it iA iS u w)(hA:iA=true)(hS:iS=false){v9:Value}(e:u=v9):AJ base b3 v li it iA true u (w.setCell ⟨b3,0,none⟩ v9):=by
 subst hA hS e
 exact⟨nofun,nofun,fun _=>by
  obtain⟨q,h1,h2⟩:=h.app rfl
  exact⟨q,h1,h2.stays fun k hk _=>heap_setCell_other _ _ _ _ (by have:=h.lt.1;show k≠b3;omega)⟩,fun _=>(h.box rfl).set 0 u,h.lt.1,by have:=h.lt.2;simpa[World.setCell]using this⟩
end
def Ez(B:Nat)(c:List Cl)(w:World)(g:Nat):Prop:=az w g (c.flatMap Cl.cs)∧B<=g
theorem Ez.turn{S:bF}{B:Nat}{c:List Cl}{w w':World}{g:Nat}(hS:∀k,S k->k<B)(h:Ez B c w g)(ht:ae S S w w'):Ez B c w' g:=⟨h.1.stays (ht.far _ h.1.inside fun e=>by have:=hS _ e;have:=h.2;omega).2,h.2⟩
theorem SL{w:World}{g b m:Nat}{s:Sh}{Z:ZZ}{x:aJ}(h:ak w g b m s Z x)(hx:lV x)(hn:x.t.length<=900) :
  Calls prog 64 #[.pointer (some ⟨g,0,none⟩)] w (UD x w):=by
 have HS:=Hd h;have HX:=Hd hx;have HN:=Hd hn;have HWR:Hid (∀i,has x.t i=true->(x.ws i).right=true):=fun i hi=>mF hx.ok (fun i=>(hx.good i) |> fun h=>(lJ h).1) (ah.1 hi) _ (hx.set i hi (fun _ _ h=>h) (fun h=>h));have Ze:Hid ((aF.walk x.t 0).length=x.t.length+1):=sO hx.ok;have HXM:Hid (∀i,i∈aF.walk x.t 0↔has x.t i=true):=fun i=>jw hx.ok;unfold UD;clear h hx hn;have HB0:Hid (Below w.heap.size w ((w.alloc (.cells #[.pointer (some ⟨g,0,none⟩)] 25)).alloc (.cells #[.slice none 0 0] 164))):=(bR.alloc nR _).alloc (by simp) _
 have og:Hid (au ((w.alloc (.cells #[.pointer (some ⟨g,0,none⟩)] 25)).alloc (.cells #[.slice none 0 0] 164)) w.heap.size [.pointer (some ⟨g,0,none⟩)] 25):=(au.new w [.pointer (some ⟨g,0,none⟩)] _).al _;have dM:Hid (au ((w.alloc (.cells #[.pointer (some ⟨g,0,none⟩)] 25)).alloc (.cells #[.slice none 0 0] 164)) (w.heap.size+1) [.slice none 0 0] 164):=jJ (w.alloc _) _ (by simp) [.slice none 0 0] _;have XU:Hid (((w.alloc (.cells #[.pointer (some ⟨g,0,none⟩)] 25)).alloc (.cells #[.slice none 0 0] 164)).heap.size=w.heap.size+2):=by show _=_;simp
 refine bQ func64 rfl ?_;simp only[ntmps64,List.size_toArray,List.length_cons,List.length_nil,Nat.reduceAdd,Nat.reduceSub,Array.replicate_succ,Array.replicate_zero,List.push_toArray,List.append_toArray,List.nil_append,List.cons_append]
 go_upto_region 2 with(fail)
 generalize ((w.alloc (.cells #[.pointer (some ⟨g,0,none⟩)] 25)).alloc (.cells #[.slice none 0 0] 164))=w0 at*;have hmk:=JB w0;have hm1:VM (w0.alloc (.map #[] 0)) w0.heap.size []:=VM.made w0;have E5:=Hd hm1;have hb1:Below w0.heap.size w0 (w0.alloc (.map #[] 0)):=bR.alloc nR _;have a1i:Hid (Below w0.heap.size w0 (w0.alloc (.map #[] 0))):=hb1;have HB1:Hid (Below w.heap.size w (w0.alloc (.map #[] 0))):=HB0.o.trans (hb1.mono HB0.o.size);obtain⟨⟨q0,-,-,-,-,-⟩,qi⟩:=(HS.o.below HB1.o).top
 have cs1:(w0.alloc (.map #[] 0)).cell? ⟨w.heap.size,0,none⟩=some (.pointer (some ⟨g,0,none⟩)):=(og.o.al _).blk.cell 0;have csi:w.heap.size<(w0.alloc (.map #[] 0)).heap.size:=(og.o.al _).inside;have HTP:=Hd (xY (HS.o.below HB1.o).tree 0 (by constructor<;>decide));have hinv:=oH (.pointer (some ⟨b,0,none⟩)) (.int .i64 0);rw[par_none (D7 HX.o.ok)]at HTP;clear hm1 hb1;go_wp2_with (fail);refine HTP.o.mono ?_;rintro e w2 ⟨rfl,hb2⟩;have Ll:=Hd (E5.o.below hb2);have a1h:Hid (Below w0.heap.size w0 w2):=a1i.o.trans (hb2.mono a1i.o.size)
 clear hb2 E5 HB1 a1i hmk q0 qi cs1 csi hinv HTP
 obtain⟨m2,hm2⟩:=aC w0.heap.size
 rw[hm2]at Ll ⊢;have HMZ:Hid (w0.heap.size=m2):=hm2;clear hm2;obtain⟨w3,hrun,Tq,hg3⟩:=Ll.o.store (t:=yM) (E:=FH) uX (i:=-1) ⟨by decide,by decide⟩ (.agg (lX Dn.top none).toArray) (by decide);have sK:=Hd Tq;have kZ:Hid (Below w0.heap.size w0 w3):=a1h.o.grown hg3 a1h.o.size fun k hk=>by cases hk;exact Nat.le_of_eq HMZ.o
 clear Tq hg3 Ll a1h
 go_upto_region 3 with(first|((with_reducible refine gU ?_);refine dQ _ _ rfl rfl (by simp[go_sem]) (Qc _) ?_))
 have a1g:Hid (Below w3.heap.size w3 (w3.alloc (.cells #[.map (some m2)] 209))):=bR.alloc nR _;have nZ:Hid (au (w3.alloc (.cells #[.map (some m2)] 209)) w3.heap.size [.map (some m2)] 209):=au.new w3 [.map (some m2)] _;have gZ:Hid (VM (w3.alloc (.cells #[.map (some m2)] 209)) m2 (omap.put lt (-1) (.agg (lX Dn.top none).toArray) [])):=sK.o.below a1g.o;have jq:Hid (Below w0.heap.size w0 (w3.alloc (.cells #[.map (some m2)] 209))):=kZ.o.trans (a1g.o.mono kZ.o.size);have NS:Hid (m2<w3.heap.size):=sK.o.inside
 obtain⟨b4,hb4⟩:=aC w3.heap.size
 rw[hb4]at nZ NS ⊢;clear hb4 kZ sK a1g hrun;generalize (w3.alloc (.cells #[.map (some m2)] 209))=w4 at*;have VL:=Hd (HB0.o.trans (jq.o.mono HB0.o.size));have VC:Hid (au w4 w.heap.size [.pointer (some ⟨g,0,none⟩)] 25):=og.o.stays (jq.o.block _ og.o.inside);have Yj:Hid (au w4 (w.heap.size+1) [.slice none 0 0] 164):=dM.o.stays (jq.o.block _ dM.o.inside)
 have U7:Hid (w.heap.size+1<m2∧m2<b4):=⟨by have:=dM.o.inside;have:=HMZ.o;omega,NS.o⟩
 clear og dM HB0 jq HMZ NS XU;obtain⟨⟨q0,-,-,-,-,-⟩,qi⟩:=(HS.o.below VL.o).top;have cs1:w4.cell? ⟨w.heap.size,0,none⟩=some (.pointer (some ⟨g,0,none⟩)):=VC.o.blk.cell 0;have csi:=VC.o.inside;have HTW:=Hd (a1p (HS.o.below VL.o).tree (by have:=HN.o;omega));have hinv:=SY (.pointer (some ⟨b,0,none⟩));go_wp2_with (fail);refine HTW.o.mono ?_;rintro e w5 ⟨ib,db,v1,v2,rfl,hi1,hi2,hx1,hx2,ho1,ho2,hb5⟩;clear q0 qi cs1 csi hinv HTW;have gI:=Hd (VL.o.trans (hb5.mono VL.o.size))
 have a03:Hid (au w5 w.heap.size [.pointer (some ⟨g,0,none⟩)] 25):=VC.o.stays (hb5.block _ VC.o.inside);have a3h:Hid (au w5 (w.heap.size+1) [.slice none 0 0] 164):=Yj.o.stays (hb5.block _ Yj.o.inside);have a02:Hid (au w5 b4 [.map (some m2)] 209):=nZ.o.stays (hb5.block _ nZ.o.inside);have o8:Hid (VM w5 m2 (omap.put lt (-1) (.agg (lX Dn.top none).toArray) [])):=gZ.o.below hb5
 obtain⟨b3,hb3⟩:=aC (w.heap.size+1)
 have HB3:=Hd hb3;rw[hb3]at a3h U7 ⊢
 obtain⟨sb,hsb⟩:=aC w.heap.size
 have NR:=Hd hsb;rw[hsb]at a03 ⊢;have hz3:b3<w4.heap.size:=by have:=Yj.o.inside;omega
 have hz4:m2<w4.heap.size:=by have:=nZ.o.inside;have:=U7.o;omega
 obtain⟨B1,B2,d1,d2,a1S⟩:=WC (x:=b3) (y:=m2) hz3 hz4 hi1 hi2 hx1 hx2 ho1 ho2;have HPR:=Hd a1S
 have HXW:Hid (∀j (h:j<(aF.walk x.t 0).length),(rO x.t)[j]?.getD 0=(aF.walk x.t 0)[j]∧(vX x.t)[j]?.getD 0=(depth x.t (aF.walk x.t 0)[j]:Nat)):=fun j h=>by
  have hj2:j<(wd x.t 0 0).length:=by rw[mV];exact h
  have e:=a1n hj2 h;rw[rO,vX,List.getElem?_map,List.getElem?_map,List.getElem?_eq_getElem hj2,e];exact⟨rfl,rfl⟩
 have HEL:Hid ((qY (rO x.t) (vX x.t)).length=(aF.walk x.t 0).length):=by show _=_;rw[qC,rO,List.length_map,mV]
 have HIL:Hid ((rO x.t).length=(aF.walk x.t 0).length∧(vX x.t).length=(rO x.t).length):=by show _∧_;rw[vX,rO,List.length_map,List.length_map,mV];exact⟨rfl,rfl⟩
 have La:Hid (sb<b3∧b3<m2∧m2<b4∧b4<w5.heap.size):=⟨by omega,U7.o.1,U7.o.2,a02.o.inside⟩
 have V4:Hid (∀W,I4 b3 m2 w5 W->ak W g b m s Z x∧Below w.heap.size w W∧au W sb [.pointer (some ⟨g,0,none⟩)] 25∧au W b4 [.map (some m2)] 209):=fun W hk=>by
  have h1:=La.o;have h2:Below w.heap.size w W:=gI.o.trans (hk.aQ (by omega) (by omega) gI.o.size);exact⟨HS.o.below h2,h2,a03.o.stays (hk.same _ a03.o.inside (by omega) (by omega)),a02.o.stays (hk.same _ a02.o.inside (by omega) (by omega))⟩
 clear hi1 hi2 hx1 hx2 ho1 ho2 hb5 a1S hz3 hz4 hsb hb3 VC Yj nZ gZ U7 VL;go_wp2_with (fail)
 refine jZ (gf:=192) (lb:=#[.pointer (some ⟨ib,0,none⟩),.pointer (some ⟨db,0,none⟩)]) rfl (enters_of func192 ag rfl) (es:=qY (rO x.t) (vX x.t)) (R:=fun _=>Eq)
  (Kp:=fun A B=>KP ib db B1 B2 d1 d2 (rO x.t) (vX x.t) A->KP ib db B1 B2 d1 d2 (rO x.t) (vX x.t) B)
  (fun W1 hb=>OE (by have h1:=HIL.o.1;have h2:=Ze.o;have:=HN.o;omega) HIL.o.2 (HPR.o W1 ((I4.refl _ _ _).bk hb))) (fun h k x=>k (h x)) (fun A B hb h=>h.cells fun a v=>eG hb) (fun n A B e k o _ hk _=>e ▸ hk)
  (fun e he=>by obtain⟨j,_,rfl⟩:=List.mem_map.1 he;rfl)
  (fun k W=>LsI x w5 b3 m2 k W)
  (fun _ _ _=>False) (fun k A B h hr=>?hI) (fun _ _ _ _ h _=>h.elim) ⟨I4.refl _ _ _,.slice none 0 0,[],_,a3h.o,Its.nil _ _,rfl,o8.o,ZH _ _⟩ ?a1 ?assign ?body ?done (fun _ _ _ _ _ _ h _=>h.elim)
 case hI=>
  rcases hr with ⟨n,hn,rfl⟩|hb
  ·exact h
  ·exact h.bk hb
 case assign=>
  intro l j hj W9 KK Ef;rw[Gj]
  gi_wp2
  exact Ef
 case done=>
  rintro D W9 hD ⟨hk,v,li,es,hb3,hits,hmap,hvm,hsh⟩ hdd
  have HIS:Hid (li.map (·.it)=items x):=by
   show _=_;rw[hmap,HEL.o,List.take_length];rfl
  have HITS:=Hd hits;have VG:=Hd hdd;have HD1:Hid (w5.heap.size<=D):=hD;have QP:Hid (Below w.heap.size w W9):=(V4.o W9 hk).2.1;have c3:W9.cell? ⟨b3,0,none⟩=some v:=hb3.blk.cell 0;have i3:=hb3.inside
  have V6:Hid (∀q∈li,q.it.Ok):=fun q hq=>by
   have h1:q.it∈items x:=by rw[←HIS.o];exact List.mem_map_of_mem hq
   obtain⟨i,hi,he⟩:=List.mem_filterMap.1 h1;exact MQ HX.o.good HX.o.fit HX.o.ok HWR.o HN.o (ah.1 ((HXM.o i).1 hi)) he
  obtain⟨A,n9,c,rfl⟩:=hits.own.shape;clear hk hb3 hits hmap hvm hsh hdd hD;go_wp2_with (fail)
  refine dG w5.heap.size ⟨⟨D,rfl,HD1.o,VG.o,by simp⟩,trivial⟩ fun w' hb=>⟨_,results_tmp rfl _ _ _,?_⟩
  have h5:=gI.o.size;have hI:=HITS.o.bk hb;obtain⟨A',c',e',-,-,hrow⟩:=hI.own.row jl.bZ
  injection e' with e1 e2 e3
  subst e1 e2 e3;refine⟨_,_,li,rfl,hrow,fun q hq=>⟨(hI.at_ q hq).1,V6.o q hq,fun a ea hne=>Nat.le_trans h5 ((hI.at_ q hq).2.c a ea hne).1,fun a ea hne=>Nat.le_trans h5 ((hI.at_ q hq).2.p a ea hne).1⟩,HIS.o,fun a ea hne=>?_,QP.o.trans (hb.below h5 QP.o.size)⟩;obtain⟨g0,c0,e0,-⟩:=hI.own.row0 jl.bZ (List.length_pos_iff.2 hne);have h0:=(hI.own.block (g:=g0) (by rw[e0];rfl)).1;rw[ea]at e0
  injection e0 with e0 _ _
  injection e0 with e0
  rw[e0];exact Nat.le_trans h5 h0
 case body=>
  rintro l j hj W9 ⟨hk,v,li,es,hb3,hits,hmap,hvm,hsh⟩;have hjX:j<(aF.walk x.t 0).length:=by rw[HEL.o]at hj;exact hj
  obtain⟨h1,h2⟩:=HXW.o j hjX;have IP:Hid (has x.t (aF.walk x.t 0)[j]=true):=(HXM.o _).1 (List.getElem_mem hjX);obtain⟨d,p,okb,hlk,hsm,hyes,hno⟩:=hsh.look HX.o.ok hjX;obtain⟨hnw,hn1,htk⟩:=Q4 HX.o.ok hjX;have HJB:Hid (j<=900):=by have:=Ze.o;have:=HN.o;show _<=_;omega
  have IQ:=Hd (zO (fA x) hjX);have xM:=Hd (And.intro hnw (And.intro hn1 htk));have HLEN:Hid (((aF.walk x.t 0).take j).length=j):=by show _=_;rw[List.length_take];omega
  rw[h1,h2];generalize (aF.walk x.t 0)[j]=id at*;generalize hT1:(aF.walk x.t 0).take (j+1)=T1 at*;have HT1:=Hd hT1;clear hT1;generalize (aF.walk x.t 0).take j=T0 at*;generalize hdx:depth x.t id=dx at*;have Ls:Hid (I64 id):=mX HX.o.ok IP.o
  have HPI:Hid (I64 (par x.t id)):=by
   by_cases h0:id=0
   ·rw[h0,par_none (D7 HX.o.ok)];constructor<;>decide
   ·rcases HX.o.ok.pin _ (jX ((ah.1 IP.o).resolve_left h0)) with e|e
    ·simp only at e;rw[e];constructor<;>decide
    ·exact mX HX.o.ok (ah.2 (.inr e))
  have a3o:=Hd (fun d h=>a1o HX.o.good HX.o.ok HWR.o HN.o (ah.1 IP.o) (d:=d) h);have Zh:Hid (dB x id=Dn.step (x.nd id) (x.ws id) (Fj x id)):=PK HX.o.ok (ah.1 IP.o);have ED:=Hd hyes;have uQ:=Hd hno;have HK:=Hd hk;have LG:=Hd hb3;have HITS:=Hd hits;have EH:=Hd hmap;have XM:=Hd hvm;have HSH:=Hd hsh;have HVN:Hid (∀k,v.ownBlock=some k->k<W9.heap.size):=fun k e=>(hits.own.block e).2;have HVB:Hid (∀k,v.ownBlock=some k->w5.heap.size<=k):=fun k e=>(hits.own.block e).1
  have HST:Hid (∀W,ae (UA b3 m2 v) (UA b3 m2 v) W9 W->ak W g b m s Z x∧Below w.heap.size w W∧au W sb [.pointer (some ⟨g,0,none⟩)] 25∧au W b4 [.map (some m2)] 209∧I4 b3 m2 w5 W):=fun W ht=>by
   have h:=HK.o.turn ht HVB.o;obtain⟨a1,a2,a3,a4⟩:=V4.o W h;exact⟨a1,a2,a3,a4,h⟩
  have wI:Hid (∀W,Below W9.heap.size W9 W->ak W g b m s Z x∧az W sb [.pointer (some ⟨g,0,none⟩)]∧az W b4 [.map (some m2)]∧VM W m2 es):=fun W hb=>by
   obtain⟨a1,a2,a3,a4,-⟩:=HST.o W (ae.below hb);exact⟨a1,a3.blk,a4.blk,XM.o.below hb⟩
  -- what a round leaves,if nothing of what is told changes
  have iM:Hid (∀W v' li' es',ae (UA b3 m2 v) (UA b3 m2 v) W9 W->au W b3 [v'] jR->Its W w5.heap.size v' li'->li'.map (·.it)=T1.filterMap (fA x)->VM W m2 es'->Shown x W es' T1 ->
    KB W9 W∧(KP ib db B1 B2 d1 d2 (rO x.t) (vX x.t) W9->KP ib db B1 B2 d1 d2 (rO x.t) (vX x.t) W)∧LsI x w5 b3 m2 (j+1) W):=fun W v' li' es' ht a1 a2 a3 a4 a5=>by
   obtain⟨-,-,-,-,hky⟩:=HST.o W ht;refine⟨fun k o hk9 ho=>(ht.far k (Array.getElem?_eq_some_iff.1 hk9).1 fun e=>?_).2.trans hk9,fun _=>HPR.o W hky,hky,v',li',es',a1,a2,by rw[HT1.o];exact a3,a4,by rw[HT1.o];exact a5⟩;rcases e with e|e|e
   ·rw[e,LG.o]at hk9;cases hk9;cases ho
   ·obtain⟨es0,clock,h0,_⟩:=XM.o.own;rw[e,h0]at hk9;cases hk9;cases ho
   ·obtain⟨cu,h0⟩:=HITS.o.own.typed e;rw[h0]at hk9;cases hk9;cases ho
  have Iw:Hid (∀W,Below W9.heap.size W9 W->dB x id=none->KB W9 W∧(KP ib db B1 B2 d1 d2 (rO x.t) (vX x.t) W9->KP ib db B1 B2 d1 d2 (rO x.t) (vX x.t) W)∧LsI x w5 b3 m2 (j+1) W):=fun W hb hd=>by
   refine iM.o W v li es (ae.below hb) (LG.o.stays (hb.block _ LG.o.inside)) (HITS.o.below hb) ?_ (XM.o.below hb) ?_
   ·rw[IQ.o,EH.o,show fA x id=none from by unfold fA;rw[hd];rfl];simp
   ·rw[xM.o.2.2];exact(HSH.o.keep fun k cu fr hk=>hb.block _ (Array.getElem?_eq_some_iff.1 hk).1).skip xM.o.1 xM.o.2.1 hd
  have FV:Hid (∀W,Below W9.heap.size W9 W->(Instr.lookup yM (.map (some m2)) (.int .i64 (par x.t id)) true).run prog W=.ok (.tuple #[.agg (lX d p).toArray,.bool okb]) W):=fun W hb=>by
   have h:=(wI.o W hb).2.2.2.look_ok uX (NY W) HPI.o;rw[hlk,hsm]at h;exact h
  have FP:Hid (∀W,Below W9.heap.size W9 W->Calls prog 189 #[.pointer (some ⟨b,0,none⟩),.int .i64 id] W (aZ (.int .i64 (par x.t id)) W)):=fun W hb=>xY (wI.o W hb).1.tree id Ls.o;have FS:Hid (∀W,Below W9.heap.size W9 W->az W sb [.pointer (some ⟨g,0,none⟩)]):=fun W hb=>(wI.o W hb).2.1;have F4:Hid (∀W,Below W9.heap.size W9 W->az W b4 [.map (some m2)]):=fun W hb=>(wI.o W hb).2.2.1;have FG:Hid (∀W,Below W9.heap.size W9 W->az W g (sccs b m Z)):=fun W hb=>(wI.o W hb).1.blk.blk;generalize par x.t id=pp at*
  clear hk hb3 hits hmap hvm hsh hlk hsm hyes hno hnw hn1 htk h1 h2 hj hjX hdx HXW;refine wpIn_block (wpIn_seq ?_)
  refine CG.dL (Below W9.heap.size) (fun L V wx=>JN W9.heap.size [] ([.int .i64 0,.int .i64 0,.int .i64 0,.int .i64 0,.int .i64 0,.int .i64 0,.int .i64 0,.pointer none]) (lX d p) (L 11) (L 12) (V 6) wx) [29,30,31,32,33,34,35,36,28,37,38,6,7] ag ag ag (fun _=>bR) (fun _ _ _ h k=>h.trans k) (fun i=>(match i with
   |0=>rV (.map (some m2))
   |1|2|3=>rp g 0
   |4=>rV (.iface 88 (.pointer (some ⟨b,0,none⟩)))
   |5=>rV (.int .i64 id)
   |6=>rV (.int .i64 pp)
   |7|8=>rV (.tuple #[.agg (lX d p).toArray,.bool okb])
   |9=>rV (.agg (lX d p).toArray)
   |10|13=>rV (.bool okb)
   |_=>ra:regs.kW (Below W9.heap.size)).p) (fun _=>regs.kW.mono _) ag (bR.drew) (JN.start (old:=[]) trivial) ⟨?_,?_,?_,?_,?_,?_,?_,?_,?_,?_,?_,?_,?_,?_,trivial⟩ ?_
  ·refine fK fun L a w1 hh=>?_;have h4:=hh.p 4 b4 0;have ⟨c0,i0⟩:=(F4.o _ hh.rel).ci 0 rfl;have hJ:=hh.j;clear hh;go_simp;exact⟨_,rfl,bR,rfl,JN.slots hJ.o sn⟩
  ·refine fK fun L a w1 hh=>?_;have h1:=hh.p 1 sb 0;have ⟨c0,i0⟩:=(FS.o _ hh.rel).ci 0 rfl;have hJ:=hh.j;clear hh;go_simp;exact⟨_,rfl,bR,rfl,JN.slots hJ.o sn⟩
  ·refine fK fun L a w1 hh=>?_;have h30:=rq (hh.d 1 30);have hJ:=hh.j;clear hh;go_simp;exact⟨_,rfl,bR,rfl,JN.slots hJ.o sn⟩
  ·refine fK fun L a w1 hh=>?_;have h31:=rq (hh.d 2 31);have i0:=(FG.o _ hh.rel).inside;have hJ:=hh.j;clear hh;go_simp;exact⟨_,rfl,bR,rfl,JN.slots hJ.o sn⟩
  ·refine fK fun L a w1 hh=>?_;have h32:=rq (hh.d 3 32);have ⟨c0,i0⟩:=(FG.o _ hh.rel).ci 0 rfl;have hJ:=hh.j;clear hh;go_simp;exact⟨_,rfl,bR,rfl,JN.slots hJ.o sn⟩
  ·refine fK fun L a w1 hh=>?_;have h5:=hh.o 5 (v:=.int .i64 id) rfl;have hJ:=hh.j;clear hh;go_simp;exact⟨_,rfl,bR,rfl,JN.slots hJ.o sn⟩
  ·refine fK fun L a w1 hh=>?_;have VV:=rq (hh.d 4 33);have Xm:=rq (hh.d 5 34);have hinv:=oH (.pointer (some ⟨b,0,none⟩)) (.int .i64 id);have hC:=Hd (FP.o _ hh.rel);have hJ:=hh.j;clear hh;go_simp;refine hC.o.mono ?_;rintro e w9 ⟨rfl,bD⟩;exact⟨_,rfl,bD.mono hJ.o.1.2.1,rfl,JN.slots (JN.below hJ.o bD) sn⟩
  ·refine fK fun L a w1 hh=>?_;have CW:=rq (hh.d 0 29);have h35:=rq (hh.d 6 35);have hlk:=FV.o _ hh.rel;have hJ:=hh.j;clear hh;go_simp;exact⟨_,rfl,bR,rfl,JN.slots hJ.o sn⟩
  ·refine fK fun L a w1 hh=>?_;have Xl:=rq (hh.d 7 36);have hJ:=hh.j;clear hh;go_simp;exact⟨_,rfl,bR,rfl,JN.slots hJ.o sn⟩
  ·refine fK fun L a w1 hh=>?_;have h28:=rq (hh.d 8 28);have hJ:=hh.j;clear hh;go_simp;exact⟨_,rfl,bR,rfl,JN.slots hJ.o sn⟩
  ·refine fK fun L a w1 hh=>?_;have h28:=rq (hh.d 8 28);have hJ:=hh.j;clear hh;go_simp;exact⟨_,rfl,bR,rfl,JN.slots hJ.o sn⟩
  ·refine fK fun L a w1 hh=>?_;have hJ:=Hd hh.st;have hsz:=Hd hh.size;have hun:=Hd hh.un;clear hh;go_simp;exact⟨_,rfl,bR.alloc hJ.o.1.2.1 _,trivial,JN.new hJ.o hun.o (bM.bI (by rw[hsz.o];simp))⟩
  ·refine fK fun L a w1 hh=>?_;have h37:=rq (hh.d 9 37);have hup:=hh.up 11 ag;obtain⟨g9,vO,mZ,gK⟩:=hh.st.2.1 hup;have h6:a.tmps[6]?.getD undef=.pointer (some ⟨g9,0,none⟩):=rq (vO);rw[hh.un]at gK;have hJ:=Hd hh.st;have hun:=Hd hh.un;refine dn 208 _ _ rfl g9 0 (by simpa[go_sem]using h6) (lX d p) (by simpa[go_sem]using h37) _ gK (nE rfl) ag (by rfl) ?_;intro w9 ng BD;have hP:=hJ.o.Og hup hun.o vO ng BD rfl;exact⟨undef,rfl,hP.2,trivial,hP.1⟩
  ·refine fK fun L a w1 hh=>?_;have h38:=rq (hh.d 10 38);have hJ:=hh.j;clear hh;go_simp;exact⟨_,rfl,bR,rfl,JN.slots hJ.o sn⟩
  intro L w6 val hL hJ hR hv;have h7:val 7=.bool okb:=hv 13 7 ag;have Qs:=Hd hR;obtain⟨g6,e6,BC,Y0⟩:=hJ.2.1 (hL 11 (by decide));rw[hL 12 (by decide)]at Y0;have sD:=Hd (And.intro BC Y0);clear hv hL hJ hR BC Y0;simp only[regs.aG,List.map_cons,List.map_nil,h7];simp only[Act.put,List.setIfInBounds_toArray,List.set_cons_zero,List.set_cons_succ];clear h7
  skip
  rw[e6];clear e6;have LD:Hid (Below W9.heap.size W9 w6):=Qs.o;clear Qs FV FP FS F4 FG;simp only[Exit.then];cases okb with
  |false=>
   have HD:Hid (dB x id=none):=by
    show _=_;rw[Zh.o,uQ.o rfl];rfl
   have HF:=Hd (Iw.o w6 LD.o HD.o);clear Iw iM
   gi_wp2_with (fail)
   exact HF.o
  |true=>
   obtain⟨Z9,hcl⟩:=ED.o rfl;rw[Z9]at Zh;have HDO:=Hd (a3o.o d Z9);have Wl:=Hd hcl;have EY:=Hd (Si (wI.o w6 LD.o).1 HX.o.fit id Ls.o);have hnd:gX x id=x.nd id:=if_pos IP.o;have hws:fZ x id=x.ws id:=if_pos IP.o;have HWC:=Hd (fun W (hb:Below W9.heap.size W9 W)=>BO (wI.o W hb).1 id Ls.o);have Yk:Hid (has x.t id=true):=IP.o;rw[hnd,Yk.o]at EY;rw[hws,Yk.o]at HWC;have HCK:Hid ((x.nd id).chk=0):=HX.o.good id
   have HIT:Hid (∀q,fA x id=some q->q.Ok):=fun q hq=>MQ HX.o.good HX.o.fit HX.o.ok HWR.o HN.o (ah.1 IP.o) hq;have HIE:Hid (fA x id=(dB x id).bind fun d=>if (x.nd id).lk.k=0 then none else some ⟨id,x.ws id,d.b,d.c.reverse,d.o,(x.nd id).lk⟩):=rfl;generalize x.nd id=n at*;generalize x.ws id=u at*;have c1:=(wI.o w6 LD.o).2.1.c 0 rfl;have i1:=(wI.o w6 LD.o).2.1.inside;clear Z9 hcl hnd hws ED uQ a3o Yk
   gi_wp2_with (fail)
   refine⟨trivial,rfl,CallsIn.inRound l ((callsIn_wide (n:=0)).2 (EY.o.mono ?_))⟩;rintro e w7 ⟨An,cn,rfl,hbN,hoff,hnw⟩;have Yz:Hid (Below W9.heap.size W9 w7):=LD.o.trans (hbN.mono LD.o.size);have VN:=Hd (sD.o.2.below' hbN);have XY:Hid (Row eW w7 An n.lk.l):=hoff.row;have XW:Hid (∀a,An=some a->n.lk.l≠[]->W9.heap.size<=a.block):=fun a ea hne=>Nat.le_trans LD.o.size (hnw a ea hne).1;clear hbN hoff hnw c1 i1 EY;have QO:Hid (az (w7.alloc (.cells Va.toArray 77)) w7.heap.size Va):=aA w7 Va _
   have iO:Hid (Below w7.heap.size w7 (w7.alloc (.cells Va.toArray 77))):=bR.alloc nR _
   gi_upto_region 8 with(first|((with_reducible show wpListIn _ _ _ _ _ (Oper.mk _ (Op.store _ _ _) _ _ _ _::_) _ _);first|(refine pg 77 _ _ rfl rfl rfl _ 0 rfl (n.cs An cn) rfl (Va) QO.o (n.cs An cn) rfl (nE rfl) ag (Nd.one _ _ _) ?_;intro w8 HW8 VB)))
   have xE:Hid (Below w7.heap.size w7 w8):=HW8.o.below iO.o nR
   obtain⟨k8,hk8⟩:=aC w7.heap.size
   have Qz:Hid (Below W9.heap.size W9 w8):=Yz.o.trans (xE.o.mono Yz.o.size);have a3A:=Hd (VN.o.below' xE.o);have EW:=Hd (Row.below XY.o xE.o);have HG8:Hid (W9.heap.size<=k8):=by rw[←hk8];exact Yz.o.size
   rw[hk8]at VB ⊢;clear QO iO HW8 xE Yz VN XY hk8;have c1:=(wI.o w8 Qz.o).2.1.c 0 rfl;have i1:=(wI.o w8 Qz.o).2.1.inside;have Zf:=Hd (HWC.o w8 Qz.o)
   gi_wp2_with (fail)
   refine⟨trivial,rfl,CallsIn.inRound l ((callsIn_wide (n:=0)).2 (Zf.o.mono ?_))⟩;rintro e wA ⟨rfl,Na⟩;have Yy:Hid (Below W9.heap.size W9 wA):=Qz.o.trans (Na.mono Qz.o.size);have a3z:=Hd (a3A.o.below' Na);have a3f:=Hd (VB.o.below' Na);have QR:=Hd (Row.below EW.o Na);clear Na c1 i1 HWC Zf Qz a3A VB EW;have QO:Hid (az (wA.alloc (.cells Vd.toArray 67)) wA.heap.size Vd):=aA wA Vd _;have iO:Hid (Below wA.heap.size wA (wA.alloc (.cells Vd.toArray 67))):=bR.alloc nR _
   gi_upto_region 9 with(first|((with_reducible show wpListIn _ _ _ _ _ (Oper.mk _ (Op.store _ _ _) _ _ _ _::_) _ _);first|(refine pg 67 _ _ rfl rfl rfl _ 0 rfl (u.cs) rfl (Vd) QO.o (u.cs) rfl (nE rfl) ag (Mp.one1 _) ?_;intro wB HWB HKB)))
   have xE:Hid (Below wA.heap.size wA wB):=HWB.o.below iO.o nR
   obtain⟨kA,hkA⟩:=aC wA.heap.size
   have Yx:Hid (Below W9.heap.size W9 wB):=Yy.o.trans (xE.o.mono Yy.o.size);have a1f:=Hd (a3z.o.below' xE.o);have Yh:=Hd (a3f.o.below' xE.o);have XX:=Hd (Row.below QR.o xE.o);have HGA:Hid (W9.heap.size<=kA):=by rw[←hkA];exact Yy.o.size
   rw[hkA]at HKB ⊢;clear QO iO HWB xE Yy a3z a3f QR hkA;have i6:=a1f.o.inside;have i8:=Yh.o.inside;have iA:=HKB.o.inside;have Zi:=Hd (ZG d p n An cn u wB HDO.o.1 HCK.o (Wl.o.below Yx.o) HDO.o.2)
   gi_wp2_with (first|((with_reducible show wpListIn _ _ _ _ _ (Oper.mk _ (Op.load _ _) _ _ _ _::_) _ _);first|(refine mD 208 _ rfl rfl _ 0 rfl (lX d p) a1f.o (lX d p) rfl _ underlying208 rfl ag ?_)|(refine mD 77 _ rfl rfl _ 0 rfl (n.cs An cn) Yh.o (n.cs An cn) rfl _ underlying77 rfl ag ?_)|(refine mD 67 _ rfl rfl _ 0 rfl (u.cs) HKB.o (u.cs) rfl _ underlying67 rfl ag ?_)))
   refine⟨trivial,rfl,CallsIn.inRound l ((callsIn_wide (n:=0)).2 (Zi.o.mono ?_))⟩;rintro e wC ⟨p2,rfl,a18,hbC⟩;have Yw:Hid (Below W9.heap.size W9 wC):=Yx.o.trans (hbC.mono Yx.o.size);have a3e:=Hd (Yh.o.below' hbC);have a3d:=Hd (HKB.o.below' hbC);have Qq:=Hd (Row.below XX.o hbC);have a06:=Hd a18;clear hbC a18 Zi i6 i8 iA Yx a1f Yh HKB XX Wl;have KZ:Hid (dB x id=if d.ok n u=true then some (d.to n u) else none):=Zh.o
   obtain⟨d2,hd2⟩:=aC (d.to n u)
   obtain⟨ok2,hok2⟩:=aC (d.ok n u)
   rw[hd2]at a06 KZ ⊢;rw[hok2]at KZ ⊢;clear hd2 hok2 Zh;have QO:Hid (az (wC.alloc (.cells #[.int .i64 0,.int .i64 0,.int .i64 0,.int .i64 0,.int .i64 0,.int .i64 0,.int .i64 0,.pointer none] 208)) wC.heap.size [.int .i64 0,.int .i64 0,.int .i64 0,.int .i64 0,.int .i64 0,.int .i64 0,.int .i64 0,.pointer none]):=aA wC [.int .i64 0,.int .i64 0,.int .i64 0,.int .i64 0,.int .i64 0,.int .i64 0,.int .i64 0,.pointer none] _
   have iO:Hid (Below wC.heap.size wC (wC.alloc (.cells #[.int .i64 0,.int .i64 0,.int .i64 0,.int .i64 0,.int .i64 0,.int .i64 0,.int .i64 0,.pointer none] 208))):=bR.alloc nR _
   gi_upto_region 10 with(first|((with_reducible show wpListIn _ _ _ _ _ (Oper.mk _ (Op.store _ _ _) _ _ _ _::_) _ _);first|(refine pg 208 _ _ rfl rfl rfl _ 0 rfl (lX d2 p2) rfl ([.int .i64 0,.int .i64 0,.int .i64 0,.int .i64 0,.int .i64 0,.int .i64 0,.int .i64 0,.pointer none]) QO.o (lX d2 p2) rfl (nE rfl) ag (Xv _ _) ?_;intro wD Zf lD)))
   have xE:Hid (Below wC.heap.size wC wD):=Zf.o.below iO.o nR
   obtain⟨kC,hkC⟩:=aC wC.heap.size
   have EM:Hid (Below W9.heap.size W9 wD):=Yw.o.trans (xE.o.mono Yw.o.size);have a00:=Hd (a3e.o.below' xE.o);have a0Z:=Hd (a3d.o.below' xE.o);have oZ:=Hd (Row.below Qq.o xE.o);have a3s:=Hd (a06.o.below xE.o);have HGC:Hid (W9.heap.size<=kC):=by rw[←hkC];exact Yw.o.size
   rw[hkC]at lD ⊢;clear QO iO Zf xE Yw a3e a3d Qq a06 hkC;cases ok2 with
   |false=>
    have HF:=Hd (Iw.o wD EM.o (KZ.o.trans (if_neg (by decide))));clear Iw iM
    gi_wp2_with (fail)
    exact HF.o
   |true=>
    have VG:Hid (dB x id=some d2):=KZ.o.trans (if_pos rfl);have HVD:Hid (VM wD m2 es):=XM.o.below EM.o;obtain⟨wE,hrun,hmE,hgE⟩:=HVD.o.store (t:=yM) (E:=FH) uX Ls.o (.agg (lX d2 p2).toArray) (by have h1:=iF id (.agg (lX d2 p2).toArray) es;have h2:=HSH.o.few;have h3:=HLEN.o;have h4:=HJB.o;omega);have Yc:=Hd hmE;have Yl:=Hd hgE;have EZ:Hid (m2<W9.heap.size):=XM.o.inside;have c4:=(wI.o wD EM.o).2.2.1.c 0 rfl;have i4:=(wI.o wD EM.o).2.2.1.inside;have iC:=lD.o.inside;clear hmE hgE KZ Iw
    gi_upto_region 12 with(first|((with_reducible show wpListIn _ _ _ _ _ (Oper.mk _ (Op.load _ _) _ _ _ _::_) _ _);first|(refine mD 208 _ rfl rfl _ 0 rfl (lX d2 p2) lD.o (lX d2 p2) rfl _ underlying208 rfl ag ?_)))
    have HTE:Hid (ae (UA b3 m2 v) (UA b3 m2 v) W9 wE):=(ae.below EM.o).trans (ae.grown Yl.o fun k e=>.inr (.inl (Option.some.inj e).symm));have Yf:Hid (az wE k8 (n.cs An cn)):=a00.o.stays (Yl.o.block _ a00.o.inside fun e=>by have:=Option.some.inj e;have:=HG8.o;have:=EZ.o;omega);have a3c:Hid (az wE kA u.cs):=a0Z.o.stays (Yl.o.block _ a0Z.o.inside fun e=>by have:=Option.some.inj e;have:=HGA.o;have:=EZ.o;omega)
    have a3b:Hid (az wE kC (lX d2 p2)):=lD.o.stays (Yl.o.block _ lD.o.inside fun e=>by have:=Option.some.inj e;have:=HGC.o;have:=EZ.o;omega);have Qq:Hid (Row eW wE An n.lk.l):=Row.stays oZ.o fun a ea hne=>Yl.o.block _ (Row.lt oZ.o ea hne) fun e=>by have:=Option.some.inj e;have:=XW.o a ea hne;have:=EZ.o;omega
    have hnm:∀(k:Nat) (cu:Array Value) (T:TypeId) (fr:Nat×Nat),wD.heap[k]?=some (Obj.cells cu T fr)->wE.heap[k]?=wD.heap[k]?:=fun k cu T fr h=>Yl.o.block _ (Array.getElem?_eq_some_iff.1 h).1 fun e=>by
     obtain⟨es0,clock,h0,_⟩:=HVD.o.own;have:=Option.some.inj e;subst this;rw[h0]at h;cases h
    have a3r:Hid (xR wE p2 d2.c):=a3s.o.keep fun k cu fr h=>hnm k cu _ fr h
    have a2E:Hid (Shown x wE (omap.put lt id (.agg (lX d2 p2).toArray) es) T1):=by
     show Shown _ _ _ _;rw[xM.o.2.2];refine(HSH.o.keep fun k cu fr h=>?_).put xM.o.1 xM.o.2.1 VG.o a3r.o;have h1:wD.heap[k]?=W9.heap[k]?:=EM.o.block k (Array.getElem?_eq_some_iff.1 h).1;exact(hnm k cu _ fr (h1.trans h)).trans h1
    have VD:Hid (Its wE w5.heap.size v li):=(HITS.o.below EM.o).stays fun k hk1 hk2=>Yl.o.block k hk2 fun e=>by have:=Option.some.inj e;have:=La.o;omega
    have YB:Hid (au wE b3 [v] jR):=(LG.o.stays (EM.o.block _ LG.o.inside)).stays (Yl.o.block _ (Nat.lt_of_lt_of_le LG.o.inside EM.o.size) fun e=>by have:=Option.some.inj e;have:=La.o;omega);have c13:=Yf.o.c 13 rfl;have i8:=Yf.o.inside;rw[VG.o,Option.bind_some]at HIE;clear hnm c4 i4 iC hrun Yl HVD oZ a3s a00 a0Z lD HSH HITS LG;by_cases hk0:n.lk.k=0
    ·rw[hk0]at c13;rw[if_pos hk0]at HIE;have HF:=Hd (iM.o wE v li _ HTE.o YB.o VD.o (by rw[IQ.o,EH.o,HIE.o];simp) Yc.o a2E.o);clear hk0 iM
     gi_wp2_with (fail)
     exact HF.o
    ·have q0:(n.lk.k != 0)=true:=by simpa using hk0
     rw[if_neg hk0]at HIE
     obtain⟨it,hit⟩:∃it:It,(⟨id,u,d2.b,d2.c.reverse,d2.o,n.lk⟩:It)=it:=⟨_,rfl⟩
     obtain⟨rc,hrc⟩:=aC d2.c.reverse
     have QR:=Hd hrc;rw[hit]at HIE;rw[hrc]at hit;have a3j:=Hd hit
     have hS:∀k,Aw b3 v k->k<W9.heap.size:=fun k e=>by
      have h1:=La.o;have h2:=EZ.o;rcases e with e|e
      ·omega
      ·exact HVN.o k e
     have NQ:=Hd hS
     obtain⟨B9,gK⟩:=aC W9.heap.size
     rw[gK]at NQ HG8 HGA HGC XW;have YA:Hid (w5.heap.size<=B9):=by rw[←gK];exact HK.o.size
     have FM:Hid (∀W,ae (Aw b3 v) (Aw b3 v) wE W->az W k8 (n.cs An cn)∧az W kA u.cs∧az W kC (lX d2 p2)∧Row eW W An n.lk.l∧xR W p2 d2.c):=fun W ht=>by
      have hf:∀k,B9<=k->k<wE.heap.size->W.heap[k]?=wE.heap[k]?:=fun k h1 h2=>(ht.far k h2 fun e=>by have:=NQ.o k e;omega).2;refine⟨Yf.o.stays (hf _ HG8.o Yf.o.inside),a3c.o.stays (hf _ HGA.o a3c.o.inside),a3b.o.stays (hf _ HGC.o a3b.o.inside),Row.stays Qq.o (fun a ea hne=>hf _ (XW.o a ea hne) (Row.lt Qq.o ea hne)),a3r.o.keep fun k cu fr h=>(ht.far k (Array.getElem?_eq_some_iff.1 h).1 fun e=>?_).2⟩;rcases e with e|e
      ·rw[e,YB.o]at h
       injection h with h
       injection h with _ h _
       exact absurd h (by decide)
      ·obtain⟨cu0,h0⟩:=VD.o.own.typed e;rw[h0]at h
       injection h with h
       injection h with _ h _
       exact absurd h (by decide)
     have ql:Hid (d2.c.length<=2000):=by
      have h:=(HIT.o it HIE.o).few;rw[←a3j.o,←QR.o]at h;show _<=_
      simpa using h
     have FL:Hid (∀W,ae (Aw b3 v) (Aw b3 v) wE W->Calls prog 88 #[pv p2] W fun e w'=>∃g9,e=.returned (.slice (some ⟨g9,0,none⟩) rc.length d2.c.length)∧W.heap.size<=g9∧az w' g9 (rc.flatMap Cl.cs)∧bz W w'):=fun W ht=>by
      rw[←QR.o,List.length_reverse];exact PT d2.c p2 W (FM.o W ht).2.2.2.2 ql.o
     have HBE:Hid (B9<=wE.heap.size):=by rw[←gK];exact HTE.o.size
     have AY:Hid (∀v',AJ w5.heap.size b3 v li it false false v' wE.drew):=fun v'=>⟨fun _=>YB.o.stays rfl,fun _=>VD.o.below bR.drew,nofun,nofun,by have:=La.o;omega,by have:=YA.o;have:=HBE.o;show _<=wE.heap.size;omega⟩
     have HLI:Hid (li.length<=2000):=by
      have h1:=congrArg List.length EH.o;rw[List.length_map]at h1;have h2:=List.length_filterMap_le (fA x) T0;have h3:=HLEN.o;have h4:=HJB.o;show _<=_;omega
     have F8:Hid (∀W,ae (Aw b3 v) (Aw b3 v) wE W->az W k8 (n.cs An cn)):=fun W ht=>(FM.o W ht).1;have FA:Hid (∀W,ae (Aw b3 v) (Aw b3 v) wE W->az W kA u.cs):=fun W ht=>(FM.o W ht).2.1;have FC:Hid (∀W,ae (Aw b3 v) (Aw b3 v) wE W->az W kC (lX d2 p2)):=fun W ht=>(FM.o W ht).2.2.1;have FE:Hid (∀W,ae (Aw b3 v) (Aw b3 v) wE W->B9<=W.heap.size):=fun W ht=>Nat.le_trans HBE.o ht.size;clear gK
     gi_upto_region 13 with(fail)
     clear c13 i8 q0
     refine CG.dL (ae (Aw b3 v) (Aw b3 v)) (fun L V wx=>AJ w5.heap.size b3 v li it (L 14) (L 15) (V 83) wx∧(L 15=true->L 0=true)∧(L 15=true->L 14=true)) [69,70,71,72,73,74,75,76,77,78,79,80,81,82,83] ag ag ag (fun _=>ae.refl _ _) (fun _ _ _ h k=>h.trans k) (fun i=>(match i with
      |0=>rV (v)
      |1=>rV (.int .i64 id)
      |2=>rV (.agg (u.cs).toArray)
      |3=>rp kC 0
      |4=>rV (.agg (d2.b.cs).toArray)
      |5=>rp kC 7
      |6=>rV (pv p2)
      |7=>(⟨fun v9 wv=>∃g9,v9=.slice (some ⟨g9,0,none⟩) rc.length d2.c.length∧Ez B9 rc wv g9,fun v9 wa wb h hb=>by
   obtain⟨g9,e,hc⟩:=h
   exact⟨g9,e,hc.turn NQ.o hb⟩⟩:regs.kW (ae (Aw b3 v) (Aw b3 v)))
      |8=>rp kC 6
      |9=>rV (.int .i64 (d2.o:Nat))
      |10=>rp k8 13
      |11=>rV (.agg (n.lk.cs An cn).toArray)
      |12=>(⟨fun v9 wv=>∃g9,v9=.agg (jl.cs (⟨⟨id,u,d2.b,rc,d2.o,n.lk⟩,some ⟨g9,0,none⟩,d2.c.length,An,cn⟩:jl)).toArray∧Ez B9 rc wv g9,fun v9 wa wb h hb=>by
   obtain⟨g9,e,hc⟩:=h
   exact⟨g9,e,hc.turn NQ.o hb⟩⟩:regs.kW (ae (Aw b3 v) (Aw b3 v)))
      |13=>(⟨fun v9 wv=>∃g9 gs,v9=.slice (some ⟨gs,0,none⟩) 1 1∧Ez B9 rc wv g9∧az wv gs (jl.cs (⟨⟨id,u,d2.b,rc,d2.o,n.lk⟩,some ⟨g9,0,none⟩,d2.c.length,An,cn⟩:jl))∧B9<=gs,fun v9 wa wb h hb=>by
   obtain⟨g9,gs,e,hc,hb8,JQ⟩:=h
   exact⟨g9,gs,e,hc.turn NQ.o hb,hb8.stays (hb.far _ hb8.inside fun e=>by have:=NQ.o _ e;omega).2,JQ⟩⟩:regs.kW (ae (Aw b3 v) (Aw b3 v)))
      |_=>ra:regs.kW (ae (Aw b3 v) (Aw b3 v))).p) (fun _=>regs.kW.mono _) ag (ae.below bR.drew) (⟨AY.o _,nofun,nofun⟩) ⟨?_,?_,?_,?_,?_,?_,?_,?_,?_,?_,?_,?_,?_,?_,?_,?_,trivial⟩ ?_
     ·refine fK fun L a w1 hh=>?_;have h3:=hh.p 3 b3 0;have hbx:=hh.st.1.box (cO hh.st.2.1 hh.un);have c0:w1.cell? ⟨b3,0,none⟩=some v:=hbx.blk.cell 0;have i0:=hbx.inside;clear hbx;have hJ:=Hd hh.st;have hsz:=Hd hh.size;clear hh;go_simp;exact⟨_,rfl,ae.refl _ _,rfl,AJ.slots hJ.o.1 sn,(fun _=>rfl),hJ.o.2.2⟩
     ·refine fK fun L a w1 hh=>?_;have h5:=hh.o 5 (v:=.int .i64 id) rfl;have hJ:=hh.j;clear hh;go_simp;exact⟨_,rfl,ae.refl _ _,rfl,⟨AJ.slots hJ.o.1 sn,hJ.o.2⟩⟩
     ·refine fK fun L a w1 hh=>?_;have h10:=hh.p 10 kA 0;have hB:=Hd (FA.o _ hh.rel);have hJ:=Hd hh.st;exact aK 67 _ rfl kA 0 (by simpa[go_sem]using h10) _ hB.o (u.cs) rfl _ underlying67 rfl ag ⟨_,rfl,ae.refl _ _,rfl,⟨AJ.slots hJ.o.1 sn,hJ.o.2⟩⟩
     ·refine fK fun L a w1 hh=>?_;have h12:=hh.p 12 kC 0;have i0:=(FC.o _ hh.rel).inside;have hJ:=hh.j;clear hh;go_simp;exact⟨_,rfl,ae.refl _ _,rfl,⟨AJ.slots hJ.o.1 sn,hJ.o.2⟩⟩
     ·refine fK fun L a w1 hh=>?_;have h72:=rq (hh.d 3 72);have hB:=Hd (FC.o _ hh.rel);have hJ:=Hd hh.st;exact aK 117 _ rfl kC 0 (by simpa[go_sem]using h72) _ hB.o (d2.b.cs) rfl _ underlying117 rfl ag ⟨_,rfl,ae.refl _ _,rfl,⟨AJ.slots hJ.o.1 sn,hJ.o.2⟩⟩
     ·refine fK fun L a w1 hh=>?_;have h12:=hh.p 12 kC 0;have i0:=(FC.o _ hh.rel).inside;have hJ:=hh.j;clear hh;go_simp;exact⟨_,rfl,ae.refl _ _,rfl,⟨AJ.slots hJ.o.1 sn,hJ.o.2⟩⟩
     ·refine fK fun L a w1 hh=>?_;have h74:=rq (hh.d 5 74);have ⟨c0,i0⟩:=(FC.o _ hh.rel).ci 7 rfl;have hJ:=hh.j;clear hh;go_simp;exact⟨_,rfl,ae.refl _ _,rfl,⟨AJ.slots hJ.o.1 sn,hJ.o.2⟩⟩
     ·refine fK fun L a w1 hh=>?_;have h75:=rq (hh.d 6 75);have hC:=Hd (FL.o w1 hh.rel);have hE:=Hd (FE.o w1 hh.rel);have hJ:=Hd hh.st;have hsz:=Hd hh.size;clear hh;go_simp;refine hC.o.mono ?_;rintro e w9 ⟨g9,rfl,mZ,bD,hbw⟩;exact⟨_,rfl,ae.below hbw,⟨g9,rfl,bD,Nat.le_trans hE.o mZ⟩,AJ.slots (hJ.o.1.below hbw) sn,hJ.o.2⟩
     ·refine fK fun L a w1 hh=>?_;have h12:=hh.p 12 kC 0;have i0:=(FC.o _ hh.rel).inside;have hJ:=hh.j;clear hh;go_simp;exact⟨_,rfl,ae.refl _ _,rfl,⟨AJ.slots hJ.o.1 sn,hJ.o.2⟩⟩
     ·refine fK fun L a w1 hh=>?_;have h77:=rq (hh.d 8 77);have ⟨c0,i0⟩:=(FC.o _ hh.rel).ci 6 rfl;have hJ:=hh.j;clear hh;go_simp;exact⟨_,rfl,ae.refl _ _,rfl,⟨AJ.slots hJ.o.1 sn,hJ.o.2⟩⟩
     ·refine fK fun L a w1 hh=>?_;have h8:=hh.p 8 k8 0;have i0:=(F8.o _ hh.rel).inside;have hJ:=hh.j;clear hh;go_simp;exact⟨_,rfl,ae.refl _ _,rfl,⟨AJ.slots hJ.o.1 sn,hJ.o.2⟩⟩
     ·refine fK fun L a w1 hh=>?_;have h79:=rq (hh.d 10 79);have hB:=Hd (F8.o _ hh.rel);have hJ:=Hd hh.st;exact aK 75 _ rfl k8 13 (by simpa[go_sem]using h79) _ hB.o (n.lk.cs An cn) rfl _ underlying75 rfl ag ⟨_,rfl,ae.refl _ _,rfl,⟨AJ.slots hJ.o.1 sn,hJ.o.2⟩⟩
     ·refine fK fun L a w1 hh=>?_;have h70:=rq (hh.d 1 70);have h71:=rq (hh.d 2 71);have h73:=rq (hh.d 4 73);have h78:=rq (hh.d 9 78);have h80:=rq (hh.d 11 80)
      obtain⟨g9,e76,GR⟩:=(show ∃g9,a.tmps.getD 76 undef=.slice (some ⟨g9,0,none⟩) rc.length d2.c.length∧Ez B9 rc w1 g9 from hh.d 7 76)
      have h76:a.tmps[76]?.getD undef=.slice (some ⟨g9,0,none⟩) rc.length d2.c.length:=rq (e76);have hJ:=Hd hh.st;exact wp_build _ _ rfl (by simp[go_sem,h70,h71,h73,h76,h78,h80]) (Uj (⟨⟨id,u,d2.b,rc,d2.o,n.lk⟩,some ⟨g9,0,none⟩,d2.c.length,An,cn⟩:jl) w1) ⟨_,rfl,ae.refl _ _,⟨g9,rfl,GR⟩,⟨AJ.slots hJ.o.1 sn,hJ.o.2⟩⟩
     ·refine fK fun L a w1 hh=>?_
      obtain⟨g9,e81,GR⟩:=(show ∃g9,a.tmps.getD 81 undef=.agg (jl.cs (⟨⟨id,u,d2.b,rc,d2.o,n.lk⟩,some ⟨g9,0,none⟩,d2.c.length,An,cn⟩:jl)).toArray∧Ez B9 rc w1 g9 from hh.d 12 81)
      have h81:a.tmps[81]?.getD undef=.agg (jl.cs (⟨⟨id,u,d2.b,rc,d2.o,n.lk⟩,some ⟨g9,0,none⟩,d2.c.length,An,cn⟩:jl)).toArray:=rq (e81);have hJ:=Hd hh.st;have hE:=FE.o w1 hh.rel;have hal:bz w1 (w1.alloc (.cells (jl.cs (⟨⟨id,u,d2.b,rc,d2.o,n.lk⟩,some ⟨g9,0,none⟩,d2.c.length,An,cn⟩:jl)).toArray FD)):=bR.alloc nR _
      exact BN _ _ _ rfl (by simp[go_sem,h81]) (a2n (⟨⟨id,u,d2.b,rc,d2.o,n.lk⟩,some ⟨g9,0,none⟩,d2.c.length,An,cn⟩:jl) w1) ⟨_,rfl,ae.below hal,⟨g9,_,rfl,GR.turn NQ.o (ae.below hal),aA w1 _ _,hE⟩,AJ.slots (hJ.o.1.below hal) sn,hJ.o.2⟩
     ·refine fK fun L a w1 hh=>?_;have h69:=rq (hh.d 0 69)
      obtain⟨g9,gs,e82,GR,hb8,JQ⟩:=(show ∃g9 gs,a.tmps.getD 82 undef=.slice (some ⟨gs,0,none⟩) 1 1∧Ez B9 rc w1 g9∧az w1 gs (jl.cs (⟨⟨id,u,d2.b,rc,d2.o,n.lk⟩,some ⟨g9,0,none⟩,d2.c.length,An,cn⟩:jl))∧B9<=gs from hh.d 13 82)
      have h82:a.tmps[82]?.getD undef=.slice (some ⟨gs,0,none⟩) 1 1:=rq (e82);have hJ:=Hd hh.st;have hsz:=Hd hh.size;have hun:=Hd hh.un;have hns:=cO hh.st.2.2 hh.un;have hj1:=hh.st.1;rw[hns]at hj1;have hr:=(FM.o w1 hh.rel).2.2.2.1;have hE:=FE.o w1 hh.rel;have hown:∀k,v.ownBlock=some k->k<B9:=fun k e=>NQ.o k (.inr e)
      obtain⟨v9,w9,hrn,ho9,mZ,-⟩:=(hj1.own hh.un).app (⟨⟨id,u,d2.b,rc,d2.o,n.lk⟩,some ⟨g9,0,none⟩,d2.c.length,An,cn⟩:jl) (g:=gs) (c:=1) (FN (l:=[(⟨⟨id,u,d2.b,rc,d2.o,n.lk⟩,some ⟨g9,0,none⟩,d2.c.length,An,cn⟩:jl)]) jl.bZ (by simpa using hb8)) ⟨FN Cl.bZ GR.1,hr⟩ ⟨fun a ea _=>by cases ea;exact⟨by have:=YA.o;have:=GR.2;show w5.heap.size<=g9;omega,fun e=>by have:=hown _ e;have:=GR.2;simp only at*;omega⟩,fun a ea hne=>⟨by have:=YA.o;have:=XW.o a ea hne;omega,fun e=>by have:=hown _ e;have:=XW.o a ea hne;omega⟩⟩ HLI.o (by have:=YA.o;omega)
      exact yF _ _ jR jR jR rfl rfl (by simpa[go_sem]using h69) (by simpa[go_sem]using h82) hrn ⟨v9,rfl,ae.grown mZ (fun k e=>.inr e),trivial,AJ.a4b hJ.o.1 hns a3j.o ho9 (bM.bI (by rw[hsz.o];simp)) (mZ.block _ (Nat.lt_of_lt_of_le (hj1.box rfl).inside nR) (fun e=>by have h1:=(hj1.own hh.un).own.block e.symm;have:=hj1.lt;omega)) mZ.size,(fun _=>hh.up 0 ag),fun _=>rfl⟩
     ·refine fK fun L a w1 hh=>?_;have h3:=hh.p 3 b3 0;have hup:=hh.up 14 ag;have hj1:=hh.st.1;rw[hh.un,hup]at hj1;have hB:=hj1.box rfl;have c0:w1.cell? ⟨b3,0,none⟩=some v:=hB.blk.cell 0;have f0:=hB.blk.free 0;have i0:=hB.inside;obtain⟨q9,-,hi9⟩:=hj1.app rfl;obtain⟨A9,n9,c9,e9⟩:=hi9.own.shape;have e83:a.tmps.getD 83 undef=.slice A9 n9 c9:=e9;have h83:a.tmps[83]?.getD undef=.slice A9 n9 c9:=rq (e83);have HJ1:=Hd hj1;have hul:=Hd (hh.up 0 ag);have Xd:=Hd hup;have a4J:=Hd e83;have hun:=Hd hh.un;have hJ:=Hd hh.st;clear hh hB hup hj1 e83 e9 hi9;go_simp
      exact⟨ae.set (.inl rfl) _,⟨undef,trivial⟩,AJ.a1u (iA:=L 14) hJ.o.1 Xd.o hun.o a4J.o,(fun _=>hul.o),fun _=>Xd.o⟩
     intro L w14 val hL hJ hR hv;have a2G:=Hd hR;have haj:=hJ.1;rw[hL 14 (by decide),hL 15 (by decide)]at haj;obtain⟨q9,QG,hi9⟩:=haj.app rfl;have bD:=haj.sto rfl;have UW:=Hd QG;have HI9:=Hd hi9;have uT:=Hd bD;clear hv hL hJ hR haj QG hi9 bD;simp only[regs.aG,List.map_cons,List.map_nil];simp only[Act.put,List.setIfInBounds_toArray,List.set_cons_zero,List.set_cons_succ]
     skip
     have a4i:Hid (ae (UA b3 m2 v) (UA b3 m2 v) W9 w14):=HTE.o.trans (a2G.o.widen fun k e=>e.elim .inl fun e=>.inr (.inr e))
     have hsame:∀k,k<wE.heap.size->(k=b3->False)->(v.ownBlock=some k->False)->w14.heap[k]?=wE.heap[k]?:=fun k h1 h2 h3=>(a2G.o.far k h1 fun e=>by
      rcases e with e|e
      ·exact h2 e
      ·exact h3 e).2
     have a4f:Hid (VM w14 m2 (omap.put lt id (.agg (lX d2 p2).toArray) es)):=Yc.o.stays (hsame m2 Yc.o.inside (fun e=>by have:=La.o;omega) fun e=>by have h1:=(VD.o.own.block e).1;have:=La.o;omega)
     have a4l:Hid (Shown x w14 (omap.put lt id (.agg (lX d2 p2).toArray) es) T1):=a2E.o.keep fun k cu fr h=>by
      refine hsame k (Array.getElem?_eq_some_iff.1 h).1 (fun e=>?_) fun e=>?_
      ·rw[e,YB.o]at h
       injection h with h
       injection h with _ h _
       exact absurd h (by decide)
      ·obtain⟨cu0,h0⟩:=VD.o.own.typed e;rw[h0]at h
       injection h with h
       injection h with _ h _
       exact absurd h (by decide)
     have HF:=Hd (iM.o w14 _ _ _ a4i.o uT.o HI9.o (by rw[List.map_append,IQ.o,EH.o,HIE.o,List.map_cons,UW.o];rfl) a4f.o a4l.o);clear iM hsame
     gi_wp2_with (fail)
     exact HF.o
end
section
open Go.RowKit fG gm aF Go.Maps
theorem Ig{M:Int}{x:aJ}{l:List dH}(h:(bK M setSt x l).2.2=0):(bK M setSt x l).1.t=(aO M x l).1.t∧(bK M setSt x l).1.nd=(aO M x l).1.nd∧(aO M x l).2.2=0:=by
 unfold bK at h ⊢;by_cases h1:1024<l.length
 ·rw[if_pos h1]at h;cases h
 ·rw[if_neg h1]at h ⊢;by_cases h2:(aO M x l).2.2≠0
  ·rw[if_pos h2]at h;exact absurd h h2
  ·rw[if_neg h2]at h ⊢;by_cases h3:(setSt (aO M x l).1).2≠0
   ·rw[if_pos h3]at h;exact absurd h h3
   ·rw[if_neg h3];exact⟨sU _,sV _,Decidable.not_not.1 h2⟩
end
section
open Go.RowKit fG gm aF Go.Maps
theorem Ik{M:Int}{x:aJ}{o:dH}{l:List dH}(h:(aO M x (o::l)).2.2=0):(eU M x o).2=0∧(aO M (eU M x o).1 l).2.2=0∧(aO M x (o::l)).1=(aO M (eU M x o).1 l).1:=by
 rw[bW]at h ⊢;by_cases h1:(eU M x o).2≠0
 ·rw[if_pos h1]at h;exact absurd h h1
 ·rw[if_neg h1]at h ⊢;exact⟨Decidable.not_not.1 h1,h,rfl⟩
end
section
open Go.RowKit fG gm aF Go.Maps
end
section
open Go.RowKit fG gm aF Go.Maps
theorem a1A{Z:ZZ}(hZ:Z.2.2=9){x:aJ}{n:Nat}(h:x.t.length<=10)(hn:n<=1024):n<=1024->Room Z.2.2 x n:=fun _=>⟨hn,.inr ⟨by omega,by rw[hZ];decide⟩⟩
structure UB(w:World)(lb lo:Nat)(q:jl):Prop where
 row:w.rangeAt lb lo q.cs
 at_:qR w q
theorem UB.below{w w':World}{lb lo:Nat}{q:jl}(h:UB w lb lo q)(hb:bz w w'):UB w' lb lo q:=⟨fun i v hv=>(hb.cell (p:=⟨lb,lo+i,none⟩) (World.block_lt_of_cell? w _ (h.row i v hv))).trans (h.row i v hv),h.at_.below hb⟩
theorem UB.inside{w:World}{lb lo:Nat}{q:jl}(h:UB w lb lo q):lb<w.heap.size:=World.block_lt_of_cell? w ⟨lb,_,none⟩ (h.row 0 (.int .i64 q.it.i) rfl)
end
section
open Go.RowKit Go.ChangeShapes Go.WideShapes Go.ChangeAt Go.Deep
theorem own:ownKnob prog.godebug=none:=by kernel_rfl
theorem laidOut:laidOutB prog=true:=by kernel_rfl
theorem pX(b off j:Nat):(⟨b,off,none⟩:Addr).add j=⟨b,off+j,none⟩:=by unfold Addr.add;split<;>simp_all
theorem C9{α:Type}{n:Nat}{p:Nat->α->Prop}(h:∀i,i<n->∃x,p i x):∃l:List α,l.length=n∧∀i (hi:i<l.length),p i l[i]:=by
 induction n with
 |zero=>exact⟨[],rfl,fun i hi=>by simp at hi⟩
 |succ n ih=>
  obtain⟨l,hl,hp⟩:=ih (fun i hi=>h i (by omega));obtain⟨x,hx⟩:=h n (by omega);refine⟨l++[x],by simp[hl],fun i hi=>?_⟩;rw[List.length_append,List.length_cons,List.length_nil]at hi;by_cases hin:i<l.length
  ·rw[List.getElem_append_left hin];exact hp i hin
  ·have:i=n:=by omega
   subst this
   have e:(l++[x])[i]'(by rw[List.length_append,List.length_cons,List.length_nil];omega)=x:=by
    rw[List.getElem_append_right (by omega)];simp[hl]
   rw[e];exact hx
end
end Go.Proofs.YthmegninhpihkaaGreat
