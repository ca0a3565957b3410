import Derived.Test.YtekdoeilpheklaaGreatZFlE
import Derived.Sort.CutIn
set_option maxHeartbeats 16000000
set_option maxRecDepth 100000
open Go.Proofs.Tryz
namespace Go.Proofs.YtekdoeilpheklaaGreat
section
open Go.RowKit fK fZ aB Go.Maps BG Go.Shelf
attribute [local go_sem] Oper.semAt_some
theorem Rf(w:World):(Instr.build Gz #[(1,.int .i64 255)]).run prog w=.ok (.agg (lY Dn.top none).toArray) w:=by kernel_rfl
theorem Kz(w:World):(Instr.makeMap zl none).run prog w=.ok (.map (some w.heap.size)) (w.alloc (.map #[] 0)):=rfl
structure JB(x y:Nat)(A W:World):Prop where
 os:W.os=A.os
 tape:W.tape=A.tape
 output:W.output=A.output
 size:A.heap.size<=W.heap.size
 same:∀k,k<A.heap.size->k≠x->k≠y->W.heap[k]?=A.heap[k]?
theorem JB.refl(x y:Nat)(A:World):JB x y A A:=⟨rfl,rfl,rfl,nR,fun _ _ _ _=>rfl⟩
theorem JB.bk{x y:Nat}{A W W':World}(h:JB x y A W)(hb:Bk A.heap.size W W'):JB x y A W':=⟨hb.os.trans h.os,hb.tape.trans h.tape,hb.output.trans h.output,Nat.le_trans h.size hb.size,fun k hk h1 h2=>(hb.low (Nat.lt_of_lt_of_le hk h.size) hk).trans (h.same k hk h1 h2)⟩
theorem JB.aP{x y n:Nat}{A W:World}(h:JB x y A W)(hx:n<=x)(hy:n<=y)(hs:n<=A.heap.size):Below n A W:=⟨h.os,h.tape,h.output,h.size,fun k hk=>h.same k (by omega) (by omega) (by omega)⟩
def Bd(x:Nat)(v:Value):bF:=fun k=>k=x∨v.ownBlock=some k
def WG(x y:Nat)(v:Value):bF:=fun k=>k=x∨k=y∨v.ownBlock=some k
theorem JB.turn{x y:Nat}{v:Value}{A W W':World}(h:JB x y A W)(ht:ae (WG x y v) (WG x y v) W W')(hv:∀k,v.ownBlock=some k->A.heap.size<=k):JB x y A W':=⟨ht.os.trans h.os,ht.tape.trans h.tape,ht.output.trans h.output,Nat.le_trans h.size ht.size,fun k hk h1 h2=>by
 have e:¬WG x y v k:=fun e=>by
  rcases e with e|e|e
  ·exact h1 e
  ·exact h2 e
  ·have:=hv k e;omega
 exact(ht.far k (Nat.lt_of_lt_of_le hk h.size) e).2.trans (h.same k hk h1 h2)⟩
theorem ae.widen{S T:bF}{w w':World}(h:ae S S w w')(hs:∀k,S k->T k):ae T T w w':=⟨h.os,h.tape,h.output,h.size,fun k hk hn=>⟨hn,(h.far k hk fun e=>hn (hs k e)).2⟩⟩
def OM(x:aJ)(w:World)(e:Ending)(w':World):Prop:=∃A c l,e=.returned (.slice A l.length c)∧aS 22 gQ.cs w' A l∧(∀q∈l,ou w' q∧q.it.Ok∧(∀a,q.Ac=some a->q.it.c≠[]->w.heap.size<=a.block)∧∀a,q.A=some a->q.it.lk.l≠[]->w.heap.size<=a.block)∧l.map (·.it)=items x∧(∀a,A=some a->l≠[]->w.heap.size<=a.block)∧bz w w'
structure LsI(x:aJ)(w5:World)(b3 m2:Nat)(j:Nat)(W:World):Prop where
 ky:JB b3 m2 w5 W
 ex:∃v l es,ak W b3 [v] kN∧Its W w5.heap.size v l∧l.map (·.it)=((aB.walk x.t 0).take j).filterMap (dB x)∧VM W m2 es∧Shown x W es ((aB.walk x.t 0).take j)
theorem VM.bk{w w':World}{m B:Nat}{es:LV}(h:VM w m es)(hb:Bk B w w'):VM w' m es:=h.stays (by
 obtain⟨es',clock,h1,_⟩:=h.own
 exact(hb.keep h1 rfl).trans h1.symm)
theorem LsI.bk{x:aJ}{w5 W W':World}{b3 m2 j:Nat}(h:LsI x w5 b3 m2 j W)(hb:Bk w5.heap.size W W'):LsI x w5 b3 m2 j W':=⟨h.ky.bk hb,by
 obtain⟨v,l,es,h1,h2,h3,h4,h5⟩:=h.ex
 exact⟨v,l,es,h1.bk hb,h2.bk hb,h3,h4.bk hb,h5.bk hb⟩⟩
theorem Ye{ib db x y base:Nat}{v1 v2:Value}{l1 l2:List Int}{w:World}(hx:x<base)(hy:y<base)(h1:base<=ib)(h2:base<=db)(b1:ak w ib [v1] bM)(b2:ak w db [v2] bM)(o1:aO w base v1 l1)(o2:aO w base v2 l2) :
  ∃A1 A2 c1 c2,∀W,JB x y w W->MB ib db A1 A2 c1 c2 l1 l2 W:=by
 obtain⟨A1,c1,e1,-,-,r1⟩:=aO.kP o1;obtain⟨A2,c2,e2,-,-,r2⟩:=aO.kP o2;refine⟨A1,A2,c1,c2,fun W hk=>?_⟩
 have o1':aO W base v1 l1:=ai.stays o1 fun k hk'=>by
  have:=ai.block o1 hk';exact hk.same k this.2 (by omega) (by omega)
 have o2':aO W base v2 l2:=ai.stays o2 fun k hk'=>by
  have:=ai.block o2 hk';exact hk.same k this.2 (by omega) (by omega)
 obtain⟨A1',c1',e1',-,-,r1'⟩:=aO.kP o1';obtain⟨A2',c2',e2',-,-,r2'⟩:=aO.kP o2';have f1:=e1.symm.trans e1';have f2:=e2.symm.trans e2'
 injection f1 with f1 _ _
 injection f2 with f2 _ _
 have q1:=(b1.stays (hk.same ib b1.inside (by omega) (by omega))).blk.cell 0;have q2:=(b2.stays (hk.same db b2.inside (by omega) (by omega))).blk.cell 0;rw[e1] at q1;rw[e2] at q2;exact⟨q1,q2,by rw[f1];exact r1',by rw[f2];exact r2'⟩
theorem a0D(x:aJ)(w:World):Shown x w (omap.put lt (-1) (.agg (lY Dn.top none).toArray) []) []:=
 ⟨by rw[omap.dw,if_pos rfl],(fun _ h=>nomatch h),(fun _ h=>nomatch h),fun i _ h1=>by rw[omap.dw,if_neg h1];rfl,by have:=iD (-1) (.agg (lY Dn.top none).toArray) [];simpa using this⟩
theorem a2p{x:aJ}(hg:Good x)(ok:Ok x.t)(hw:∀i,has x.t i=true->(x.ws i).right=true)(hn:x.t.length<=900){i:Int}(hi:i=0∨i∈ids x.t){d:Dn}(h:Gu x i=some d):d.o<256∧d.c.length<=1900:=by
 unfold Gu at h;by_cases h0:i=0
 ·rw[if_pos h0] at h
  injection h with e
  rw[← e];exact⟨by decide,by decide⟩
 ·rw[if_neg h0] at h;have hp:par x.t i=0∨par x.t i∈ids x.t:=ok.pin _ (jX (hi.resolve_left h0));have h1:=Oh hg ok hw hp d h;have h2:=lN ok hp;exact⟨h1.o,by have:=h1.len;omega⟩
theorem pJ{α:Type}{k:Nat}{enc:α->List Value}{w:World}{g:Nat}{l:List α}(hk:∀x,(enc x).length=k)(h:ax w g (l.flatMap enc)):aS k enc w (some ⟨g,0,none⟩) l:=fun _=>⟨g,0,rfl,fun j hj i v hv=>by
 rw[Nat.zero_add,h.cell]
 exact qJ hk hj hv⟩
theorem Wh(q:gQ)(w:World):(Instr.build Gy #[(0,.int .i64 q.it.i),(1,.agg q.it.w.cs.toArray),(2,.agg q.it.b.cs.toArray),(3,.slice q.Ac q.it.c.length q.cc),(4,.int .i64 (q.it.o:Nat)),(5,.agg (q.it.lk.cs q.A q.c).toArray)]).run prog w=.ok (.agg q.cs.toArray) w:=by kernel_rfl
theorem a3s(q:gQ)(w:World):(Instr.buildSlice kN 1 #[(0,.agg q.cs.toArray)]).run prog w=.ok (.slice (some ⟨w.heap.size,0,none⟩) 1 1) (w.alloc (.cells q.cs.toArray Gy)):=by kernel_rfl
structure AJ(base b3:Nat)(v:Value)(li:List gQ)(it:It)(iA iS:Bool)(v':Value)(w:World):Prop where
 box:iS=false->ak w b3 [v] kN
 own:iA=false->Its w base v li
 app:iA=true->∃q,q.it=it∧Its w base v' (li++[q])
 sto:iS=true->ak w b3 [v'] kN
 lt:b3<base∧base<=w.heap.size
section
variable {base b3:Nat}{v v' u:Value}{li:List gQ}{it:It}{iA iS:Bool}{w w':World}
theorem AJ.below(h:AJ base b3 v li it iA iS v' w)(hb:bz w w'):AJ base b3 v li it iA iS v' w':=⟨fun e=>(h.box e).stays (hb.block _ (h.box e).inside),fun e=>(h.own e).below hb,fun e=>by
 obtain⟨q,h1,h2⟩:=h.app e
 exact⟨q,h1,h2.below hb⟩,fun e=>(h.sto e).stays (hb.block _ (h.sto e).inside),h.lt.1,Nat.le_trans h.lt.2 hb.size⟩
theorem AJ.slots(h:AJ base b3 v li it iA iS v' w)(e:u=v'):AJ base b3 v li it iA iS u w:=by rw[e];exact h
theorem AJ.a5o(h:AJ base b3 v li it iA iS v' w)(hi:iS=false){q:gQ}(hq:q.it=it){v9:Value}(h2:Its w' base v9 (li++[q]))(e:u=v9)(hb:w'.heap[b3]?=w.heap[b3]?)(hs:w.heap.size<=w'.heap.size):AJ base b3 v li it true iS u w':=by
 subst hi e;exact⟨fun _=>(h.box rfl).stays hb,nofun,fun _=>⟨q,hq,h2⟩,nofun,h.lt.1,Nat.le_trans h.lt.2 hs⟩
theorem AJ.a2u(h:AJ base b3 v li it iA iS u w)(hA:iA=true)(hS:iS=false){v9:Value}(e:u=v9):AJ base b3 v li it iA true u (w.setCell ⟨b3,0,none⟩ v9):=by
 subst hA hS e
 exact⟨nofun,nofun,fun _=>by
  obtain⟨q,h1,h2⟩:=h.app rfl
  exact⟨q,h1,h2.stays fun k hk _=>heap_setCell_other _ _ _ _ (by have:=h.lt.1;show k≠b3;omega)⟩,fun _=>(h.box rfl).set 0 u,h.lt.1,by have:=h.lt.2;simpa[World.setCell] using this⟩
end
def E8(B:Nat)(c:List Cl)(w:World)(g:Nat):Prop:=ax w g (c.flatMap Cl.cs)∧B<=g
theorem E8.turn{S:bF}{B:Nat}{c:List Cl}{w w':World}{g:Nat}(hS:∀k,S k->k<B)(h:E8 B c w g)(ht:ae S S w w'):E8 B c w' g:=⟨h.1.stays (ht.far _ h.1.inside fun e=>by have:=hS _ e;have:=h.2;omega).2,h.2⟩
theorem H7{w:World}{g b m:Nat}{s:Sh}{Z:ZZ}{x:aJ}(h:aj w g b m s Z x)(hx:sN x)(hn:x.t.length<=900) :
  Calls prog 8 #[.pointer (some ⟨g,0,none⟩)] w (OM x w):=by
 have HS:=Hd h;have HX:=Hd hx;have HN:=Hd hn;have HWR:Hid (∀i,has x.t i=true->(x.ws i).right=true):=fun i hi=>mJ hx.ok (fun i=>(hx.good i) |> fun h=>(kH h).1) (ah.1 hi) _ (hx.set i hi (fun _ _ h=>h) (fun h=>h));have HXL:Hid ((aB.walk x.t 0).length=x.t.length+1):=tH hx.ok;have HXM:Hid (∀i,i∈aB.walk x.t 0↔has x.t i=true):=fun i=>jh hx.ok;unfold OM;clear h hx hn;have HB0:Hid (Below w.heap.size w ((w.alloc (.cells #[.pointer (some ⟨g,0,none⟩)] 25)).alloc (.cells #[.slice none 0 0] 33))):=(bR.alloc nR _).alloc (by simp) _
 have gY:Hid (ak ((w.alloc (.cells #[.pointer (some ⟨g,0,none⟩)] 25)).alloc (.cells #[.slice none 0 0] 33)) w.heap.size [.pointer (some ⟨g,0,none⟩)] 25):=(ak.new w [.pointer (some ⟨g,0,none⟩)] _).al _;have dh:Hid (ak ((w.alloc (.cells #[.pointer (some ⟨g,0,none⟩)] 25)).alloc (.cells #[.slice none 0 0] 33)) (w.heap.size+1) [.slice none 0 0] 33):=mY (w.alloc _) _ (by simp) [.slice none 0 0] _;have Jf:Hid (((w.alloc (.cells #[.pointer (some ⟨g,0,none⟩)] 25)).alloc (.cells #[.slice none 0 0] 33)).heap.size=w.heap.size+2):=by show _=_;simp
 refine dN func8 rfl ?_;simp only[ntmps8,List.size_toArray,List.length_cons,List.length_nil,Nat.reduceAdd,Nat.reduceSub,Array.replicate_succ,Array.replicate_zero,List.push_toArray,List.append_toArray,List.nil_append,List.cons_append]
 go_upto_region 2 with (fail)
 generalize ((w.alloc (.cells #[.pointer (some ⟨g,0,none⟩)] 25)).alloc (.cells #[.slice none 0 0] 33))=w0 at *;have hmk:=Kz w0;have hm1:VM (w0.alloc (.map #[] 0)) w0.heap.size []:=VM.made w0;have Gh:=Hd hm1;have hb1:Below w0.heap.size w0 (w0.alloc (.map #[] 0)):=bR.alloc nR _;have Jy:Hid (Below w0.heap.size w0 (w0.alloc (.map #[] 0))):=hb1;have HB1:Hid (Below w.heap.size w (w0.alloc (.map #[] 0))):=HB0.o.trans (hb1.mono HB0.o.size);obtain⟨⟨q0,-,-,-,-,-⟩,qi⟩:=(HS.o.below HB1.o).top
 have cs1:(w0.alloc (.map #[] 0)).cell? ⟨w.heap.size,0,none⟩=some (.pointer (some ⟨g,0,none⟩)):=(gY.o.al _).blk.cell 0;have csi:w.heap.size<(w0.alloc (.map #[] 0)).heap.size:=(gY.o.al _).inside;have HTP:=Hd (yG (HS.o.below HB1.o).tree 0 (by constructor<;>decide));have hinv:=oO (.pointer (some ⟨b,0,none⟩)) (.int .i64 0);rw[par_none (Et HX.o.ok)] at HTP;clear hm1 hb1;go_wp2_with (fail);refine HTP.o.mono ?_;rintro e w2 ⟨rfl,hb2⟩;have Na:=Hd (Gh.o.below hb2);have a2i:Hid (Below w0.heap.size w0 w2):=Jy.o.trans (hb2.mono Jy.o.size)
 clear hb2 Gh HB1 Jy hmk q0 qi cs1 csi hinv HTP
 obtain⟨m2,hm2⟩:∃m2,w0.heap.size=m2:=⟨_,rfl⟩
 rw[hm2] at Na ⊢;have HMZ:Hid (w0.heap.size=m2):=hm2;clear hm2;obtain⟨w3,hrun,UO,hg3⟩:=Na.o.store (t:=zl) (E:=Gz) vK (i:=-1) ⟨by decide,by decide⟩ (.agg (lY Dn.top none).toArray) (by decide);have tu:=Hd UO;have kZ:Hid (Below w0.heap.size w0 w3):=a2i.o.grown hg3 a2i.o.size fun k hk=>by cases hk;exact Nat.le_of_eq HMZ.o
 clear UO hg3 Na a2i
 go_upto_region 3 with (first|((with_reducible refine gU ?_);refine bZ _ _ rfl rfl (by simp[go_sem]) (Rf _) ?_))
 have a2f:Hid (Below w3.heap.size w3 (w3.alloc (.cells #[.map (some m2)] 103))):=bR.alloc nR _;have lX:Hid (ak (w3.alloc (.cells #[.map (some m2)] 103)) w3.heap.size [.map (some m2)] 103):=ak.new w3 [.map (some m2)] _;have gV:Hid (VM (w3.alloc (.cells #[.map (some m2)] 103)) m2 (omap.put lt (-1) (.agg (lY Dn.top none).toArray) [])):=tu.o.below a2f.o;have jf:Hid (Below w0.heap.size w0 (w3.alloc (.cells #[.map (some m2)] 103))):=kZ.o.trans (a2f.o.mono kZ.o.size);have OT:Hid (m2<w3.heap.size):=tu.o.inside
 obtain⟨b4,hb4⟩:∃b4,w3.heap.size=b4:=⟨_,rfl⟩
 rw[hb4] at lX OT ⊢;clear hb4 kZ tu a2f hrun;generalize (w3.alloc (.cells #[.map (some m2)] 103))=w4 at *;have Jw:=Hd (HB0.o.trans (jf.o.mono HB0.o.size));have Xz:Hid (ak w4 w.heap.size [.pointer (some ⟨g,0,none⟩)] 25):=gY.o.stays (jf.o.block _ gY.o.inside);have ZC:Hid (ak w4 (w.heap.size+1) [.slice none 0 0] 33):=dh.o.stays (jf.o.block _ dh.o.inside)
 have Xq:Hid (w.heap.size+1<m2∧m2<b4):=⟨by have:=dh.o.inside;have:=HMZ.o;omega,OT.o⟩
 clear gY dh HB0 jf HMZ OT Jf;obtain⟨⟨q0,-,-,-,-,-⟩,qi⟩:=(HS.o.below Jw.o).top;have cs1:w4.cell? ⟨w.heap.size,0,none⟩=some (.pointer (some ⟨g,0,none⟩)):=Xz.o.blk.cell 0;have csi:=Xz.o.inside;have HTW:=Hd (a2q (HS.o.below Jw.o).tree (by have:=HN.o;omega));have hinv:=UG (.pointer (some ⟨b,0,none⟩));go_wp2_with (fail);refine HTW.o.mono ?_;rintro e w5 ⟨ib,db,v1,v2,rfl,hi1,hi2,hx1,hx2,ho1,ho2,hb5⟩;clear q0 qi cs1 csi hinv HTW;have gz:=Hd (Jw.o.trans (hb5.mono Jw.o.size))
 have a1W:Hid (ak w5 w.heap.size [.pointer (some ⟨g,0,none⟩)] 25):=Xz.o.stays (hb5.block _ Xz.o.inside);have a4r:Hid (ak w5 (w.heap.size+1) [.slice none 0 0] 33):=ZC.o.stays (hb5.block _ ZC.o.inside);have a1V:Hid (ak w5 b4 [.map (some m2)] 103):=lX.o.stays (hb5.block _ lX.o.inside);have rE:Hid (VM w5 m2 (omap.put lt (-1) (.agg (lY Dn.top none).toArray) [])):=gV.o.below hb5
 obtain⟨b3,hb3⟩:∃b3,w.heap.size+1=b3:=⟨_,rfl⟩
 have HB3:=Hd hb3;rw[hb3] at a4r Xq ⊢
 obtain⟨sb,hsb⟩:∃sb,w.heap.size=sb:=⟨_,rfl⟩
 have HSB:=Hd hsb;rw[hsb] at a1W ⊢;have hz3:b3<w4.heap.size:=by have:=ZC.o.inside;omega
 have hz4:m2<w4.heap.size:=by have:=lX.o.inside;have:=Xq.o;omega
 obtain⟨B1,B2,d1,d2,a2S⟩:=Ye (x:=b3) (y:=m2) hz3 hz4 hi1 hi2 hx1 hx2 ho1 ho2;have HPR:=Hd a2S
 have HXW:Hid (∀j (h:j<(aB.walk x.t 0).length),(su x.t)[j]?.getD 0=(aB.walk x.t 0)[j]∧(wQ x.t)[j]?.getD 0=(depth x.t (aB.walk x.t 0)[j]:Nat)):=fun j h=>by
  have hj2:j<(wd x.t 0 0).length:=by rw[nG];exact h
  have e:=a2o hj2 h;rw[su,wQ,List.getElem?_map,List.getElem?_map,List.getElem?_eq_getElem hj2,e];exact⟨rfl,rfl⟩
 have HEL:Hid ((qZ (su x.t) (wQ x.t)).length=(aB.walk x.t 0).length):=by show _=_;rw[qC,su,List.length_map,nG]
 have HIL:Hid ((su x.t).length=(aB.walk x.t 0).length∧(wQ x.t).length=(su x.t).length):=by show _∧_;rw[wQ,su,List.length_map,List.length_map,nG];exact⟨rfl,rfl⟩
 have MN:Hid (sb<b3∧b3<m2∧m2<b4∧b4<w5.heap.size):=⟨by omega,Xq.o.1,Xq.o.2,a1V.o.inside⟩
 have XX:Hid (∀W,JB b3 m2 w5 W->aj W g b m s Z x∧Below w.heap.size w W∧ak W sb [.pointer (some ⟨g,0,none⟩)] 25∧ak W b4 [.map (some m2)] 103):=fun W hk=>by
  have h1:=MN.o;have h2:Below w.heap.size w W:=gz.o.trans (hk.aP (by omega) (by omega) gz.o.size);exact⟨HS.o.below h2,h2,a1W.o.stays (hk.same _ a1W.o.inside (by omega) (by omega)),a1V.o.stays (hk.same _ a1V.o.inside (by omega) (by omega))⟩
 clear hi1 hi2 hx1 hx2 ho1 ho2 hb5 a2S hz3 hz4 hsb hb3 Xz ZC lX gV Xq Jw;go_wp2_with (fail)
 refine nK (gf:=197) (lb:=#[.pointer (some ⟨ib,0,none⟩),.pointer (some ⟨db,0,none⟩)]) rfl (enters_of func197 (by kernel_rfl) rfl) (es:=qZ (su x.t) (wQ x.t)) (R:=fun _=>Eq)
  (Kp:=fun A B=>MB ib db B1 B2 d1 d2 (su x.t) (wQ x.t) A->MB ib db B1 B2 d1 d2 (su x.t) (wQ x.t) B)
  (fun W1 hb=>PT (by have h1:=HIL.o.1;have h2:=HXL.o;have:=HN.o;omega) HIL.o.2 (HPR.o W1 ((JB.refl _ _ _).bk hb))) (fun h k x=>k (h x)) (fun A B hb h=>h.cells fun a v=>iK hb) (fun n A B e k o _ hk _=>e ▸ hk)
  (fun e he=>by obtain⟨j,_,rfl⟩:=List.mem_map.1 he;rfl)
  (fun k W=>LsI x w5 b3 m2 k W)
  (fun _ _ _=>False) (fun k A B h hr=>?hI) (fun _ _ _ _ h _=>h.elim) ⟨JB.refl _ _ _,.slice none 0 0,[],_,a4r.o,Its.nil _ _,rfl,rE.o,a0D _ _⟩ ?a1 ?assign ?body ?done (fun _ _ _ _ _ _ h _=>h.elim)
 case hI=>
  rcases hr with ⟨n,hn,rfl⟩|hb
  ·exact h
  ·exact h.bk hb
 case assign=>
  intro l j hj W9 KK UU;rw[Hf]
  gi_wp2
  exact UU
 case done=>
  rintro D W9 hD ⟨hk,v,li,es,hb3,hits,hmap,hvm,hsh⟩ hdd
  have HIS:Hid (li.map (·.it)=items x):=by
   show _=_;rw[hmap,HEL.o,List.take_length];rfl
  have HITS:=Hd hits;have ZK:=Hd hdd;have HD1:Hid (w5.heap.size<=D):=hD;have SG:Hid (Below w.heap.size w W9):=(XX.o W9 hk).2.1;have c3:W9.cell? ⟨b3,0,none⟩=some v:=hb3.blk.cell 0;have i3:=hb3.inside
  have MQ:Hid (∀q∈li,q.it.Ok):=fun q hq=>by
   have h1:q.it∈items x:=by rw[← HIS.o];exact List.mem_map_of_mem hq
   obtain⟨i,hi,he⟩:=List.mem_filterMap.1 h1;exact NV HX.o.good HX.o.fit HX.o.ok HWR.o HN.o (ah.1 ((HXM.o i).1 hi)) he
  obtain⟨A,n9,c,rfl⟩:=hits.own.shape;clear hk hb3 hits hmap hvm hsh hdd hD;go_wp2_with (fail)
  refine fM w5.heap.size ⟨⟨D,rfl,HD1.o,ZK.o,by simp⟩,trivial⟩ fun w' hb=>⟨_,results_tmp rfl _ _ _,?_⟩
  have h5:=gz.o.size;have hI:=HITS.o.bk hb;obtain⟨A',c',e',-,-,hrow⟩:=hI.own.row gQ.aZ
  injection e' with e1 e2 e3
  subst e1 e2 e3;refine⟨_,_,li,rfl,hrow,fun q hq=>⟨(hI.at_ q hq).1,MQ.o q hq,fun a ea hne=>Nat.le_trans h5 ((hI.at_ q hq).2.c a ea hne).1,fun a ea hne=>Nat.le_trans h5 ((hI.at_ q hq).2.p a ea hne).1⟩,HIS.o,fun a ea hne=>?_,SG.o.trans (hb.below h5 SG.o.size)⟩;obtain⟨g0,c0,e0,-⟩:=hI.own.row0 gQ.aZ (List.length_pos_iff.2 hne);have h0:=(hI.own.block (g:=g0) (by rw[e0];rfl)).1;rw[ea] at e0
  injection e0 with e0 _ _
  injection e0 with e0
  rw[e0];exact Nat.le_trans h5 h0
 case body=>
  rintro l j hj W9 ⟨hk,v,li,es,hb3,hits,hmap,hvm,hsh⟩;have hjX:j<(aB.walk x.t 0).length:=by rw[HEL.o] at hj;exact hj
  obtain⟨h1,h2⟩:=HXW.o j hjX;have Js:Hid (has x.t (aB.walk x.t 0)[j]=true):=(HXM.o _).1 (List.getElem_mem hjX);obtain⟨d,p,okb,hlk,hsm,hyes,hno⟩:=hsh.look HX.o.ok hjX;obtain⟨hnw,hn1,htk⟩:=Tn HX.o.ok hjX;have HJB:Hid (j<=900):=by have:=HXL.o;have:=HN.o;show _<=_;omega
  have RP:=Hd (pU (dB x) hjX);have yw:=Hd (And.intro hnw (And.intro hn1 htk));have HLEN:Hid (((aB.walk x.t 0).take j).length=j):=by show _=_;rw[List.length_take];omega
  rw[h1,h2];generalize (aB.walk x.t 0)[j]=id at *;generalize hT1:(aB.walk x.t 0).take (j+1)=T1 at *;have HT1:=Hd hT1;clear hT1;generalize (aB.walk x.t 0).take j=T0 at *;generalize hdx:depth x.t id=dx at *;have Nj:Hid (I64 id):=kQ HX.o.ok Js.o
  have HPI:Hid (I64 (par x.t id)):=by
   by_cases h0:id=0
   ·rw[h0,par_none (Et HX.o.ok)];constructor<;>decide
   ·rcases HX.o.ok.pin _ (jX ((ah.1 Js.o).resolve_left h0)) with e|e
    ·simp only at e;rw[e];constructor<;>decide
    ·exact kQ HX.o.ok (ah.2 (.inr e))
  have a4y:=Hd (fun d h=>a2p HX.o.good HX.o.ok HWR.o HN.o (ah.1 Js.o) (d:=d) h);have HUP:Hid (bK x id=Dn.step (x.nd id) (x.ws id) (Gu x id)):=QK HX.o.ok (ah.1 Js.o);have Fb:=Hd hyes;have vF:=Hd hno;have HK:=Hd hk;have Np:=Hd hb3;have HITS:=Hd hits;have Zw:=Hd hmap;have Za:=Hd hvm;have HSH:=Hd hsh;have HVN:Hid (∀k,v.ownBlock=some k->k<W9.heap.size):=fun k e=>(hits.own.block e).2;have HVB:Hid (∀k,v.ownBlock=some k->w5.heap.size<=k):=fun k e=>(hits.own.block e).1
  have HST:Hid (∀W,ae (WG b3 m2 v) (WG b3 m2 v) W9 W->aj W g b m s Z x∧Below w.heap.size w W∧ak W sb [.pointer (some ⟨g,0,none⟩)] 25∧ak W b4 [.map (some m2)] 103∧JB b3 m2 w5 W):=fun W ht=>by
   have h:=HK.o.turn ht HVB.o;obtain⟨a1,a2,a3,a4⟩:=XX.o W h;exact⟨a1,a2,a3,a4,h⟩
  have xh:Hid (∀W,Below W9.heap.size W9 W->aj W g b m s Z x∧ax W sb [.pointer (some ⟨g,0,none⟩)]∧ax W b4 [.map (some m2)]∧VM W m2 es):=fun W hb=>by
   obtain⟨a1,a2,a3,a4,-⟩:=HST.o W (ae.below hb);exact⟨a1,a3.blk,a4.blk,Za.o.below hb⟩
  -- what a round leaves,if nothing of what is told changes
  have iJ:Hid (∀W v' li' es',ae (WG b3 m2 v) (WG b3 m2 v) W9 W->ak W b3 [v'] kN->Its W w5.heap.size v' li'->li'.map (·.it)=T1.filterMap (dB x)->VM W m2 es'->Shown x W es' T1 ->
    KB W9 W∧(MB ib db B1 B2 d1 d2 (su x.t) (wQ x.t) W9->MB ib db B1 B2 d1 d2 (su x.t) (wQ x.t) W)∧LsI x w5 b3 m2 (j+1) W):=fun W v' li' es' ht a1 a2 a3 a4 a5=>by
   obtain⟨-,-,-,-,hky⟩:=HST.o W ht;refine⟨fun k o hk9 ho=>(ht.far k (Array.getElem?_eq_some_iff.1 hk9).1 fun e=>?_).2.trans hk9,fun _=>HPR.o W hky,hky,v',li',es',a1,a2,by rw[HT1.o];exact a3,a4,by rw[HT1.o];exact a5⟩;rcases e with e|e|e
   ·rw[e,Np.o] at hk9;cases hk9;cases ho
   ·obtain⟨es0,clock,h0,_⟩:=Za.o.own;rw[e,h0] at hk9;cases hk9;cases ho
   ·obtain⟨cu,h0⟩:=HITS.o.own.typed e;rw[h0] at hk9;cases hk9;cases ho
  have Jh:Hid (∀W,Below W9.heap.size W9 W->bK x id=none->KB W9 W∧(MB ib db B1 B2 d1 d2 (su x.t) (wQ x.t) W9->MB ib db B1 B2 d1 d2 (su x.t) (wQ x.t) W)∧LsI x w5 b3 m2 (j+1) W):=fun W hb hd=>by
   refine iJ.o W v li es (ae.below hb) (Np.o.stays (hb.block _ Np.o.inside)) (HITS.o.below hb) ?_ (Za.o.below hb) ?_
   ·rw[RP.o,Zw.o,show dB x id=none from by unfold dB;rw[hd];rfl];simp
   ·rw[yw.o.2.2];exact(HSH.o.keep fun k cu fr hk=>hb.block _ (Array.getElem?_eq_some_iff.1 hk).1).skip yw.o.1 yw.o.2.1 hd
  have FV:Hid (∀W,Below W9.heap.size W9 W->(Instr.lookup zl (.map (some m2)) (.int .i64 (par x.t id)) true).run prog W=.ok (.tuple #[.agg (lY d p).toArray,.bool okb]) W):=fun W hb=>by
   have h:=(xh.o W hb).2.2.2.look_ok vK (O3 W) HPI.o;rw[hlk,hsm] at h;exact h
  have FP:Hid (∀W,Below W9.heap.size W9 W->Calls prog 194 #[.pointer (some ⟨b,0,none⟩),.int .i64 id] W fun e w'=>e=.returned (.int .i64 (par x.t id))∧bz W w'):=fun W hb=>yG (xh.o W hb).1.tree id Nj.o;have FS:Hid (∀W,Below W9.heap.size W9 W->ax W sb [.pointer (some ⟨g,0,none⟩)]):=fun W hb=>(xh.o W hb).2.1;have F4:Hid (∀W,Below W9.heap.size W9 W->ax W b4 [.map (some m2)]):=fun W hb=>(xh.o W hb).2.2.1;have FG:Hid (∀W,Below W9.heap.size W9 W->ax W g (sccs b m Z)):=fun W hb=>(xh.o W hb).1.blk.blk;generalize par x.t id=pp at *
  clear hk hb3 hits hmap hvm hsh hlk hsm hyes hno hnw hn1 htk h1 h2 hj hjX hdx HXW;refine wpIn_block (wpIn_seq ?_)
  refine Dh.dK (Below W9.heap.size) (fun L V wx=>JN W9.heap.size [] ([.int .i64 0,.int .i64 0,.int .i64 0,.int .i64 0,.int .i64 0,.int .i64 0,.int .i64 0,.pointer none]) (lY d p) (L 11) (L 12) (V 6) wx) [29,30,31,32,33,34,35,36,28,37,38,6,7] (by kernel_rfl) (by kernel_rfl) (by kernel_rfl) (fun _=>bR) (fun _ _ _ h k=>h.trans k) (fun i=>(match i with
   |0=>rV (.map (some m2))
   |1|2|3=>rp g 0
   |4=>rV (.iface 94 (.pointer (some ⟨b,0,none⟩)))
   |5=>rV (.int .i64 id)
   |6=>rV (.int .i64 pp)
   |7|8=>rV (.tuple #[.agg (lY d p).toArray,.bool okb])
   |9=>rV (.agg (lY d p).toArray)
   |10|13=>rV (.bool okb)
   | _=>ra:regs.jO (Below W9.heap.size)).p) (fun _=>regs.jO.mono _) (by kernel_rfl) (bR.drew) (JN.start (old:=[]) trivial) ⟨?_,?_,?_,?_,?_,?_,?_,?_,?_,?_,?_,?_,?_,?_,trivial⟩ ?_
  ·refine fC fun L a w1 hh=>?_;have h4:=hh.p 4 b4 0;have ⟨c0,i0⟩:=(F4.o _ hh.rel).ci 0 rfl;have hJ:=hh.j;clear hh;go_simp;exact⟨_,rfl,bR,rfl,JN.slots hJ.o sn⟩
  ·refine fC fun L a w1 hh=>?_;have h1:=hh.p 1 sb 0;have ⟨c0,i0⟩:=(FS.o _ hh.rel).ci 0 rfl;have hJ:=hh.j;clear hh;go_simp;exact⟨_,rfl,bR,rfl,JN.slots hJ.o sn⟩
  ·refine fC fun L a w1 hh=>?_;have h30:=rq (hh.d 1 30);have hJ:=hh.j;clear hh;go_simp;exact⟨_,rfl,bR,rfl,JN.slots hJ.o sn⟩
  ·refine fC fun L a w1 hh=>?_;have h31:=rq (hh.d 2 31);have i0:=(FG.o _ hh.rel).inside;have hJ:=hh.j;clear hh;go_simp;exact⟨_,rfl,bR,rfl,JN.slots hJ.o sn⟩
  ·refine fC fun L a w1 hh=>?_;have h32:=rq (hh.d 3 32);have ⟨c0,i0⟩:=(FG.o _ hh.rel).ci 0 rfl;have hJ:=hh.j;clear hh;go_simp;exact⟨_,rfl,bR,rfl,JN.slots hJ.o sn⟩
  ·refine fC fun L a w1 hh=>?_;have h5:=hh.o 5 (v:=.int .i64 id) rfl;have hJ:=hh.j;clear hh;go_simp;exact⟨_,rfl,bR,rfl,JN.slots hJ.o sn⟩
  ·refine fC fun L a w1 hh=>?_;have Qw:=rq (hh.d 4 33);have UY:=rq (hh.d 5 34);have hinv:=oO (.pointer (some ⟨b,0,none⟩)) (.int .i64 id);have hC:=Hd (FP.o _ hh.rel);have hJ:=hh.j;clear hh;go_simp;refine hC.o.mono ?_;rintro e w9 ⟨rfl,aU⟩;exact⟨_,rfl,aU.mono hJ.o.1.2.1,rfl,JN.slots (JN.below hJ.o aU) sn⟩
  ·refine fC fun L a w1 hh=>?_;have Ag:=rq (hh.d 0 29);have h35:=rq (hh.d 6 35);have hlk:=FV.o _ hh.rel;have hJ:=hh.j;clear hh;go_simp;exact⟨_,rfl,bR,rfl,JN.slots hJ.o sn⟩
  ·refine fC fun L a w1 hh=>?_;have UX:=rq (hh.d 7 36);have hJ:=hh.j;clear hh;go_simp;exact⟨_,rfl,bR,rfl,JN.slots hJ.o sn⟩
  ·refine fC fun L a w1 hh=>?_;have h28:=rq (hh.d 8 28);have hJ:=hh.j;clear hh;go_simp;exact⟨_,rfl,bR,rfl,JN.slots hJ.o sn⟩
  ·refine fC fun L a w1 hh=>?_;have h28:=rq (hh.d 8 28);have hJ:=hh.j;clear hh;go_simp;exact⟨_,rfl,bR,rfl,JN.slots hJ.o sn⟩
  ·refine fC fun L a w1 hh=>?_;have hJ:=Hd hh.st;have hsz:=Hd hh.size;have hun:=Hd hh.un;clear hh;go_simp;exact⟨_,rfl,bR.alloc hJ.o.1.2.1 _,trivial,JN.new hJ.o hun.o (bI.aW (by rw[hsz.o];simp))⟩
  ·refine fC fun L a w1 hh=>?_;have h37:=rq (hh.d 9 37);have hup:=hh.up 11 (by kernel_rfl);obtain⟨g9,h9,kK,fV⟩:=hh.st.2.1 hup;have h6:a.tmps[6]?.getD undef=.pointer (some ⟨g9,0,none⟩):=rq (h9);rw[hh.un] at fV;have hJ:=Hd hh.st;have hun:=Hd hh.un;refine dn 102 _ _ rfl g9 0 (by simpa[go_sem] using h6) (lY d p) (by simpa[go_sem] using h37) _ fV (nE rfl) (by kernel_rfl) (by rfl) ?_;intro w9 mV Cc;have hP:=hJ.o.JU hup hun.o h9 mV Cc rfl;exact⟨undef,rfl,hP.2,trivial,hP.1⟩
  ·refine fC fun L a w1 hh=>?_;have h38:=rq (hh.d 10 38);have hJ:=hh.j;clear hh;go_simp;exact⟨_,rfl,bR,rfl,JN.slots hJ.o sn⟩
  intro L w6 val hL hJ hR hv;have h7:val 7=.bool okb:=hv 13 7 (by kernel_rfl);have vz:=Hd hR;obtain⟨g6,e6,Cb,hB6⟩:=hJ.2.1 (hL 11 (by decide));rw[hL 12 (by decide)] at hB6;have uZ:=Hd (And.intro Cb hB6);clear hv hL hJ hR Cb hB6;simp only[regs.aA,List.map_cons,List.map_nil,h7];simp only[Act.put,List.setIfInBounds_toArray,List.set_cons_zero,List.set_cons_succ];clear h7
  skip
  rw[e6];clear e6;have Nl:Hid (Below W9.heap.size W9 w6):=vz.o;clear vz FV FP FS F4 FG;simp only[Exit.then];cases okb with
  | false=>
   have HD:Hid (bK x id=none):=by
    show _=_;rw[HUP.o,vF.o rfl];rfl
   have HF:=Hd (Jh.o w6 Nl.o HD.o);clear Jh iJ
   gi_wp2_with (fail)
   exact HF.o
  | true=>
   obtain⟨a0W,hcl⟩:=Fb.o rfl;rw[a0W] at HUP;have HDO:=Hd (a4y.o d a0W);have Ju:=Hd hcl;have Gg:=Hd (Ue (xh.o w6 Nl.o).1 HX.o.fit id Nj.o);have hnd:gI x id=x.nd id:=if_pos Js.o;have hws:gZ x id=x.ws id:=if_pos Js.o;have XV:=Hd (fun W (hb:Below W9.heap.size W9 W)=>O5 (xh.o W hb).1 id Nj.o);have ZG:Hid (has x.t id=true):=Js.o;rw[hnd,ZG.o] at Gg;rw[hws,ZG.o] at XV;have HCK:Hid ((x.nd id).chk=0):=HX.o.good id
   have HIT:Hid (∀q,dB x id=some q->q.Ok):=fun q hq=>NV HX.o.good HX.o.fit HX.o.ok HWR.o HN.o (ah.1 Js.o) hq;have HIE:Hid (dB x id=(bK x id).bind fun d=>if (x.nd id).lk.k=0 then none else some ⟨id,x.ws id,d.b,d.c.reverse,d.o,(x.nd id).lk⟩):=rfl;generalize x.nd id=n at *;generalize x.ws id=u at *;have c1:=(xh.o w6 Nl.o).2.1.c 0 rfl;have i1:=(xh.o w6 Nl.o).2.1.inside;clear a0W hcl hnd hws Fb vF a4y ZG
   gi_wp2_with (fail)
   refine⟨trivial,rfl,CallsIn.inRound l ((callsIn_wide (n:=0)).2 (Gg.o.mono ?_))⟩;rintro e w7 ⟨An,cn,rfl,hbN,hoff,hnw⟩;have ZX:Hid (Below W9.heap.size W9 w7):=Nl.o.trans (hbN.mono Nl.o.size);have XK:=Hd (uZ.o.2.below' hbN);have Zi:Hid (Row eW w7 An n.lk.l):=hoff.row;have Zh:Hid (∀a,An=some a->n.lk.l≠[]->W9.heap.size<=a.block):=fun a ea hne=>Nat.le_trans Nl.o.size (hnw a ea hne).1;clear hbN hoff hnw c1 i1 Gg;have MI:Hid (ax (w7.alloc (.cells Va.toArray 109)) w7.heap.size Va):=ay w7 Va _
   have jL:Hid (Below w7.heap.size w7 (w7.alloc (.cells Va.toArray 109))):=bR.alloc nR _
   gi_upto_region 8 with (first|((with_reducible show wpListIn _ _ _ _ _ (Oper.mk _ (Op.store _ _ _) _ _ _ _::_) _ _);first|(refine pF 109 _ _ rfl rfl rfl _ 0 rfl (n.cs An cn) rfl (Va) MI.o (n.cs An cn) rfl (nE rfl) (by kernel_rfl) (Nd.one _ _ _) ?_;intro w8 HW8 Xy)))
   have uX:Hid (Below w7.heap.size w7 w8):=HW8.o.below jL.o nR
   obtain⟨k8,hk8⟩:∃k8,w7.heap.size=k8:=⟨_,rfl⟩
   have RX:Hid (Below W9.heap.size W9 w8):=ZX.o.trans (uX.o.mono ZX.o.size);have a4K:=Hd (XK.o.below' uX.o);have SK:=Hd (Row.below Zi.o uX.o);have HG8:Hid (W9.heap.size<=k8):=by rw[← hk8];exact ZX.o.size
   rw[hk8] at Xy ⊢;clear MI jL HW8 uX ZX XK Zi hk8;have c1:=(xh.o w8 RX.o).2.1.c 0 rfl;have i1:=(xh.o w8 RX.o).2.1.inside;have HWD:=Hd (XV.o w8 RX.o)
   gi_wp2_with (fail)
   refine⟨trivial,rfl,CallsIn.inRound l ((callsIn_wide (n:=0)).2 (HWD.o.mono ?_))⟩;rintro e wA ⟨rfl,Oa⟩;have ZW:Hid (Below W9.heap.size W9 wA):=RX.o.trans (Oa.mono RX.o.size);have a4J:=Hd (a4K.o.below' Oa);have a4o:=Hd (Xy.o.below' Oa);have SI:=Hd (Row.below SK.o Oa);clear Oa c1 i1 XV HWD RX a4K Xy SK;have MI:Hid (ax (wA.alloc (.cells Vd.toArray 39)) wA.heap.size Vd):=ay wA Vd _;have jL:Hid (Below wA.heap.size wA (wA.alloc (.cells Vd.toArray 39))):=bR.alloc nR _
   gi_upto_region 9 with (first|((with_reducible show wpListIn _ _ _ _ _ (Oper.mk _ (Op.store _ _ _) _ _ _ _::_) _ _);first|(refine pF 39 _ _ rfl rfl rfl _ 0 rfl (u.cs) rfl (Vd) MI.o (u.cs) rfl (nE rfl) (by kernel_rfl) (Mp.one1 _) ?_;intro wB HWB HKB)))
   have uX:Hid (Below wA.heap.size wA wB):=HWB.o.below jL.o nR
   obtain⟨kA,hkA⟩:∃kA,wA.heap.size=kA:=⟨_,rfl⟩
   have ZV:Hid (Below W9.heap.size W9 wB):=ZW.o.trans (uX.o.mono ZW.o.size);have a2e:=Hd (a4J.o.below' uX.o);have ZA:=Hd (a4o.o.below' uX.o);have F7:=Hd (Row.below SI.o uX.o);have HGA:Hid (W9.heap.size<=kA):=by rw[← hkA];exact ZW.o.size
   rw[hkA] at HKB ⊢;clear MI jL HWB uX ZW a4J a4o SI hkA;have i6:=a2e.o.inside;have i8:=ZA.o.inside;have iA:=HKB.o.inside;have HTO:=Hd (a0A d p n An cn u wB HDO.o.1 HCK.o (Ju.o.below ZV.o) HDO.o.2)
   gi_wp2_with (first|((with_reducible show wpListIn _ _ _ _ _ (Oper.mk _ (Op.load _ _) _ _ _ _::_) _ _);first|(refine mG 102 _ rfl rfl _ 0 rfl (lY d p) a2e.o (lY d p) rfl _ underlying102 rfl (by kernel_rfl) ?_)|(refine mG 109 _ rfl rfl _ 0 rfl (n.cs An cn) ZA.o (n.cs An cn) rfl _ underlying109 rfl (by kernel_rfl) ?_)|(refine mG 39 _ rfl rfl _ 0 rfl (u.cs) HKB.o (u.cs) rfl _ underlying39 rfl (by kernel_rfl) ?_)))
   refine⟨trivial,rfl,CallsIn.inRound l ((callsIn_wide (n:=0)).2 (HTO.o.mono ?_))⟩;rintro e wC ⟨p2,rfl,a3f,hbC⟩;have ZU:Hid (Below W9.heap.size W9 wC):=ZV.o.trans (hbC.mono ZV.o.size);have a4n:=Hd (ZA.o.below' hbC);have a4m:=Hd (HKB.o.below' hbC);have Rx:=Hd (Row.below F7.o hbC);have a1Z:=Hd a3f;clear hbC a3f HTO i6 i8 iA ZV a2e ZA HKB F7 Ju;have MM:Hid (bK x id=if d.ok n u=true then some (d.to n u) else none):=HUP.o
   obtain⟨d2,hd2⟩:∃d2,d.to n u=d2:=⟨_,rfl⟩
   obtain⟨ok2,hok2⟩:∃ok2,d.ok n u=ok2:=⟨_,rfl⟩
   rw[hd2] at a1Z MM ⊢;rw[hok2] at MM ⊢;clear hd2 hok2 HUP;have MI:Hid (ax (wC.alloc (.cells #[.int .i64 0,.int .i64 0,.int .i64 0,.int .i64 0,.int .i64 0,.int .i64 0,.int .i64 0,.pointer none] 102)) wC.heap.size [.int .i64 0,.int .i64 0,.int .i64 0,.int .i64 0,.int .i64 0,.int .i64 0,.int .i64 0,.pointer none]):=ay wC [.int .i64 0,.int .i64 0,.int .i64 0,.int .i64 0,.int .i64 0,.int .i64 0,.int .i64 0,.pointer none] _
   have jL:Hid (Below wC.heap.size wC (wC.alloc (.cells #[.int .i64 0,.int .i64 0,.int .i64 0,.int .i64 0,.int .i64 0,.int .i64 0,.int .i64 0,.pointer none] 102))):=bR.alloc nR _
   gi_upto_region 10 with (first|((with_reducible show wpListIn _ _ _ _ _ (Oper.mk _ (Op.store _ _ _) _ _ _ _::_) _ _);first|(refine pF 102 _ _ rfl rfl rfl _ 0 rfl (lY d2 p2) rfl ([.int .i64 0,.int .i64 0,.int .i64 0,.int .i64 0,.int .i64 0,.int .i64 0,.int .i64 0,.pointer none]) MI.o (lY d2 p2) rfl (nE rfl) (by kernel_rfl) (YR _ _) ?_;intro wD HWD nz)))
   have uX:Hid (Below wC.heap.size wC wD):=HWD.o.below jL.o nR
   obtain⟨kC,hkC⟩:∃kC,wC.heap.size=kC:=⟨_,rfl⟩
   have Fz:Hid (Below W9.heap.size W9 wD):=ZU.o.trans (uX.o.mono ZU.o.size);have a1T:=Hd (a4n.o.below' uX.o);have a1S:=Hd (a4m.o.below' uX.o);have qX:=Hd (Row.below Rx.o uX.o);have a4C:=Hd (a1Z.o.below uX.o);have HGC:Hid (W9.heap.size<=kC):=by rw[← hkC];exact ZU.o.size
   rw[hkC] at nz ⊢;clear MI jL HWD uX ZU a4n a4m Rx a1Z hkC;cases ok2 with
   | false=>
    have HF:=Hd (Jh.o wD Fz.o (MM.o.trans (if_neg (by decide))));clear Jh iJ
    gi_wp2_with (fail)
    exact HF.o
   | true=>
    have ZK:Hid (bK x id=some d2):=MM.o.trans (if_pos rfl);have HVD:Hid (VM wD m2 es):=Za.o.below Fz.o;obtain⟨wE,hrun,hmE,hgE⟩:=HVD.o.store (t:=zl) (E:=Gz) vK Nj.o (.agg (lY d2 p2).toArray) (by have h1:=iD id (.agg (lY d2 p2).toArray) es;have h2:=HSH.o.few;have h3:=HLEN.o;have h4:=HJB.o;omega);have Zu:=Hd hmE;have ZH:=Hd hgE;have OY:Hid (m2<W9.heap.size):=Za.o.inside;have c4:=(xh.o wD Fz.o).2.2.1.c 0 rfl;have i4:=(xh.o wD Fz.o).2.2.1.inside;have iC:=nz.o.inside;clear hmE hgE MM Jh
    gi_upto_region 12 with (first|((with_reducible show wpListIn _ _ _ _ _ (Oper.mk _ (Op.load _ _) _ _ _ _::_) _ _);first|(refine mG 102 _ rfl rfl _ 0 rfl (lY d2 p2) nz.o (lY d2 p2) rfl _ underlying102 rfl (by kernel_rfl) ?_)))
    have HTE:Hid (ae (WG b3 m2 v) (WG b3 m2 v) W9 wE):=(ae.below Fz.o).trans (ae.grown ZH.o fun k e=>.inr (.inl (Option.some.inj e).symm));have Zy:Hid (ax wE k8 (n.cs An cn)):=a1T.o.stays (ZH.o.block _ a1T.o.inside fun e=>by have:=Option.some.inj e;have:=HG8.o;have:=OY.o;omega);have a4l:Hid (ax wE kA u.cs):=a1S.o.stays (ZH.o.block _ a1S.o.inside fun e=>by have:=Option.some.inj e;have:=HGA.o;have:=OY.o;omega)
    have a4k:Hid (ax wE kC (lY d2 p2)):=nz.o.stays (ZH.o.block _ nz.o.inside fun e=>by have:=Option.some.inj e;have:=HGC.o;have:=OY.o;omega);have Rx:Hid (Row eW wE An n.lk.l):=Row.stays qX.o fun a ea hne=>ZH.o.block _ (Row.lt qX.o ea hne) fun e=>by have:=Option.some.inj e;have:=Zh.o a ea hne;have:=OY.o;omega
    have hnm:∀(k:Nat) (cu:Array Value) (T:TypeId) (fr:Nat×Nat),wD.heap[k]?=some (Obj.cells cu T fr)->wE.heap[k]?=wD.heap[k]?:=fun k cu T fr h=>ZH.o.block _ (Array.getElem?_eq_some_iff.1 h).1 fun e=>by
     obtain⟨es0,clock,h0,_⟩:=HVD.o.own;have:=Option.some.inj e;subst this;rw[h0] at h;cases h
    have a4B:Hid (yC wE p2 d2.c):=a4C.o.keep fun k cu fr h=>hnm k cu _ fr h
    have a3K:Hid (Shown x wE (omap.put lt id (.agg (lY d2 p2).toArray) es) T1):=by
     show Shown _ _ _ _;rw[yw.o.2.2];refine(HSH.o.keep fun k cu fr h=>?_).put yw.o.1 yw.o.2.1 ZK.o a4B.o;have h1:wD.heap[k]?=W9.heap[k]?:=Fz.o.block k (Array.getElem?_eq_some_iff.1 h).1;exact(hnm k cu _ fr (h1.trans h)).trans h1
    have XA:Hid (Its wE w5.heap.size v li):=(HITS.o.below Fz.o).stays fun k hk1 hk2=>ZH.o.block k hk2 fun e=>by have:=Option.some.inj e;have:=MN.o;omega
    have Z5:Hid (ak wE b3 [v] kN):=(Np.o.stays (Fz.o.block _ Np.o.inside)).stays (ZH.o.block _ (Nat.lt_of_lt_of_le Np.o.inside Fz.o.size) fun e=>by have:=Option.some.inj e;have:=MN.o;omega);have c13:=Zy.o.c 13 rfl;have i8:=Zy.o.inside;rw[ZK.o,Option.bind_some] at HIE;clear hnm c4 i4 iC hrun ZH HVD qX a4C a1T a1S nz HSH HITS Np;by_cases hk0:n.lk.k=0
    ·rw[hk0] at c13;rw[if_pos hk0] at HIE;have HF:=Hd (iJ.o wE v li _ HTE.o Z5.o XA.o (by rw[RP.o,Zw.o,HIE.o];simp) Zu.o a3K.o);clear hk0 iJ
     gi_wp2_with (fail)
     exact HF.o
    ·have q0:(n.lk.k != 0)=true:=by simpa using hk0
     rw[if_neg hk0] at HIE
     obtain⟨it,hit⟩:∃it:It,(⟨id,u,d2.b,d2.c.reverse,d2.o,n.lk⟩:It)=it:=⟨_,rfl⟩
     obtain⟨rc,hrc⟩:∃rc,d2.c.reverse=rc:=⟨_,rfl⟩
     have SI:=Hd hrc;rw[hit] at HIE;rw[hrc] at hit;have a4t:=Hd hit
     have hS:∀k,Bd b3 v k->k<W9.heap.size:=fun k e=>by
      have h1:=MN.o;have h2:=OY.o;rcases e with e|e
      ·omega
      ·exact HVN.o k e
     have OQ:=Hd hS
     obtain⟨B9,fV⟩:∃B9,W9.heap.size=B9:=⟨_,rfl⟩
     rw[fV] at OQ HG8 HGA HGC Zh;have ZY:Hid (w5.heap.size<=B9):=by rw[← fV];exact HK.o.size
     have FM:Hid (∀W,ae (Bd b3 v) (Bd b3 v) wE W->ax W k8 (n.cs An cn)∧ax W kA u.cs∧ax W kC (lY d2 p2)∧Row eW W An n.lk.l∧yC W p2 d2.c):=fun W ht=>by
      have hf:∀k,B9<=k->k<wE.heap.size->W.heap[k]?=wE.heap[k]?:=fun k h1 h2=>(ht.far k h2 fun e=>by have:=OQ.o k e;omega).2;refine⟨Zy.o.stays (hf _ HG8.o Zy.o.inside),a4l.o.stays (hf _ HGA.o a4l.o.inside),a4k.o.stays (hf _ HGC.o a4k.o.inside),Row.stays Rx.o (fun a ea hne=>hf _ (Zh.o a ea hne) (Row.lt Rx.o ea hne)),a4B.o.keep fun k cu fr h=>(ht.far k (Array.getElem?_eq_some_iff.1 h).1 fun e=>?_).2⟩;rcases e with e|e
      ·rw[e,Z5.o] at h
       injection h with h
       injection h with _ h _
       exact absurd h (by decide)
      ·obtain⟨cu0,h0⟩:=XA.o.own.typed e;rw[h0] at h
       injection h with h
       injection h with _ h _
       exact absurd h (by decide)
     have nJ:Hid (d2.c.length<=2000):=by
      have h:=(HIT.o it HIE.o).few;rw[← a4t.o,← SI.o] at h;show _<=_
      simpa using h
     have FL:Hid (∀W,ae (Bd b3 v) (Bd b3 v) wE W->Calls prog 28 #[pv p2] W fun e w'=>∃g9,e=.returned (.slice (some ⟨g9,0,none⟩) rc.length d2.c.length)∧W.heap.size<=g9∧ax w' g9 (rc.flatMap Cl.cs)∧bz W w'):=fun W ht=>by
      rw[← SI.o,List.length_reverse];exact QT d2.c p2 W (FM.o W ht).2.2.2.2 nJ.o
     have XI:Hid (B9<=wE.heap.size):=by rw[← fV];exact HTE.o.size
     have BH:Hid (∀v',AJ w5.heap.size b3 v li it false false v' wE.drew):=fun v'=>⟨fun _=>Z5.o.stays rfl,fun _=>XA.o.below bR.drew,nofun,nofun,by have:=MN.o;omega,by have:=ZY.o;have:=XI.o;show _<=wE.heap.size;omega⟩
     have HLI:Hid (li.length<=2000):=by
      have h1:=congrArg List.length Zw.o;rw[List.length_map] at h1;have h2:=List.length_filterMap_le (dB x) T0;have h3:=HLEN.o;have h4:=HJB.o;show _<=_;omega
     have F8:Hid (∀W,ae (Bd b3 v) (Bd b3 v) wE W->ax W k8 (n.cs An cn)):=fun W ht=>(FM.o W ht).1;have FA:Hid (∀W,ae (Bd b3 v) (Bd b3 v) wE W->ax W kA u.cs):=fun W ht=>(FM.o W ht).2.1;have FC:Hid (∀W,ae (Bd b3 v) (Bd b3 v) wE W->ax W kC (lY d2 p2)):=fun W ht=>(FM.o W ht).2.2.1;have FE:Hid (∀W,ae (Bd b3 v) (Bd b3 v) wE W->B9<=W.heap.size):=fun W ht=>Nat.le_trans XI.o ht.size;clear fV
     gi_upto_region 13 with (fail)
     clear c13 i8 q0
     refine Dh.dK (ae (Bd b3 v) (Bd b3 v)) (fun L V wx=>AJ w5.heap.size b3 v li it (L 14) (L 15) (V 83) wx∧(L 15=true->L 0=true)∧(L 15=true->L 14=true)) [69,70,71,72,73,74,75,76,77,78,79,80,81,82,83] (by kernel_rfl) (by kernel_rfl) (by kernel_rfl) (fun _=>ae.refl _ _) (fun _ _ _ h k=>h.trans k) (fun i=>(match i with
      |0=>rV (v)
      |1=>rV (.int .i64 id)
      |2=>rV (.agg (u.cs).toArray)
      |3=>rp kC 0
      |4=>rV (.agg (d2.b.cs).toArray)
      |5=>rp kC 7
      |6=>rV (pv p2)
      | 7=>(⟨fun v9 wv=>∃g9,v9=.slice (some ⟨g9,0,none⟩) rc.length d2.c.length∧E8 B9 rc wv g9,fun v9 wa wb h hb=>by
   obtain⟨g9,e,hc⟩:=h
   exact⟨g9,e,hc.turn OQ.o hb⟩⟩:regs.jO (ae (Bd b3 v) (Bd b3 v)))
      |8=>rp kC 6
      |9=>rV (.int .i64 (d2.o:Nat))
      |10=>rp k8 13
      |11=>rV (.agg (n.lk.cs An cn).toArray)
      | 12=>(⟨fun v9 wv=>∃g9,v9=.agg (gQ.cs (⟨⟨id,u,d2.b,rc,d2.o,n.lk⟩,some ⟨g9,0,none⟩,d2.c.length,An,cn⟩:gQ)).toArray∧E8 B9 rc wv g9,fun v9 wa wb h hb=>by
   obtain⟨g9,e,hc⟩:=h
   exact⟨g9,e,hc.turn OQ.o hb⟩⟩:regs.jO (ae (Bd b3 v) (Bd b3 v)))
      | 13=>(⟨fun v9 wv=>∃g9 gs,v9=.slice (some ⟨gs,0,none⟩) 1 1∧E8 B9 rc wv g9∧ax wv gs (gQ.cs (⟨⟨id,u,d2.b,rc,d2.o,n.lk⟩,some ⟨g9,0,none⟩,d2.c.length,An,cn⟩:gQ))∧B9<=gs,fun v9 wa wb h hb=>by
   obtain⟨g9,gs,e,hc,hb8,KW⟩:=h
   exact⟨g9,gs,e,hc.turn OQ.o hb,hb8.stays (hb.far _ hb8.inside fun e=>by have:=OQ.o _ e;omega).2,KW⟩⟩:regs.jO (ae (Bd b3 v) (Bd b3 v)))
      | _=>ra:regs.jO (ae (Bd b3 v) (Bd b3 v))).p) (fun _=>regs.jO.mono _) (by kernel_rfl) (ae.below bR.drew) (⟨BH.o _,nofun,nofun⟩) ⟨?_,?_,?_,?_,?_,?_,?_,?_,?_,?_,?_,?_,?_,?_,?_,?_,trivial⟩ ?_
     ·refine fC fun L a w1 hh=>?_;have h3:=hh.p 3 b3 0;have hbx:=hh.st.1.box (bQ hh.st.2.1 hh.un);have c0:w1.cell? ⟨b3,0,none⟩=some v:=hbx.blk.cell 0;have i0:=hbx.inside;clear hbx;have hJ:=Hd hh.st;have hsz:=Hd hh.size;clear hh;go_simp;exact⟨_,rfl,ae.refl _ _,rfl,AJ.slots hJ.o.1 sn,(fun _=>rfl),hJ.o.2.2⟩
     ·refine fC fun L a w1 hh=>?_;have h5:=hh.o 5 (v:=.int .i64 id) rfl;have hJ:=hh.j;clear hh;go_simp;exact⟨_,rfl,ae.refl _ _,rfl,⟨AJ.slots hJ.o.1 sn,hJ.o.2⟩⟩
     ·refine fC fun L a w1 hh=>?_;have h10:=hh.p 10 kA 0;have hB:=Hd (FA.o _ hh.rel);have hJ:=Hd hh.st;exact aI 39 _ rfl kA 0 (by simpa[go_sem] using h10) _ hB.o (u.cs) rfl _ underlying39 rfl (by kernel_rfl) ⟨_,rfl,ae.refl _ _,rfl,⟨AJ.slots hJ.o.1 sn,hJ.o.2⟩⟩
     ·refine fC fun L a w1 hh=>?_;have h12:=hh.p 12 kC 0;have i0:=(FC.o _ hh.rel).inside;have hJ:=hh.j;clear hh;go_simp;exact⟨_,rfl,ae.refl _ _,rfl,⟨AJ.slots hJ.o.1 sn,hJ.o.2⟩⟩
     ·refine fC fun L a w1 hh=>?_;have h72:=rq (hh.d 3 72);have hB:=Hd (FC.o _ hh.rel);have hJ:=Hd hh.st;exact aI 41 _ rfl kC 0 (by simpa[go_sem] using h72) _ hB.o (d2.b.cs) rfl _ underlying41 rfl (by kernel_rfl) ⟨_,rfl,ae.refl _ _,rfl,⟨AJ.slots hJ.o.1 sn,hJ.o.2⟩⟩
     ·refine fC fun L a w1 hh=>?_;have h12:=hh.p 12 kC 0;have i0:=(FC.o _ hh.rel).inside;have hJ:=hh.j;clear hh;go_simp;exact⟨_,rfl,ae.refl _ _,rfl,⟨AJ.slots hJ.o.1 sn,hJ.o.2⟩⟩
     ·refine fC fun L a w1 hh=>?_;have h74:=rq (hh.d 5 74);have ⟨c0,i0⟩:=(FC.o _ hh.rel).ci 7 rfl;have hJ:=hh.j;clear hh;go_simp;exact⟨_,rfl,ae.refl _ _,rfl,⟨AJ.slots hJ.o.1 sn,hJ.o.2⟩⟩
     ·refine fC fun L a w1 hh=>?_;have h75:=rq (hh.d 6 75);have hC:=Hd (FL.o w1 hh.rel);have hE:=Hd (FE.o w1 hh.rel);have hJ:=Hd hh.st;have hsz:=Hd hh.size;clear hh;go_simp;refine hC.o.mono ?_;rintro e w9 ⟨g9,rfl,kK,aU,hbw⟩;exact⟨_,rfl,ae.below hbw,⟨g9,rfl,aU,Nat.le_trans hE.o kK⟩,AJ.slots (hJ.o.1.below hbw) sn,hJ.o.2⟩
     ·refine fC fun L a w1 hh=>?_;have h12:=hh.p 12 kC 0;have i0:=(FC.o _ hh.rel).inside;have hJ:=hh.j;clear hh;go_simp;exact⟨_,rfl,ae.refl _ _,rfl,⟨AJ.slots hJ.o.1 sn,hJ.o.2⟩⟩
     ·refine fC fun L a w1 hh=>?_;have h77:=rq (hh.d 8 77);have ⟨c0,i0⟩:=(FC.o _ hh.rel).ci 6 rfl;have hJ:=hh.j;clear hh;go_simp;exact⟨_,rfl,ae.refl _ _,rfl,⟨AJ.slots hJ.o.1 sn,hJ.o.2⟩⟩
     ·refine fC fun L a w1 hh=>?_;have h8:=hh.p 8 k8 0;have i0:=(F8.o _ hh.rel).inside;have hJ:=hh.j;clear hh;go_simp;exact⟨_,rfl,ae.refl _ _,rfl,⟨AJ.slots hJ.o.1 sn,hJ.o.2⟩⟩
     ·refine fC fun L a w1 hh=>?_;have h79:=rq (hh.d 10 79);have hB:=Hd (F8.o _ hh.rel);have hJ:=Hd hh.st;exact aI 49 _ rfl k8 13 (by simpa[go_sem] using h79) _ hB.o (n.lk.cs An cn) rfl _ underlying49 rfl (by kernel_rfl) ⟨_,rfl,ae.refl _ _,rfl,⟨AJ.slots hJ.o.1 sn,hJ.o.2⟩⟩
     ·refine fC fun L a w1 hh=>?_;have h70:=rq (hh.d 1 70);have h71:=rq (hh.d 2 71);have h73:=rq (hh.d 4 73);have h78:=rq (hh.d 9 78);have h80:=rq (hh.d 11 80)
      obtain⟨g9,e76,Ii⟩:=(show ∃g9,a.tmps.getD 76 undef=.slice (some ⟨g9,0,none⟩) rc.length d2.c.length∧E8 B9 rc w1 g9 from hh.d 7 76)
      have h76:a.tmps[76]?.getD undef=.slice (some ⟨g9,0,none⟩) rc.length d2.c.length:=rq (e76);have hJ:=Hd hh.st;exact wp_build _ _ rfl (by simp[go_sem,h70,h71,h73,h76,h78,h80]) (Wh (⟨⟨id,u,d2.b,rc,d2.o,n.lk⟩,some ⟨g9,0,none⟩,d2.c.length,An,cn⟩:gQ) w1) ⟨_,rfl,ae.refl _ _,⟨g9,rfl,Ii⟩,⟨AJ.slots hJ.o.1 sn,hJ.o.2⟩⟩
     ·refine fC fun L a w1 hh=>?_
      obtain⟨g9,e81,Ii⟩:=(show ∃g9,a.tmps.getD 81 undef=.agg (gQ.cs (⟨⟨id,u,d2.b,rc,d2.o,n.lk⟩,some ⟨g9,0,none⟩,d2.c.length,An,cn⟩:gQ)).toArray∧E8 B9 rc w1 g9 from hh.d 12 81)
      have h81:a.tmps[81]?.getD undef=.agg (gQ.cs (⟨⟨id,u,d2.b,rc,d2.o,n.lk⟩,some ⟨g9,0,none⟩,d2.c.length,An,cn⟩:gQ)).toArray:=rq (e81);have hJ:=Hd hh.st;have hE:=FE.o w1 hh.rel;have hal:bz w1 (w1.alloc (.cells (gQ.cs (⟨⟨id,u,d2.b,rc,d2.o,n.lk⟩,some ⟨g9,0,none⟩,d2.c.length,An,cn⟩:gQ)).toArray Gy)):=bR.alloc nR _
      exact yX _ _ _ rfl (by simp[go_sem,h81]) (a3s (⟨⟨id,u,d2.b,rc,d2.o,n.lk⟩,some ⟨g9,0,none⟩,d2.c.length,An,cn⟩:gQ) w1) ⟨_,rfl,ae.below hal,⟨g9,_,rfl,Ii.turn OQ.o (ae.below hal),ay w1 _ _,hE⟩,AJ.slots (hJ.o.1.below hal) sn,hJ.o.2⟩
     ·refine fC fun L a w1 hh=>?_;have h69:=rq (hh.d 0 69)
      obtain⟨g9,gs,e82,Ii,hb8,KW⟩:=(show ∃g9 gs,a.tmps.getD 82 undef=.slice (some ⟨gs,0,none⟩) 1 1∧E8 B9 rc w1 g9∧ax w1 gs (gQ.cs (⟨⟨id,u,d2.b,rc,d2.o,n.lk⟩,some ⟨g9,0,none⟩,d2.c.length,An,cn⟩:gQ))∧B9<=gs from hh.d 13 82)
      have h82:a.tmps[82]?.getD undef=.slice (some ⟨gs,0,none⟩) 1 1:=rq (e82);have hJ:=Hd hh.st;have hsz:=Hd hh.size;have hun:=Hd hh.un;have hns:=bQ hh.st.2.2 hh.un;have hj1:=hh.st.1;rw[hns] at hj1;have hr:=(FM.o w1 hh.rel).2.2.2.1;have hE:=FE.o w1 hh.rel;have hown:∀k,v.ownBlock=some k->k<B9:=fun k e=>OQ.o k (.inr e)
      obtain⟨v9,w9,hrn,KQ,kK,-⟩:=(hj1.own hh.un).app (⟨⟨id,u,d2.b,rc,d2.o,n.lk⟩,some ⟨g9,0,none⟩,d2.c.length,An,cn⟩:gQ) (g:=gs) (c:=1) (pJ (l:=[(⟨⟨id,u,d2.b,rc,d2.o,n.lk⟩,some ⟨g9,0,none⟩,d2.c.length,An,cn⟩:gQ)]) gQ.aZ (by simpa using hb8)) ⟨pJ Cl.aZ Ii.1,hr⟩ ⟨fun a ea _=>by cases ea;exact⟨by have:=ZY.o;have:=Ii.2;show w5.heap.size<=g9;omega,fun e=>by have:=hown _ e;have:=Ii.2;simp only at *;omega⟩,fun a ea hne=>⟨by have:=ZY.o;have:=Zh.o a ea hne;omega,fun e=>by have:=hown _ e;have:=Zh.o a ea hne;omega⟩⟩ HLI.o (by have:=ZY.o;omega)
      exact vG _ _ kN kN kN rfl rfl (by simpa[go_sem] using h69) (by simpa[go_sem] using h82) hrn ⟨v9,rfl,ae.grown kK (fun k e=>.inr e),trivial,AJ.a5o hJ.o.1 hns a4t.o KQ (bI.aW (by rw[hsz.o];simp)) (kK.block _ (Nat.lt_of_lt_of_le (hj1.box rfl).inside nR) (fun e=>by have h1:=(hj1.own hh.un).own.block e.symm;have:=hj1.lt;omega)) kK.size,(fun _=>hh.up 0 (by kernel_rfl)),fun _=>rfl⟩
     ·refine fC fun L a w1 hh=>?_;have h3:=hh.p 3 b3 0;have hup:=hh.up 14 (by kernel_rfl);have hj1:=hh.st.1;rw[hh.un,hup] at hj1;have hB:=hj1.box rfl;have c0:w1.cell? ⟨b3,0,none⟩=some v:=hB.blk.cell 0;have f0:=hB.blk.free 0;have i0:=hB.inside;obtain⟨q9,-,hi9⟩:=hj1.app rfl;obtain⟨A9,n9,c9,e9⟩:=hi9.own.shape;have e83:a.tmps.getD 83 undef=.slice A9 n9 c9:=e9;have h83:a.tmps[83]?.getD undef=.slice A9 n9 c9:=rq (e83);have ZE:=Hd hj1;have hul:=Hd (hh.up 0 (by kernel_rfl));have YD:=Hd hup;have a5X:=Hd e83;have hun:=Hd hh.un;have hJ:=Hd hh.st;clear hh hB hup hj1 e83 e9 hi9;go_simp
      exact⟨ae.set (.inl rfl) _,⟨undef,trivial⟩,AJ.a2u (iA:=L 14) hJ.o.1 YD.o hun.o a5X.o,(fun _=>hul.o),fun _=>YD.o⟩
     intro L w14 val hL hJ hR hv;have a3N:=Hd hR;have haj:=hJ.1;rw[hL 14 (by decide),hL 15 (by decide)] at haj;obtain⟨q9,N9,hi9⟩:=haj.app rfl;have aU:=haj.sto rfl;have Xg:=Hd N9;have HI9:=Hd hi9;have sS:=Hd aU;clear hv hL hJ hR haj N9 hi9 aU;simp only[regs.aA,List.map_cons,List.map_nil];simp only[Act.put,List.setIfInBounds_toArray,List.set_cons_zero,List.set_cons_succ]
     skip
     have a5v:Hid (ae (WG b3 m2 v) (WG b3 m2 v) W9 w14):=HTE.o.trans (a3N.o.widen fun k e=>e.elim .inl fun e=>.inr (.inr e))
     have hsame:∀k,k<wE.heap.size->(k=b3->False)->(v.ownBlock=some k->False)->w14.heap[k]?=wE.heap[k]?:=fun k h1 h2 h3=>(a3N.o.far k h1 fun e=>by
      rcases e with e|e
      ·exact h2 e
      ·exact h3 e).2
     have a5s:Hid (VM w14 m2 (omap.put lt id (.agg (lY d2 p2).toArray) es)):=Zu.o.stays (hsame m2 Zu.o.inside (fun e=>by have:=MN.o;omega) fun e=>by have h1:=(XA.o.own.block e).1;have:=MN.o;omega)
     have a5y:Hid (Shown x w14 (omap.put lt id (.agg (lY d2 p2).toArray) es) T1):=a3K.o.keep fun k cu fr h=>by
      refine hsame k (Array.getElem?_eq_some_iff.1 h).1 (fun e=>?_) fun e=>?_
      ·rw[e,Z5.o] at h
       injection h with h
       injection h with _ h _
       exact absurd h (by decide)
      ·obtain⟨cu0,h0⟩:=XA.o.own.typed e;rw[h0] at h
       injection h with h
       injection h with _ h _
       exact absurd h (by decide)
     have HF:=Hd (iJ.o w14 _ _ _ a5v.o sS.o HI9.o (by rw[List.map_append,RP.o,Zw.o,HIE.o,List.map_cons,Xg.o];rfl) a5s.o a5y.o);clear iJ hsame
     gi_wp2_with (fail)
     exact HF.o
end
section
open Go.RowKit fK fZ aB Go.Maps
theorem Tj:aB.walk xX 0=[0,1]:=by decide
theorem UT:has xX 0=true:=by decide
theorem UR:has xX 1=true:=by decide
theorem VH{y:aJ}(ht:y.t=xX):bK y 1=Dn.step (y.nd 1) (y.ws 1) (Dn.step (y.nd 0) (y.ws 0) (some Dn.top)):=by
 have h:=mW (x:=y) (by (try show Below _ _ _);rw[ht];exact LW) (i:=1) (by (try show Below _ _ _);rw[ht];exact LX);rw[h,ht,show par xX 1=0 from by decide,uJ]
theorem Qh{y:aJ}(ht:y.t=xX)(h0:(y.nd 0).lk.k=0):items y=(dB y 1).toList:=by
 have e0:dB y 0=none:=by
  unfold dB;cases bK y 0 with
  | none=>rfl
  | some d=>rw[Option.bind_some,if_pos h0]
 unfold items;rw[ht,Tj,List.filterMap_cons,e0];cases h:dB y 1 with
 | none=>rw[List.filterMap_cons,h];rfl
 | some q=>rw[List.filterMap_cons,h];rfl
theorem a0v{y:aJ}(hy:sN y)(ht:y.t=xX):y.ws 0=(y.nd 0).m∧((y.nd 1).m.dW [(y.nd 0).m]).2=0∧((y.nd 1).m.dW [(y.nd 0).m]).1=y.ws 1:=by
 have h0:=hy.set 0 (by (try show Below _ _ _);rw[ht];exact UT) (fun _ _ h=>h) (fun h=>h);have h1:=hy.set 1 (by (try show Below _ _ _);rw[ht];exact UR) (fun _ _ h=>h) (fun h=>h);rw[ht] at h0 h1;rw[iQ] at h0;rw[jg LW _ LX,show par xX 1=0 from by decide,iQ] at h1
 injection h0 with h0
 simp only[Gj,Option.bind_some] at h1;split at h1
 ·injection h1 with h1
  exact⟨h0.symm,by assumption,h1⟩
 ·cases h1
theorem I5{M:Int}{x:aJ}{l:List dJ}(h:(bU M setSt x l).2.2=0):(bU M setSt x l).1.t=(aQ M x l).1.t∧(bU M setSt x l).1.nd=(aQ M x l).1.nd∧(aQ M x l).2.2=0:=by
 unfold bU at h ⊢;by_cases h1:1024<l.length
 ·rw[if_pos h1] at h;cases h
 ·rw[if_neg h1] at h ⊢;by_cases h2:(aQ M x l).2.2≠0
  ·rw[if_pos h2] at h;exact absurd h h2
  ·rw[if_neg h2] at h ⊢;by_cases h3:(setSt (aQ M x l).1).2≠0
   ·rw[if_pos h3] at h;exact absurd h h3
   ·rw[if_neg h3];exact⟨tN _,tV _,Decidable.not_not.1 h2⟩
def SB:dJ:={ dJ.o with k:=1,i:=1 }
def Du:dJ:={ dJ.o with k:=4,i:=1,m:=⟨65536,0,0,65536,65536,0⟩ }
def Lj:dJ:={ dJ.o with k:=7,i:=1,lk:=⟨1,2,1,255,0,0,[]⟩ }
def QC:dJ:={ dJ.o with k:=6,N:=128 }
def U7:List dJ:=[SB,Du,Lj,QC]
theorem a0k{o:dJ}(h:o∈U7):lV o∧o.lk.l=[]:=by
 simp only[U7,List.mem_cons,List.not_mem_nil,or_false] at h;rcases h with rfl|rfl|rfl|rfl<;>exact⟨⟨⟨by decide,by decide⟩,⟨by decide,by decide⟩,⟨by decide,(by intro z hz;cases hz),by decide⟩⟩,rfl⟩
def flN:Int->Nd:=upd (upd (upd (upd (fun _=>Nd.plain) 1 Nd.plain) 1 (bJ Nd.plain Du)) 1 (bJ (bJ Nd.plain Du) Lj)) 0 (bJ Nd.plain QC)
theorem Lh:aQ 9 aJ.new U7=(⟨xX,flN,upd (fun _=>Mp.one) 1 Mp.o⟩,4,0):=by
 have e1:fD 9 aJ.new SB=(⟨xX,upd (fun _=>Nd.plain) 1 Nd.plain,upd (fun _=>Mp.one) 1 Mp.o⟩,0):=rfl;have e2:fD 9 ⟨xX,upd (fun _=>Nd.plain) 1 Nd.plain,upd (fun _=>Mp.one) 1 Mp.o⟩ Du=(⟨xX,upd (upd (fun _=>Nd.plain) 1 Nd.plain) 1 (bJ Nd.plain Du),upd (fun _=>Mp.one) 1 Mp.o⟩,0):=rfl;have e3:fD 9 ⟨xX,upd (upd (fun _=>Nd.plain) 1 Nd.plain) 1 (bJ Nd.plain Du),upd (fun _=>Mp.one) 1 Mp.o⟩ Lj=(⟨xX,upd (upd (upd (fun _=>Nd.plain) 1 Nd.plain) 1 (bJ Nd.plain Du)) 1 (bJ (bJ Nd.plain Du) Lj),upd (fun _=>Mp.one) 1 Mp.o⟩,0):=rfl
 have e4:fD 9 ⟨xX,upd (upd (upd (fun _=>Nd.plain) 1 Nd.plain) 1 (bJ Nd.plain Du)) 1 (bJ (bJ Nd.plain Du) Lj),upd (fun _=>Mp.one) 1 Mp.o⟩ QC=(⟨xX,flN,upd (fun _=>Mp.one) 1 Mp.o⟩,0):=rfl;unfold U7;rw[bW,e1];simp only[ne_eq,not_true_eq_false,if_false];rw[bW,e2];simp only[ne_eq,not_true_eq_false,if_false];rw[bW,e3];simp only[ne_eq,not_true_eq_false,if_false];rw[bW,e4];simp only[ne_eq,not_true_eq_false,if_false];rfl
theorem QB:aT xX flN 1=some ⟨65536,0,0,65536,65536,0⟩:=by
 rw[jg LW _ LX,show par xX 1=0 from by decide,iQ]
 decide
noncomputable def XQ:aJ:=(bU 9 setSt aJ.new U7).1
theorem a08:(setSt ⟨xX,flN,upd (fun _=>Mp.one) 1 Mp.o⟩).2=0:=by
 unfold setSt;rw[if_pos fun i hi=>?_];rcases a1v hi with rfl|rfl
 ·show aT xX flN 0≠none;rw[iQ];simp
 ·show aT xX flN 1≠none;rw[QB];simp
theorem uG:bU 9 setSt aJ.new U7=(XQ,4,0):=by
 have h:(bU 9 setSt aJ.new U7).2=(4,0):=by
  unfold bU;rw[if_neg (by decide),Lh,if_neg (by simp),if_neg (by rw[a08];simp)];rfl
 unfold XQ;rw[← h]
theorem Iw:sN XQ:=by
 have:=aJ.zO.apply (M:=9) (l:=U7) fun o ho=>(a0k ho).1;rw[uG] at this;exact this
theorem Oc:XQ.t=xX:=by
 have h:=(I5 (by rw[uG]:(bU 9 setSt aJ.new U7).2.2=0)).1;rw[Lh] at h;exact h
theorem EM:XQ.nd=flN:=by
 have h:=(I5 (by rw[uG]:(bU 9 setSt aJ.new U7).2.2=0)).2.1;rw[Lh] at h;exact h
def YL:It:=⟨1,⟨65536,0,0,65536,65536,0⟩,⟨65536,0,0,65536,65536,0⟩,[],128,⟨1,2,1,255,0,0,[]⟩⟩
theorem U4:items XQ=[YL]:=by
 obtain⟨h0,-,h1⟩:=a0v Iw Oc;rw[EM] at h0 h1;have e0:XQ.ws 0=Mp.one:=h0;have e1:XQ.ws 1=⟨65536,0,0,65536,65536,0⟩:=by rw[← h1];decide
 rw[Qh Oc (by rw[EM];rfl)]
 have hd:bK XQ 1=some ⟨⟨65536,0,0,65536,65536,0⟩,128,[]⟩:=by
  rw[VH Oc,e0,e1,EM]
  decide
 unfold dB;rw[hd,e1,EM];rfl
theorem qK:YL.covers 1 0=true∧YL.covers 2 0=true∧YL.covers 0 0=false∧YL.covers 1 1=false∧YL.at_ 2 0=128∧YL.at_ 3 0=0:=by decide
theorem a09:YL.Ok:=⟨by decide,(by intro c hc;cases hc),by decide,by decide,by decide,by decide,by decide,(by intro z hz;cases hz)⟩
end
section
open Go.RowKit fK fZ aB Go.Maps
end
end Go.Proofs.YtekdoeilpheklaaGreat
