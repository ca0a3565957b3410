import Derived.Test.YtekdoeilpheklaaGreatWFlE
import Derived.Sort.CutIn
set_option maxHeartbeats 16000000
set_option maxRecDepth 100000
open Go.Proofs.Tryz
namespace Go.Proofs.YtekdoeilpheklaaGreat
section
open Go.RowKit fH fV aF Go.Maps CG Go.Shelf
attribute [local go_sem] Oper.semAt_some
theorem RX(w:World):(Instr.build Hz #[(1,.int .i64 255)]).run prog w=.ok (.agg (mJ Dn.top none).toArray) w:=by kernel_rfl
theorem Lu(w:World):(Instr.makeMap zO none).run prog w=.ok (.map (some w.heap.size)) (w.alloc (.map #[] 0)):=rfl
structure Kv(x y:Nat)(A W:World):Prop where
 os:W.os=A.os
 tape:W.tape=A.tape
 output:W.output=A.output
 size:A.heap.size<=W.heap.size
 same:∀k,k<A.heap.size->k≠x->k≠y->W.heap[k]?=A.heap[k]?
theorem Kv.refl(x y:Nat)(A:World):Kv x y A A:=⟨rfl,rfl,rfl,nR,fun _ _ _ _=>rfl⟩
theorem Kv.bk{x y:Nat}{A W W':World}(h:Kv x y A W)(hb:Bk A.heap.size W W'):Kv x y A W':=⟨hb.os.trans h.os,hb.tape.trans h.tape,hb.output.trans h.output,Nat.le_trans h.size hb.size,fun k hk h1 h2=>(hb.low (Nat.lt_of_lt_of_le hk h.size) hk).trans (h.same k hk h1 h2)⟩
theorem Kv.aV{x y n:Nat}{A W:World}(h:Kv x y A W)(hx:n<=x)(hy:n<=y)(hs:n<=A.heap.size):Below n A W:=⟨h.os,h.tape,h.output,h.size,fun k hk=>h.same k (by omega) (by omega) (by omega)⟩
def BM(x:Nat)(v:Value):bJ:=fun k=>k=x∨v.ownBlock=some k
def Xm(x y:Nat)(v:Value):bJ:=fun k=>k=x∨k=y∨v.ownBlock=some k
theorem Kv.turn{x y:Nat}{v:Value}{A W W':World}(h:Kv x y A W)(ht:ae (Xm x y v) (Xm x y v) W W')(hv:∀k,v.ownBlock=some k->A.heap.size<=k):Kv x y A W':=⟨ht.os.trans h.os,ht.tape.trans h.tape,ht.output.trans h.output,Nat.le_trans h.size ht.size,fun k hk h1 h2=>by
 have e:¬Xm x y v k:=fun e=>by
  rcases e with e|e|e
  ·exact h1 e
  ·exact h2 e
  ·have:=hv k e;omega
 exact(ht.far k (Nat.lt_of_lt_of_le hk h.size) e).2.trans (h.same k hk h1 h2)⟩
theorem ae.widen{S T:bJ}{w w':World}(h:ae S S w w')(hs:∀k,S k->T k):ae T T w w':=⟨h.os,h.tape,h.output,h.size,fun k hk hn=>⟨hn,(h.far k hk fun e=>hn (hs k e)).2⟩⟩
def Pz(x:aO)(w:World)(e:Ending)(w':World):Prop:=∃A c l,e=.returned (.slice A l.length c)∧aT 22 iG.cs w' A l∧(∀q∈l,pI w' q∧q.it.Ok∧(∀a,q.Ac=some a->q.it.c≠[]->w.heap.size<=a.block)∧∀a,q.A=some a->q.it.lk.l≠[]->w.heap.size<=a.block)∧l.map (·.it)=items x∧(∀a,A=some a->l≠[]->w.heap.size<=a.block)∧bz w w'
structure LsI(x:aO)(w5:World)(b3 m2:Nat)(j:Nat)(W:World):Prop where
 ky:Kv b3 m2 w5 W
 ex:∃v l es,ak W b3 [v] kU∧Its W w5.heap.size v l∧l.map (·.it)=((aF.walk x.t 0).take j).filterMap (dD x)∧VM W m2 es∧Shown x W es ((aF.walk x.t 0).take j)
theorem VM.bk{w w':World}{m B:Nat}{es:LV}(h:VM w m es)(hb:Bk B w w'):VM w' m es:=h.stays (by
 obtain⟨es',clock,h1,_⟩:=h.own
 exact(hb.keep h1 rfl).trans h1.symm)
theorem LsI.bk{x:aO}{w5 W W':World}{b3 m2 j:Nat}(h:LsI x w5 b3 m2 j W)(hb:Bk w5.heap.size W W'):LsI x w5 b3 m2 j W':=⟨h.ky.bk hb,by
 obtain⟨v,l,es,h1,h2,h3,h4,h5⟩:=h.ex
 exact⟨v,l,es,h1.bk hb,h2.bk hb,h3,h4.bk hb,h5.bk hb⟩⟩
theorem YF{ib db x y base:Nat}{v1 v2:Value}{l1 l2:List Int}{w:World}(hx:x<base)(hy:y<base)(h1:base<=ib)(h2:base<=db)(b1:ak w ib [v1] bV)(b2:ak w db [v2] bV)(o1:aU w base v1 l1)(o2:aU w base v2 l2) :
  ∃A1 A2 c1 c2,∀W,Kv x y w W->Nq ib db A1 A2 c1 c2 l1 l2 W:=by
 obtain⟨A1,c1,e1,-,-,r1⟩:=aU.kV o1;obtain⟨A2,c2,e2,-,-,r2⟩:=aU.kV o2;refine⟨A1,A2,c1,c2,fun W hk=>?_⟩
 have o1':aU W base v1 l1:=aj.stays o1 fun k hk'=>by
  have:=aj.block o1 hk';exact hk.same k this.2 (by omega) (by omega)
 have o2':aU W base v2 l2:=aj.stays o2 fun k hk'=>by
  have:=aj.block o2 hk';exact hk.same k this.2 (by omega) (by omega)
 obtain⟨A1',c1',e1',-,-,r1'⟩:=aU.kV o1';obtain⟨A2',c2',e2',-,-,r2'⟩:=aU.kV o2';have f1:=e1.symm.trans e1';have f2:=e2.symm.trans e2'
 injection f1 with f1 _ _
 injection f2 with f2 _ _
 have q1:=(b1.stays (hk.same ib b1.inside (by omega) (by omega))).blk.cell 0;have q2:=(b2.stays (hk.same db b2.inside (by omega) (by omega))).blk.cell 0;rw[e1]at q1;rw[e2]at q2;exact⟨q1,q2,by rw[f1];exact r1',by rw[f2];exact r2'⟩
theorem a01(x:aO)(w:World):Shown x w (omap.put lt (-1) (.agg (mJ Dn.top none).toArray) []) []:=
 ⟨by rw[omap.dC,if_pos rfl],(fun _ h=>nomatch h),(fun _ h=>nomatch h),fun i _ h1=>by rw[omap.dC,if_neg h1];rfl,by have:=iI (-1) (.agg (mJ Dn.top none).toArray) [];simpa using this⟩
theorem a2R{x:aO}(hg:Good x)(ok:Ok x.t)(hw:∀i,has x.t i=true->(x.ws i).right=true)(hn:x.t.length<=900){i:Int}(hi:i=0∨i∈ids x.t){d:Dn}(h:Hq x i=some d):d.o<256∧d.c.length<=1900:=by
 unfold Hq at h;by_cases h0:i=0
 ·rw[if_pos h0]at h
  injection h with e
  rw[←e];exact⟨by decide,by decide⟩
 ·rw[if_neg h0]at h;have hp:par x.t i=0∨par x.t i∈ids x.t:=ok.pin _ (kF (hi.resolve_left h0));have h1:=OW hg ok hw hp d h;have h2:=lY ok hp;exact⟨h1.o,by have:=h1.len;omega⟩
theorem qg{α:Type}{k:Nat}{enc:α->List Value}{w:World}{g:Nat}{l:List α}(hk:∀x,(enc x).length=k)(h:ax w g (l.flatMap enc)):aT k enc w (some ⟨g,0,none⟩) l:=fun _=>⟨g,0,rfl,fun j hj i v hv=>by
 rw[Nat.zero_add,h.cell]
 exact qY hk hj hv⟩
theorem WV(q:iG)(w:World):(Instr.build Hy #[(0,.int .i64 q.it.i),(1,.agg q.it.w.cs.toArray),(2,.agg q.it.b.cs.toArray),(3,.slice q.Ac q.it.c.length q.cc),(4,.int .i64 (q.it.o:Nat)),(5,.agg (q.it.lk.cs q.A q.c).toArray)]).run prog w=.ok (.agg q.cs.toArray) w:=by kernel_rfl
theorem a3T(q:iG)(w:World):(Instr.buildSlice kU 1 #[(0,.agg q.cs.toArray)]).run prog w=.ok (.slice (some ⟨w.heap.size,0,none⟩) 1 1) (w.alloc (.cells q.cs.toArray Hy)):=by kernel_rfl
structure AJ(base b3:Nat)(v:Value)(li:List iG)(it:It)(iA iS:Bool)(v':Value)(w:World):Prop where
 box:iS=false->ak w b3 [v] kU
 own:iA=false->Its w base v li
 app:iA=true->∃q,q.it=it∧Its w base v' (li++[q])
 sto:iS=true->ak w b3 [v'] kU
 lt:b3<base∧base<=w.heap.size
section
variable {base b3:Nat}{v v' u:Value}{li:List iG}{it:It}{iA iS:Bool}{w w':World}
theorem AJ.below(h:AJ base b3 v li it iA iS v' w)(hb:bz w w'):AJ base b3 v li it iA iS v' w':=⟨fun e=>(h.box e).stays (hb.block _ (h.box e).inside),fun e=>(h.own e).below hb,fun e=>by
 obtain⟨q,h1,h2⟩:=h.app e
 exact⟨q,h1,h2.below hb⟩,fun e=>(h.sto e).stays (hb.block _ (h.sto e).inside),h.lt.1,Nat.le_trans h.lt.2 hb.size⟩
theorem AJ.slots(h:AJ base b3 v li it iA iS v' w)(e:u=v'):AJ base b3 v li it iA iS u w:=by rw[e];exact h
theorem AJ.a5M(h:AJ base b3 v li it iA iS v' w)(hi:iS=false){q:iG}(hq:q.it=it){v9:Value}(h2:Its w' base v9 (li++[q]))(e:u=v9)(hb:w'.heap[b3]?=w.heap[b3]?)(hs:w.heap.size<=w'.heap.size):AJ base b3 v li it true iS u w':=by
 subst hi e;exact⟨fun _=>(h.box rfl).stays hb,nofun,fun _=>⟨q,hq,h2⟩,nofun,h.lt.1,Nat.le_trans h.lt.2 hs⟩
theorem AJ.a2W(h:AJ base b3 v li it iA iS u w)(hA:iA=true)(hS:iS=false){v9:Value}(e:u=v9):AJ base b3 v li it iA true u (w.setCell ⟨b3,0,none⟩ v9):=by
 subst hA hS e
 exact⟨nofun,nofun,fun _=>by
  obtain⟨q,h1,h2⟩:=h.app rfl
  exact⟨q,h1,h2.stays fun k hk _=>heap_setCell_other _ _ _ _ (by have:=h.lt.1;show k≠b3;omega)⟩,fun _=>(h.box rfl).set 0 u,h.lt.1,by have:=h.lt.2;simpa[World.setCell]using this⟩
end
def Gp(B:Nat)(c:List Cl)(w:World)(g:Nat):Prop:=ax w g (c.flatMap Cl.cs)∧B<=g
theorem Gp.turn{S:bJ}{B:Nat}{c:List Cl}{w w':World}{g:Nat}(hS:∀k,S k->k<B)(h:Gp B c w g)(ht:ae S S w w'):Gp B c w' g:=⟨h.1.stays (ht.far _ h.1.inside fun e=>by have:=hS _ e;have:=h.2;omega).2,h.2⟩
theorem IM{w:World}{g b m:Nat}{s:Sh}{Z:ZZ}{x:aO}(h:au w g b m s Z x)(hx:tN x)(hn:x.t.length<=900) :
  Calls prog 8 #[.pointer (some ⟨g,0,none⟩)] w (Pz x w):=by
 have HS:=Hd h;have HX:=Hd hx;have HN:=Hd hn;have HWR:Hid (∀i,has x.t i=true->(x.ws i).right=true):=fun i hi=>mY hx.ok (fun i=>(hx.good i) |> fun h=>(kP h).1) (ai.1 hi) _ (hx.set i hi (fun _ _ h=>h) (fun h=>h));have HXL:Hid ((aF.walk x.t 0).length=x.t.length+1):=uo hx.ok;have HXM:Hid (∀i,i∈aF.walk x.t 0↔has x.t i=true):=fun i=>jy hx.ok;unfold Pz;clear h hx hn;have HB0:Hid (Below w.heap.size w ((w.alloc (.cells #[.pointer (some ⟨g,0,none⟩)] 25)).alloc (.cells #[.slice none 0 0] 33))):=(bR.alloc nR _).alloc (by simp) _
 have gJ:Hid (ak ((w.alloc (.cells #[.pointer (some ⟨g,0,none⟩)] 25)).alloc (.cells #[.slice none 0 0] 33)) w.heap.size [.pointer (some ⟨g,0,none⟩)] 25):=(ak.new w [.pointer (some ⟨g,0,none⟩)] _).al _;have dI:Hid (ak ((w.alloc (.cells #[.pointer (some ⟨g,0,none⟩)] 25)).alloc (.cells #[.slice none 0 0] 33)) (w.heap.size+1) [.slice none 0 0] 33):=nI (w.alloc _) _ (by simp) [.slice none 0 0] _;have JO:Hid (((w.alloc (.cells #[.pointer (some ⟨g,0,none⟩)] 25)).alloc (.cells #[.slice none 0 0] 33)).heap.size=w.heap.size+2):=by show _=_;simp
 refine dS func8 rfl ?_;simp only[ntmps8,List.size_toArray,List.length_cons,List.length_nil,Nat.reduceAdd,Nat.reduceSub,Array.replicate_succ,Array.replicate_zero,List.push_toArray,List.append_toArray,List.nil_append,List.cons_append]
 go_upto_region 2 with(fail)
 generalize ((w.alloc (.cells #[.pointer (some ⟨g,0,none⟩)] 25)).alloc (.cells #[.slice none 0 0] 33))=w0 at*;have hmk:=Lu w0;have hm1:VM (w0.alloc (.map #[] 0)) w0.heap.size []:=VM.made w0;have G8:=Hd hm1;have hb1:Below w0.heap.size w0 (w0.alloc (.map #[] 0)):=bR.alloc nR _;have a2K:Hid (Below w0.heap.size w0 (w0.alloc (.map #[] 0))):=hb1;have HB1:Hid (Below w.heap.size w (w0.alloc (.map #[] 0))):=HB0.o.trans (hb1.mono HB0.o.size);obtain⟨⟨q0,-,-,-,-,-⟩,qi⟩:=(HS.o.below HB1.o).top
 have cs1:(w0.alloc (.map #[] 0)).cell? ⟨w.heap.size,0,none⟩=some (.pointer (some ⟨g,0,none⟩)):=(gJ.o.al _).blk.cell 0;have csi:w.heap.size<(w0.alloc (.map #[] 0)).heap.size:=(gJ.o.al _).inside;have HTP:=Hd (yZ (HS.o.below HB1.o).tree 0 (by constructor<;>decide));have hinv:=o5 (.pointer (some ⟨b,0,none⟩)) (.int .i64 0);rw[par_none (E8 HX.o.ok)]at HTP;clear hm1 hb1;go_wp2_with (fail);refine HTP.o.mono ?_;rintro e w2 ⟨rfl,hb2⟩;have ED:=Hd (G8.o.below hb2);have a2J:Hid (Below w0.heap.size w0 w2):=a2K.o.trans (hb2.mono a2K.o.size)
 clear hb2 G8 HB1 a2K hmk q0 qi cs1 csi hinv HTP
 obtain⟨m2,hm2⟩:=aB w0.heap.size
 rw[hm2]at ED ⊢;have HMZ:Hid (w0.heap.size=m2):=hm2;clear hm2;obtain⟨w3,hrun,VP,hg3⟩:=ED.o.store (t:=zO) (E:=Hz) wM (i:=-1) ⟨by decide,by decide⟩ (.agg (mJ Dn.top none).toArray) (by decide);have uj:=Hd VP;have lH:Hid (Below w0.heap.size w0 w3):=a2J.o.grown hg3 a2J.o.size fun k hk=>by cases hk;exact Nat.le_of_eq HMZ.o
 clear VP hg3 ED a2J
 go_upto_region 3 with(first|((with_reducible refine gU ?_);refine dH _ _ rfl rfl (by simp[go_sem]) (RX _) ?_))
 have a2G:Hid (Below w3.heap.size w3 (w3.alloc (.cells #[.map (some m2)] 103))):=bR.alloc nR _;have mG:Hid (ak (w3.alloc (.cells #[.map (some m2)] 103)) w3.heap.size [.map (some m2)] 103):=ak.new w3 [.map (some m2)] _;have gZ:Hid (VM (w3.alloc (.cells #[.map (some m2)] 103)) m2 (omap.put lt (-1) (.agg (mJ Dn.top none).toArray) [])):=uj.o.below a2G.o;have jr:Hid (Below w0.heap.size w0 (w3.alloc (.cells #[.map (some m2)] 103))):=lH.o.trans (a2G.o.mono lH.o.size);have PH:Hid (m2<w3.heap.size):=uj.o.inside
 obtain⟨b4,hb4⟩:=aB w3.heap.size
 rw[hb4]at mG PH ⊢;clear hb4 lH uj a2G hrun;generalize (w3.alloc (.cells #[.map (some m2)] 103))=w4 at*;have Gy:=Hd (HB0.o.trans (jr.o.mono HB0.o.size));have X0:Hid (ak w4 w.heap.size [.pointer (some ⟨g,0,none⟩)] 25):=gJ.o.stays (jr.o.block _ gJ.o.inside);have a0f:Hid (ak w4 (w.heap.size+1) [.slice none 0 0] 33):=dI.o.stays (jr.o.block _ dI.o.inside)
 have XQ:Hid (w.heap.size+1<m2∧m2<b4):=⟨by have:=dI.o.inside;have:=HMZ.o;omega,PH.o⟩
 clear gJ dI HB0 jr HMZ PH JO;obtain⟨⟨q0,-,-,-,-,-⟩,qi⟩:=(HS.o.below Gy.o).top;have cs1:w4.cell? ⟨w.heap.size,0,none⟩=some (.pointer (some ⟨g,0,none⟩)):=X0.o.blk.cell 0;have csi:=X0.o.inside;have HTW:=Hd (a2S (HS.o.below Gy.o).tree (by have:=HN.o;omega));have hinv:=VF (.pointer (some ⟨b,0,none⟩));go_wp2_with (fail);refine HTW.o.mono ?_;rintro e w5 ⟨ib,db,v1,v2,rfl,hi1,hi2,hx1,hx2,ho1,ho2,hb5⟩;clear q0 qi cs1 csi hinv HTW;have iq:=Hd (Gy.o.trans (hb5.mono Gy.o.size))
 have a2s:Hid (ak w5 w.heap.size [.pointer (some ⟨g,0,none⟩)] 25):=X0.o.stays (hb5.block _ X0.o.inside);have a4Q:Hid (ak w5 (w.heap.size+1) [.slice none 0 0] 33):=a0f.o.stays (hb5.block _ a0f.o.inside);have a2r:Hid (ak w5 b4 [.map (some m2)] 103):=mG.o.stays (hb5.block _ mG.o.inside);have rY:Hid (VM w5 m2 (omap.put lt (-1) (.agg (mJ Dn.top none).toArray) [])):=gZ.o.below hb5
 obtain⟨b3,hb3⟩:=aB (w.heap.size+1)
 have HB3:=Hd hb3;rw[hb3]at a4Q XQ ⊢
 obtain⟨sb,hsb⟩:=aB w.heap.size
 have HSB:=Hd hsb;rw[hsb]at a2s ⊢;have hz3:b3<w4.heap.size:=by have:=a0f.o.inside;omega
 have hz4:m2<w4.heap.size:=by have:=mG.o.inside;have:=XQ.o;omega
 obtain⟨B1,B2,d1,d2,a3v⟩:=YF (x:=b3) (y:=m2) hz3 hz4 hi1 hi2 hx1 hx2 ho1 ho2;have HPR:=Hd a3v
 have HXW:Hid (∀j (h:j<(aF.walk x.t 0).length),(sU x.t)[j]?.getD 0=(aF.walk x.t 0)[j]∧(xA x.t)[j]?.getD 0=(depth x.t (aF.walk x.t 0)[j]:Nat)):=fun j h=>by
  have hj2:j<(wd x.t 0 0).length:=by rw[nP];exact h
  have e:=a2Q hj2 h;rw[sU,xA,List.getElem?_map,List.getElem?_map,List.getElem?_eq_getElem hj2,e];exact⟨rfl,rfl⟩
 have HEL:Hid ((rU (sU x.t) (xA x.t)).length=(aF.walk x.t 0).length):=by show _=_;rw[qQ,sU,List.length_map,nP]
 have HIL:Hid ((sU x.t).length=(aF.walk x.t 0).length∧(xA x.t).length=(sU x.t).length):=by show _∧_;rw[xA,sU,List.length_map,List.length_map,nP];exact⟨rfl,rfl⟩
 have ND:Hid (sb<b3∧b3<m2∧m2<b4∧b4<w5.heap.size):=⟨by omega,XQ.o.1,XQ.o.2,a2r.o.inside⟩
 have Ym:Hid (∀W,Kv b3 m2 w5 W->au W g b m s Z x∧Below w.heap.size w W∧ak W sb [.pointer (some ⟨g,0,none⟩)] 25∧ak W b4 [.map (some m2)] 103):=fun W hk=>by
  have h1:=ND.o;have h2:Below w.heap.size w W:=iq.o.trans (hk.aV (by omega) (by omega) iq.o.size);exact⟨HS.o.below h2,h2,a2s.o.stays (hk.same _ a2s.o.inside (by omega) (by omega)),a2r.o.stays (hk.same _ a2r.o.inside (by omega) (by omega))⟩
 clear hi1 hi2 hx1 hx2 ho1 ho2 hb5 a3v hz3 hz4 hsb hb3 X0 a0f mG gZ XQ Gy;go_wp2_with (fail)
 refine nU (gf:=197) (lb:=#[.pointer (some ⟨ib,0,none⟩),.pointer (some ⟨db,0,none⟩)]) rfl (enters_of func197 af rfl) (es:=rU (sU x.t) (xA x.t)) (R:=fun _=>Eq)
  (Kp:=fun A B=>Nq ib db B1 B2 d1 d2 (sU x.t) (xA x.t) A->Nq ib db B1 B2 d1 d2 (sU x.t) (xA x.t) B)
  (fun W1 hb=>Qr (by have h1:=HIL.o.1;have h2:=HXL.o;have:=HN.o;omega) HIL.o.2 (HPR.o W1 ((Kv.refl _ _ _).bk hb))) (fun h k x=>k (h x)) (fun A B hb h=>h.cells fun a v=>iQ hb) (fun n A B e k o _ hk _=>e ▸ hk)
  (fun e he=>by obtain⟨j,_,rfl⟩:=List.mem_map.1 he;rfl)
  (fun k W=>LsI x w5 b3 m2 k W)
  (fun _ _ _=>False) (fun k A B h hr=>?hI) (fun _ _ _ _ h _=>h.elim) ⟨Kv.refl _ _ _,.slice none 0 0,[],_,a4Q.o,Its.nil _ _,rfl,rY.o,a01 _ _⟩ ?a1 ?assign ?body ?done (fun _ _ _ _ _ _ h _=>h.elim)
 case hI=>
  rcases hr with ⟨n,hn,rfl⟩|hb
  ·exact h
  ·exact h.bk hb
 case assign=>
  intro l j hj W9 KK VS;rw[Iw]
  gi_wp2
  exact VS
 case done=>
  rintro D W9 hD ⟨hk,v,li,es,hb3,hits,hmap,hvm,hsh⟩ hdd
  have HIS:Hid (li.map (·.it)=items x):=by
   show _=_;rw[hmap,HEL.o,List.take_length];rfl
  have HITS:=Hd hits;have HDD:=Hd hdd;have HD1:Hid (w5.heap.size<=D):=hD;have TK:Hid (Below w.heap.size w W9):=(Ym.o W9 hk).2.1;have c3:W9.cell? ⟨b3,0,none⟩=some v:=hb3.blk.cell 0;have i3:=hb3.inside
  have NI:Hid (∀q∈li,q.it.Ok):=fun q hq=>by
   have h1:q.it∈items x:=by rw[←HIS.o];exact List.mem_map_of_mem hq
   obtain⟨i,hi,he⟩:=List.mem_filterMap.1 h1;exact OB HX.o.good HX.o.fit HX.o.ok HWR.o HN.o (ai.1 ((HXM.o i).1 hi)) he
  obtain⟨A,n9,c,rfl⟩:=hits.own.shape;clear hk hb3 hits hmap hvm hsh hdd hD;go_wp2_with (fail)
  refine fU w5.heap.size ⟨⟨D,rfl,HD1.o,HDD.o,by simp⟩,trivial⟩ fun w' hb=>⟨_,results_tmp rfl _ _ _,?_⟩
  have h5:=iq.o.size;have hI:=HITS.o.bk hb;obtain⟨A',c',e',-,-,hrow⟩:=hI.own.row iG.aZ
  injection e' with e1 e2 e3
  subst e1 e2 e3;refine⟨_,_,li,rfl,hrow,fun q hq=>⟨(hI.at_ q hq).1,NI.o q hq,fun a ea hne=>Nat.le_trans h5 ((hI.at_ q hq).2.c a ea hne).1,fun a ea hne=>Nat.le_trans h5 ((hI.at_ q hq).2.p a ea hne).1⟩,HIS.o,fun a ea hne=>?_,TK.o.trans (hb.below h5 TK.o.size)⟩;obtain⟨g0,c0,e0,-⟩:=hI.own.row0 iG.aZ (List.length_pos_iff.2 hne);have h0:=(hI.own.block (g:=g0) (by rw[e0];rfl)).1;rw[ea]at e0
  injection e0 with e0 _ _
  injection e0 with e0
  rw[e0];exact Nat.le_trans h5 h0
 case body=>
  rintro l j hj W9 ⟨hk,v,li,es,hb3,hits,hmap,hvm,hsh⟩;have hjX:j<(aF.walk x.t 0).length:=by rw[HEL.o]at hj;exact hj
  obtain⟨h1,h2⟩:=HXW.o j hjX;have J8:Hid (has x.t (aF.walk x.t 0)[j]=true):=(HXM.o _).1 (List.getElem_mem hjX);obtain⟨d,p,okb,hlk,hsm,hyes,hno⟩:=hsh.look HX.o.ok hjX;obtain⟨hnw,hn1,htk⟩:=Uh HX.o.ok hjX;have HJB:Hid (j<=900):=by have:=HXL.o;have:=HN.o;show _<=_;omega
  have SX:=Hd (qx (dD x) hjX);have yO:=Hd (And.intro hnw (And.intro hn1 htk));have HLEN:Hid (((aF.walk x.t 0).take j).length=j):=by show _=_;rw[List.length_take];omega
  rw[h1,h2];generalize (aF.walk x.t 0)[j]=id at*;generalize hT1:(aF.walk x.t 0).take (j+1)=T1 at*;have HT1:=Hd hT1;clear hT1;generalize (aF.walk x.t 0).take j=T0 at*;generalize hdx:depth x.t id=dx at*;have NU:Hid (I64 id):=kW HX.o.ok J8.o
  have HPI:Hid (I64 (par x.t id)):=by
   by_cases h0:id=0
   ·rw[h0,par_none (E8 HX.o.ok)];constructor<;>decide
   ·rcases HX.o.ok.pin _ (kF ((ai.1 J8.o).resolve_left h0)) with e|e
    ·simp only at e;rw[e];constructor<;>decide
    ·exact kW HX.o.ok (ai.2 (.inr e))
  have a4X:=Hd (fun d h=>a2R HX.o.good HX.o.ok HWR.o HN.o (ai.1 J8.o) (d:=d) h);have HUP:Hid (bU x id=Dn.step (x.nd id) (x.ws id) (Hq x id)):=Rj HX.o.ok (ai.1 J8.o);have Gs:=Hd hyes;have uh:=Hd hno;have HK:=Hd hk;have NY:=Hd hb3;have HITS:=Hd hits;have a0a:=Hd hmap;have ZH:=Hd hvm;have HSH:=Hd hsh;have HVN:Hid (∀k,v.ownBlock=some k->k<W9.heap.size):=fun k e=>(hits.own.block e).2;have HVB:Hid (∀k,v.ownBlock=some k->w5.heap.size<=k):=fun k e=>(hits.own.block e).1
  have HST:Hid (∀W,ae (Xm b3 m2 v) (Xm b3 m2 v) W9 W->au W g b m s Z x∧Below w.heap.size w W∧ak W sb [.pointer (some ⟨g,0,none⟩)] 25∧ak W b4 [.map (some m2)] 103∧Kv b3 m2 w5 W):=fun W ht=>by
   have h:=HK.o.turn ht HVB.o;obtain⟨a1,a2,a3,a4⟩:=Ym.o W h;exact⟨a1,a2,a3,a4,h⟩
  have xI:Hid (∀W,Below W9.heap.size W9 W->au W g b m s Z x∧ax W sb [.pointer (some ⟨g,0,none⟩)]∧ax W b4 [.map (some m2)]∧VM W m2 es):=fun W hb=>by
   obtain⟨a1,a2,a3,a4,-⟩:=HST.o W (ae.below hb);exact⟨a1,a3.blk,a4.blk,ZH.o.below hb⟩
  -- what a round leaves,if nothing of what is told changes
  have iP:Hid (∀W v' li' es',ae (Xm b3 m2 v) (Xm b3 m2 v) W9 W->ak W b3 [v'] kU->Its W w5.heap.size v' li'->li'.map (·.it)=T1.filterMap (dD x)->VM W m2 es'->Shown x W es' T1 ->
    KB W9 W∧(Nq ib db B1 B2 d1 d2 (sU x.t) (xA x.t) W9->Nq ib db B1 B2 d1 d2 (sU x.t) (xA x.t) W)∧LsI x w5 b3 m2 (j+1) W):=fun W v' li' es' ht a1 a2 a3 a4 a5=>by
   obtain⟨-,-,-,-,hky⟩:=HST.o W ht;refine⟨fun k o hk9 ho=>(ht.far k (Array.getElem?_eq_some_iff.1 hk9).1 fun e=>?_).2.trans hk9,fun _=>HPR.o W hky,hky,v',li',es',a1,a2,by rw[HT1.o];exact a3,a4,by rw[HT1.o];exact a5⟩;rcases e with e|e|e
   ·rw[e,NY.o]at hk9;cases hk9;cases ho
   ·obtain⟨es0,clock,h0,_⟩:=ZH.o.own;rw[e,h0]at hk9;cases hk9;cases ho
   ·obtain⟨cu,h0⟩:=HITS.o.own.typed e;rw[h0]at hk9;cases hk9;cases ho
  have JQ:Hid (∀W,Below W9.heap.size W9 W->bU x id=none->KB W9 W∧(Nq ib db B1 B2 d1 d2 (sU x.t) (xA x.t) W9->Nq ib db B1 B2 d1 d2 (sU x.t) (xA x.t) W)∧LsI x w5 b3 m2 (j+1) W):=fun W hb hd=>by
   refine iP.o W v li es (ae.below hb) (NY.o.stays (hb.block _ NY.o.inside)) (HITS.o.below hb) ?_ (ZH.o.below hb) ?_
   ·rw[SX.o,a0a.o,show dD x id=none from by unfold dD;rw[hd];rfl];simp
   ·rw[yO.o.2.2];exact(HSH.o.keep fun k cu fr hk=>hb.block _ (Array.getElem?_eq_some_iff.1 hk).1).skip yO.o.1 yO.o.2.1 hd
  have FV:Hid (∀W,Below W9.heap.size W9 W->(Instr.lookup zO (.map (some m2)) (.int .i64 (par x.t id)) true).run prog W=.ok (.tuple #[.agg (mJ d p).toArray,.bool okb]) W):=fun W hb=>by
   have h:=(xI.o W hb).2.2.2.look_ok wM (PT W) HPI.o;rw[hlk,hsm]at h;exact h
  have FP:Hid (∀W,Below W9.heap.size W9 W->Calls prog 194 #[.pointer (some ⟨b,0,none⟩),.int .i64 id] W (aJ (.int .i64 (par x.t id)) W)):=fun W hb=>yZ (xI.o W hb).1.tree id NU.o;have FS:Hid (∀W,Below W9.heap.size W9 W->ax W sb [.pointer (some ⟨g,0,none⟩)]):=fun W hb=>(xI.o W hb).2.1;have F4:Hid (∀W,Below W9.heap.size W9 W->ax W b4 [.map (some m2)]):=fun W hb=>(xI.o W hb).2.2.1;have FG:Hid (∀W,Below W9.heap.size W9 W->ax W g (sccs b m Z)):=fun W hb=>(xI.o W hb).1.blk.blk;generalize par x.t id=pp at*
  clear hk hb3 hits hmap hvm hsh hlk hsm hyes hno hnw hn1 htk h1 h2 hj hjX hdx HXW;refine wpIn_block (wpIn_seq ?_)
  refine DY.dO (Below W9.heap.size) (fun L V wx=>JN W9.heap.size [] ([.int .i64 0,.int .i64 0,.int .i64 0,.int .i64 0,.int .i64 0,.int .i64 0,.int .i64 0,.pointer none]) (mJ d p) (L 11) (L 12) (V 6) wx) [29,30,31,32,33,34,35,36,28,37,38,6,7] af af af (fun _=>bR) (fun _ _ _ h k=>h.trans k) (fun i=>(match i with
   |0=>rV (.map (some m2))
   |1|2|3=>rp g 0
   |4=>rV (.iface 94 (.pointer (some ⟨b,0,none⟩)))
   |5=>rV (.int .i64 id)
   |6=>rV (.int .i64 pp)
   |7|8=>rV (.tuple #[.agg (mJ d p).toArray,.bool okb])
   |9=>rV (.agg (mJ d p).toArray)
   |10|13=>rV (.bool okb)
   |_=>ra:regs.kD (Below W9.heap.size)).p) (fun _=>regs.kD.mono _) af (bR.drew) (JN.start (old:=[]) trivial) ⟨?_,?_,?_,?_,?_,?_,?_,?_,?_,?_,?_,?_,?_,?_,trivial⟩ ?_
  ·refine fE fun L a w1 hh=>?_;have h4:=hh.p 4 b4 0;have ⟨c0,i0⟩:=(F4.o _ hh.rel).ci 0 rfl;have hJ:=hh.j;clear hh;go_simp;exact⟨_,rfl,bR,rfl,JN.slots hJ.o sn⟩
  ·refine fE fun L a w1 hh=>?_;have h1:=hh.p 1 sb 0;have ⟨c0,i0⟩:=(FS.o _ hh.rel).ci 0 rfl;have hJ:=hh.j;clear hh;go_simp;exact⟨_,rfl,bR,rfl,JN.slots hJ.o sn⟩
  ·refine fE fun L a w1 hh=>?_;have h30:=rq (hh.d 1 30);have hJ:=hh.j;clear hh;go_simp;exact⟨_,rfl,bR,rfl,JN.slots hJ.o sn⟩
  ·refine fE fun L a w1 hh=>?_;have h31:=rq (hh.d 2 31);have i0:=(FG.o _ hh.rel).inside;have hJ:=hh.j;clear hh;go_simp;exact⟨_,rfl,bR,rfl,JN.slots hJ.o sn⟩
  ·refine fE fun L a w1 hh=>?_;have h32:=rq (hh.d 3 32);have ⟨c0,i0⟩:=(FG.o _ hh.rel).ci 0 rfl;have hJ:=hh.j;clear hh;go_simp;exact⟨_,rfl,bR,rfl,JN.slots hJ.o sn⟩
  ·refine fE fun L a w1 hh=>?_;have h5:=hh.o 5 (v:=.int .i64 id) rfl;have hJ:=hh.j;clear hh;go_simp;exact⟨_,rfl,bR,rfl,JN.slots hJ.o sn⟩
  ·refine fE fun L a w1 hh=>?_;have OM:=rq (hh.d 4 33);have TB:=rq (hh.d 5 34);have hinv:=o5 (.pointer (some ⟨b,0,none⟩)) (.int .i64 id);have hC:=Hd (FP.o _ hh.rel);have hJ:=hh.j;clear hh;go_simp;refine hC.o.mono ?_;rintro e w9 ⟨rfl,aS⟩;exact⟨_,rfl,aS.mono hJ.o.1.2.1,rfl,JN.slots (JN.below hJ.o aS) sn⟩
  ·refine fE fun L a w1 hh=>?_;have yw:=rq (hh.d 0 29);have h35:=rq (hh.d 6 35);have hlk:=FV.o _ hh.rel;have hJ:=hh.j;clear hh;go_simp;exact⟨_,rfl,bR,rfl,JN.slots hJ.o sn⟩
  ·refine fE fun L a w1 hh=>?_;have TA:=rq (hh.d 7 36);have hJ:=hh.j;clear hh;go_simp;exact⟨_,rfl,bR,rfl,JN.slots hJ.o sn⟩
  ·refine fE fun L a w1 hh=>?_;have h28:=rq (hh.d 8 28);have hJ:=hh.j;clear hh;go_simp;exact⟨_,rfl,bR,rfl,JN.slots hJ.o sn⟩
  ·refine fE fun L a w1 hh=>?_;have h28:=rq (hh.d 8 28);have hJ:=hh.j;clear hh;go_simp;exact⟨_,rfl,bR,rfl,JN.slots hJ.o sn⟩
  ·refine fE fun L a w1 hh=>?_;have hJ:=Hd hh.st;have hsz:=Hd hh.size;have hun:=Hd hh.un;clear hh;go_simp;exact⟨_,rfl,bR.alloc hJ.o.1.2.1 _,trivial,JN.new hJ.o hun.o (bM.aY (by rw[hsz.o];simp))⟩
  ·refine fE fun L a w1 hh=>?_;have h37:=rq (hh.d 9 37);have hup:=hh.up 11 af;obtain⟨g9,h9,jk,fA⟩:=hh.st.2.1 hup;have h6:a.tmps[6]?.getD undef=.pointer (some ⟨g9,0,none⟩):=rq (h9);rw[hh.un]at fA;have hJ:=Hd hh.st;have hun:=Hd hh.un;refine dB 102 _ _ rfl g9 0 (by simpa[go_sem]using h6) (mJ d p) (by simpa[go_sem]using h37) _ fA (nE rfl) af (by rfl) ?_;intro w9 nD Di;have hP:=hJ.o.KN hup hun.o h9 nD Di rfl;exact⟨undef,rfl,hP.2,trivial,hP.1⟩
  ·refine fE fun L a w1 hh=>?_;have h38:=rq (hh.d 10 38);have hJ:=hh.j;clear hh;go_simp;exact⟨_,rfl,bR,rfl,JN.slots hJ.o sn⟩
  intro L w6 val hL hJ hR hv;have h7:val 7=.bool okb:=hv 13 7 af;have yM:=Hd hR;obtain⟨g6,e6,Dh,hB6⟩:=hJ.2.1 (hL 11 (by decide));rw[hL 12 (by decide)]at hB6;have vV:=Hd (And.intro Dh hB6);clear hv hL hJ hR Dh hB6;simp only[regs.aC,List.map_cons,List.map_nil,h7];simp only[Act.put,List.setIfInBounds_toArray,List.set_cons_zero,List.set_cons_succ];clear h7
  skip
  rw[e6];clear e6;have NW:Hid (Below W9.heap.size W9 w6):=yM.o;clear yM FV FP FS F4 FG;simp only[Exit.then];cases okb with
  |false=>
   have HD:Hid (bU x id=none):=by
    show _=_;rw[HUP.o,uh.o rfl];rfl
   have HF:=Hd (JQ.o w6 NW.o HD.o);clear JQ iP
   gi_wp2_with (fail)
   exact HF.o
  |true=>
   obtain⟨a1m,hcl⟩:=Gs.o rfl;rw[a1m]at HUP;have HDO:=Hd (a4X.o d a1m);have Ko:=Hd hcl;have G6:=Hd (UN (xI.o w6 NW.o).1 HX.o.fit id NU.o);have hnd:gW x id=x.nd id:=if_pos J8.o;have hws:iy x id=x.ws id:=if_pos J8.o;have Yl:=Hd (fun W (hb:Below W9.heap.size W9 W)=>PU (xI.o W hb).1 id NU.o);have HHB:Hid (has x.t id=true):=J8.o;rw[hnd,HHB.o]at G6;rw[hws,HHB.o]at Yl;have HCK:Hid ((x.nd id).chk=0):=HX.o.good id
   have HIT:Hid (∀q,dD x id=some q->q.Ok):=fun q hq=>OB HX.o.good HX.o.fit HX.o.ok HWR.o HN.o (ai.1 J8.o) hq;have HIE:Hid (dD x id=(bU x id).bind fun d=>if (x.nd id).lk.k=0 then none else some ⟨id,x.ws id,d.b,d.c.reverse,d.o,(x.nd id).lk⟩):=rfl;generalize x.nd id=n at*;generalize x.ws id=u at*;have c1:=(xI.o w6 NW.o).2.1.c 0 rfl;have i1:=(xI.o w6 NW.o).2.1.inside;clear a1m hcl hnd hws Gs uh a4X HHB
   gi_wp2_with (fail)
   refine⟨trivial,rfl,CallsIn.inRound l ((callsIn_wide (n:=0)).2 (G6.o.mono ?_))⟩;rintro e w7 ⟨An,cn,rfl,hbN,hoff,hnw⟩;have a0r:Hid (Below W9.heap.size W9 w7):=NW.o.trans (hbN.mono NW.o.size);have Yc:=Hd (vV.o.2.below' hbN);have ZP:Hid (Row eW w7 An n.lk.l):=hoff.row;have ZO:Hid (∀a,An=some a->n.lk.l≠[]->W9.heap.size<=a.block):=fun a ea hne=>Nat.le_trans NW.o.size (hnw a ea hne).1;clear hbN hoff hnw c1 i1 G6;have TI:Hid (ax (w7.alloc (.cells Va.toArray 109)) w7.heap.size Va):=az w7 Va _
   have iH:Hid (Below w7.heap.size w7 (w7.alloc (.cells Va.toArray 109))):=bR.alloc nR _
   gi_upto_region 8 with(first|((with_reducible show wpListIn _ _ _ _ _ (Oper.mk _ (Op.store _ _ _) _ _ _ _::_) _ _);first|(refine pW 109 _ _ rfl rfl rfl _ 0 rfl (n.cs An cn) rfl (Va) TI.o (n.cs An cn) rfl (nE rfl) af (Nd.one _ _ _) ?_;intro w8 HW8 XZ)))
   have vT:Hid (Below w7.heap.size w7 w8):=HW8.o.below iH.o nR
   obtain⟨k8,hk8⟩:=aB w7.heap.size
   have S9:Hid (Below W9.heap.size W9 w8):=a0r.o.trans (vT.o.mono a0r.o.size);have a5j:=Hd (Yc.o.below' vT.o);have GY:=Hd (Row.below ZP.o vT.o);have HG8:Hid (W9.heap.size<=k8):=by rw[←hk8];exact a0r.o.size
   rw[hk8]at XZ ⊢;clear TI iH HW8 vT a0r Yc ZP hk8;have c1:=(xI.o w8 S9.o).2.1.c 0 rfl;have i1:=(xI.o w8 S9.o).2.1.inside;have HWD:=Hd (Yl.o w8 S9.o)
   gi_wp2_with (fail)
   refine⟨trivial,rfl,CallsIn.inRound l ((callsIn_wide (n:=0)).2 (HWD.o.mono ?_))⟩;rintro e wA ⟨rfl,OL⟩;have a0q:Hid (Below W9.heap.size W9 wA):=S9.o.trans (OL.mono S9.o.size);have a5i:=Hd (a5j.o.below' OL);have a4N:=Hd (XZ.o.below' OL);have TQ:=Hd (Row.below GY.o OL);clear OL c1 i1 Yl HWD S9 a5j XZ GY;have TI:Hid (ax (wA.alloc (.cells Vd.toArray 39)) wA.heap.size Vd):=az wA Vd _;have iH:Hid (Below wA.heap.size wA (wA.alloc (.cells Vd.toArray 39))):=bR.alloc nR _
   gi_upto_region 9 with(first|((with_reducible show wpListIn _ _ _ _ _ (Oper.mk _ (Op.store _ _ _) _ _ _ _::_) _ _);first|(refine pW 39 _ _ rfl rfl rfl _ 0 rfl (u.cs) rfl (Vd) TI.o (u.cs) rfl (nE rfl) af (Mp.one1 _) ?_;intro wB HWB HKB)))
   have vT:Hid (Below wA.heap.size wA wB):=HWB.o.below iH.o nR
   obtain⟨kA,hkA⟩:=aB wA.heap.size
   have a0p:Hid (Below W9.heap.size W9 wB):=a0q.o.trans (vT.o.mono a0q.o.size);have a2F:=Hd (a5i.o.below' vT.o);have a0d:=Hd (a4N.o.below' vT.o);have GX:=Hd (Row.below TQ.o vT.o);have HGA:Hid (W9.heap.size<=kA):=by rw[←hkA];exact a0q.o.size
   rw[hkA]at HKB ⊢;clear TI iH HWB vT a0q a5i a4N TQ hkA;have i6:=a2F.o.inside;have i8:=a0d.o.inside;have iA:=HKB.o.inside;have HTO:=Hd (a0Y d p n An cn u wB HDO.o.1 HCK.o (Ko.o.below a0p.o) HDO.o.2)
   gi_wp2_with (first|((with_reducible show wpListIn _ _ _ _ _ (Oper.mk _ (Op.load _ _) _ _ _ _::_) _ _);first|(refine mW 102 _ rfl rfl _ 0 rfl (mJ d p) a2F.o (mJ d p) rfl _ underlying102 rfl af ?_)|(refine mW 109 _ rfl rfl _ 0 rfl (n.cs An cn) a0d.o (n.cs An cn) rfl _ underlying109 rfl af ?_)|(refine mW 39 _ rfl rfl _ 0 rfl (u.cs) HKB.o (u.cs) rfl _ underlying39 rfl af ?_)))
   refine⟨trivial,rfl,CallsIn.inRound l ((callsIn_wide (n:=0)).2 (HTO.o.mono ?_))⟩;rintro e wC ⟨p2,rfl,a3H,hbC⟩;have a0o:Hid (Below W9.heap.size W9 wC):=a0p.o.trans (hbC.mono a0p.o.size);have a4M:=Hd (a0d.o.below' hbC);have a4L:=Hd (HKB.o.below' hbC);have SE:=Hd (Row.below GX.o hbC);have a2v:=Hd a3H;clear hbC a3H HTO i6 i8 iA a0p a2F a0d HKB GX Ko;have Nz:Hid (bU x id=if d.ok n u=true then some (d.to n u) else none):=HUP.o
   obtain⟨d2,hd2⟩:=aB (d.to n u)
   obtain⟨ok2,hok2⟩:=aB (d.ok n u)
   rw[hd2]at a2v Nz ⊢;rw[hok2]at Nz ⊢;clear hd2 hok2 HUP;have TI:Hid (ax (wC.alloc (.cells #[.int .i64 0,.int .i64 0,.int .i64 0,.int .i64 0,.int .i64 0,.int .i64 0,.int .i64 0,.pointer none] 102)) wC.heap.size [.int .i64 0,.int .i64 0,.int .i64 0,.int .i64 0,.int .i64 0,.int .i64 0,.int .i64 0,.pointer none]):=az wC [.int .i64 0,.int .i64 0,.int .i64 0,.int .i64 0,.int .i64 0,.int .i64 0,.int .i64 0,.pointer none] _
   have iH:Hid (Below wC.heap.size wC (wC.alloc (.cells #[.int .i64 0,.int .i64 0,.int .i64 0,.int .i64 0,.int .i64 0,.int .i64 0,.int .i64 0,.pointer none] 102))):=bR.alloc nR _
   gi_upto_region 10 with(first|((with_reducible show wpListIn _ _ _ _ _ (Oper.mk _ (Op.store _ _ _) _ _ _ _::_) _ _);first|(refine pW 102 _ _ rfl rfl rfl _ 0 rfl (mJ d2 p2) rfl ([.int .i64 0,.int .i64 0,.int .i64 0,.int .i64 0,.int .i64 0,.int .i64 0,.int .i64 0,.pointer none]) TI.o (mJ d2 p2) rfl (nE rfl) af (Zm _ _) ?_;intro wD HWD nM)))
   have vT:Hid (Below wC.heap.size wC wD):=HWD.o.below iH.o nR
   obtain⟨kC,hkC⟩:=aB wC.heap.size
   have GH:Hid (Below W9.heap.size W9 wD):=a0o.o.trans (vT.o.mono a0o.o.size);have a2p:=Hd (a4M.o.below' vT.o);have a2o:=Hd (a4L.o.below' vT.o);have rO:=Hd (Row.below SE.o vT.o);have a5b:=Hd (a2v.o.below vT.o);have HGC:Hid (W9.heap.size<=kC):=by rw[←hkC];exact a0o.o.size
   rw[hkC]at nM ⊢;clear TI iH HWD vT a0o a4M a4L SE a2v hkC;cases ok2 with
   |false=>
    have HF:=Hd (JQ.o wD GH.o (Nz.o.trans (if_neg (by decide))));clear JQ iP
    gi_wp2_with (fail)
    exact HF.o
   |true=>
    have HDD:Hid (bU x id=some d2):=Nz.o.trans (if_pos rfl);have HVD:Hid (VM wD m2 es):=ZH.o.below GH.o;obtain⟨wE,hrun,hmE,hgE⟩:=HVD.o.store (t:=zO) (E:=Hz) wM NU.o (.agg (mJ d2 p2).toArray) (by have h1:=iI id (.agg (mJ d2 p2).toArray) es;have h2:=HSH.o.few;have h3:=HLEN.o;have h4:=HJB.o;omega);have Z8:=Hd hmE;have HGE:=Hd hgE;have PO:Hid (m2<W9.heap.size):=ZH.o.inside;have c4:=(xI.o wD GH.o).2.2.1.c 0 rfl;have i4:=(xI.o wD GH.o).2.2.1.inside;have iC:=nM.o.inside;clear hmE hgE Nz JQ
    gi_upto_region 12 with(first|((with_reducible show wpListIn _ _ _ _ _ (Oper.mk _ (Op.load _ _) _ _ _ _::_) _ _);first|(refine mW 102 _ rfl rfl _ 0 rfl (mJ d2 p2) nM.o (mJ d2 p2) rfl _ underlying102 rfl af ?_)))
    have HTE:Hid (ae (Xm b3 m2 v) (Xm b3 m2 v) W9 wE):=(ae.below GH.o).trans (ae.grown HGE.o fun k e=>.inr (.inl (Option.some.inj e).symm));have a0b:Hid (ax wE k8 (n.cs An cn)):=a2p.o.stays (HGE.o.block _ a2p.o.inside fun e=>by have:=Option.some.inj e;have:=HG8.o;have:=PO.o;omega);have a4K:Hid (ax wE kA u.cs):=a2o.o.stays (HGE.o.block _ a2o.o.inside fun e=>by have:=Option.some.inj e;have:=HGA.o;have:=PO.o;omega)
    have a4J:Hid (ax wE kC (mJ d2 p2)):=nM.o.stays (HGE.o.block _ nM.o.inside fun e=>by have:=Option.some.inj e;have:=HGC.o;have:=PO.o;omega);have SE:Hid (Row eW wE An n.lk.l):=Row.stays rO.o fun a ea hne=>HGE.o.block _ (Row.lt rO.o ea hne) fun e=>by have:=Option.some.inj e;have:=ZO.o a ea hne;have:=PO.o;omega
    have hnm:∀(k:Nat) (cu:Array Value) (T:TypeId) (fr:Nat×Nat),wD.heap[k]?=some (Obj.cells cu T fr)->wE.heap[k]?=wD.heap[k]?:=fun k cu T fr h=>HGE.o.block _ (Array.getElem?_eq_some_iff.1 h).1 fun e=>by
     obtain⟨es0,clock,h0,_⟩:=HVD.o.own;have:=Option.some.inj e;subst this;rw[h0]at h;cases h
    have a5a:Hid (yU wE p2 d2.c):=a5b.o.keep fun k cu fr h=>hnm k cu _ fr h
    have a4l:Hid (Shown x wE (omap.put lt id (.agg (mJ d2 p2).toArray) es) T1):=by
     show Shown _ _ _ _;rw[yO.o.2.2];refine(HSH.o.keep fun k cu fr h=>?_).put yO.o.1 yO.o.2.1 HDD.o a5a.o;have h1:wD.heap[k]?=W9.heap[k]?:=GH.o.block k (Array.getElem?_eq_some_iff.1 h).1;exact(hnm k cu _ fr (h1.trans h)).trans h1
    have X3:Hid (Its wE w5.heap.size v li):=(HITS.o.below GH.o).stays fun k hk1 hk2=>HGE.o.block k hk2 fun e=>by have:=Option.some.inj e;have:=ND.o;omega
    have a0t:Hid (ak wE b3 [v] kU):=(NY.o.stays (GH.o.block _ NY.o.inside)).stays (HGE.o.block _ (Nat.lt_of_lt_of_le NY.o.inside GH.o.size) fun e=>by have:=Option.some.inj e;have:=ND.o;omega);have c13:=a0b.o.c 13 rfl;have i8:=a0b.o.inside;rw[HDD.o,Option.bind_some]at HIE;clear hnm c4 i4 iC hrun HGE HVD rO a5b a2p a2o nM HSH HITS NY;by_cases hk0:n.lk.k=0
    ·rw[hk0]at c13;rw[if_pos hk0]at HIE;have HF:=Hd (iP.o wE v li _ HTE.o a0t.o X3.o (by rw[SX.o,a0a.o,HIE.o];simp) Z8.o a4l.o);clear hk0 iP
     gi_wp2_with (fail)
     exact HF.o
    ·have q0:(n.lk.k != 0)=true:=by simpa using hk0
     rw[if_neg hk0]at HIE
     obtain⟨it,hit⟩:∃it:It,(⟨id,u,d2.b,d2.c.reverse,d2.o,n.lk⟩:It)=it:=⟨_,rfl⟩
     obtain⟨rc,hrc⟩:=aB d2.c.reverse
     have TQ:=Hd hrc;rw[hit]at HIE;rw[hrc]at hit;have a4S:=Hd hit
     have hS:∀k,BM b3 v k->k<W9.heap.size:=fun k e=>by
      have h1:=ND.o;have h2:=PO.o;rcases e with e|e
      ·omega
      ·exact HVN.o k e
     have PG:=Hd hS
     obtain⟨B9,fA⟩:=aB W9.heap.size
     rw[fA]at PG HG8 HGA HGC ZO;have a0s:Hid (w5.heap.size<=B9):=by rw[←fA];exact HK.o.size
     have FM:Hid (∀W,ae (BM b3 v) (BM b3 v) wE W->ax W k8 (n.cs An cn)∧ax W kA u.cs∧ax W kC (mJ d2 p2)∧Row eW W An n.lk.l∧yU W p2 d2.c):=fun W ht=>by
      have hf:∀k,B9<=k->k<wE.heap.size->W.heap[k]?=wE.heap[k]?:=fun k h1 h2=>(ht.far k h2 fun e=>by have:=PG.o k e;omega).2;refine⟨a0b.o.stays (hf _ HG8.o a0b.o.inside),a4K.o.stays (hf _ HGA.o a4K.o.inside),a4J.o.stays (hf _ HGC.o a4J.o.inside),Row.stays SE.o (fun a ea hne=>hf _ (ZO.o a ea hne) (Row.lt SE.o ea hne)),a5a.o.keep fun k cu fr h=>(ht.far k (Array.getElem?_eq_some_iff.1 h).1 fun e=>?_).2⟩;rcases e with e|e
      ·rw[e,a0t.o]at h
       injection h with h
       injection h with _ h _
       exact absurd h (by decide)
      ·obtain⟨cu0,h0⟩:=X3.o.own.typed e;rw[h0]at h
       injection h with h
       injection h with _ h _
       exact absurd h (by decide)
     have nT:Hid (d2.c.length<=2000):=by
      have h:=(HIT.o it HIE.o).few;rw[←a4S.o,←TQ.o]at h;show _<=_
      simpa using h
     have FL:Hid (∀W,ae (BM b3 v) (BM b3 v) wE W->Calls prog 28 #[pv p2] W fun e w'=>∃g9,e=.returned (.slice (some ⟨g9,0,none⟩) rc.length d2.c.length)∧W.heap.size<=g9∧ax w' g9 (rc.flatMap Cl.cs)∧bz W w'):=fun W ht=>by
      rw[←TQ.o,List.length_reverse];exact Rw d2.c p2 W (FM.o W ht).2.2.2.2 nT.o
     have Yb:Hid (B9<=wE.heap.size):=by rw[←fA];exact HTE.o.size
     have CP:Hid (∀v',AJ w5.heap.size b3 v li it false false v' wE.drew):=fun v'=>⟨fun _=>a0t.o.stays rfl,fun _=>X3.o.below bR.drew,nofun,nofun,by have:=ND.o;omega,by have:=a0s.o;have:=Yb.o;show _<=wE.heap.size;omega⟩
     have HLI:Hid (li.length<=2000):=by
      have h1:=congrArg List.length a0a.o;rw[List.length_map]at h1;have h2:=List.length_filterMap_le (dD x) T0;have h3:=HLEN.o;have h4:=HJB.o;show _<=_;omega
     have F8:Hid (∀W,ae (BM b3 v) (BM b3 v) wE W->ax W k8 (n.cs An cn)):=fun W ht=>(FM.o W ht).1;have FA:Hid (∀W,ae (BM b3 v) (BM b3 v) wE W->ax W kA u.cs):=fun W ht=>(FM.o W ht).2.1;have FC:Hid (∀W,ae (BM b3 v) (BM b3 v) wE W->ax W kC (mJ d2 p2)):=fun W ht=>(FM.o W ht).2.2.1;have FE:Hid (∀W,ae (BM b3 v) (BM b3 v) wE W->B9<=W.heap.size):=fun W ht=>Nat.le_trans Yb.o ht.size;clear fA
     gi_upto_region 13 with(fail)
     clear c13 i8 q0
     refine DY.dO (ae (BM b3 v) (BM b3 v)) (fun L V wx=>AJ w5.heap.size b3 v li it (L 14) (L 15) (V 83) wx∧(L 15=true->L 0=true)∧(L 15=true->L 14=true)) [69,70,71,72,73,74,75,76,77,78,79,80,81,82,83] af af af (fun _=>ae.refl _ _) (fun _ _ _ h k=>h.trans k) (fun i=>(match i with
      |0=>rV (v)
      |1=>rV (.int .i64 id)
      |2=>rV (.agg (u.cs).toArray)
      |3=>rp kC 0
      |4=>rV (.agg (d2.b.cs).toArray)
      |5=>rp kC 7
      |6=>rV (pv p2)
      |7=>(⟨fun v9 wv=>∃g9,v9=.slice (some ⟨g9,0,none⟩) rc.length d2.c.length∧Gp B9 rc wv g9,fun v9 wa wb h hb=>by
   obtain⟨g9,e,hc⟩:=h
   exact⟨g9,e,hc.turn PG.o hb⟩⟩:regs.kD (ae (BM b3 v) (BM b3 v)))
      |8=>rp kC 6
      |9=>rV (.int .i64 (d2.o:Nat))
      |10=>rp k8 13
      |11=>rV (.agg (n.lk.cs An cn).toArray)
      |12=>(⟨fun v9 wv=>∃g9,v9=.agg (iG.cs (⟨⟨id,u,d2.b,rc,d2.o,n.lk⟩,some ⟨g9,0,none⟩,d2.c.length,An,cn⟩:iG)).toArray∧Gp B9 rc wv g9,fun v9 wa wb h hb=>by
   obtain⟨g9,e,hc⟩:=h
   exact⟨g9,e,hc.turn PG.o hb⟩⟩:regs.kD (ae (BM b3 v) (BM b3 v)))
      |13=>(⟨fun v9 wv=>∃g9 gs,v9=.slice (some ⟨gs,0,none⟩) 1 1∧Gp B9 rc wv g9∧ax wv gs (iG.cs (⟨⟨id,u,d2.b,rc,d2.o,n.lk⟩,some ⟨g9,0,none⟩,d2.c.length,An,cn⟩:iG))∧B9<=gs,fun v9 wa wb h hb=>by
   obtain⟨g9,gs,e,hc,hb8,LY⟩:=h
   exact⟨g9,gs,e,hc.turn PG.o hb,hb8.stays (hb.far _ hb8.inside fun e=>by have:=PG.o _ e;omega).2,LY⟩⟩:regs.kD (ae (BM b3 v) (BM b3 v)))
      |_=>ra:regs.kD (ae (BM b3 v) (BM b3 v))).p) (fun _=>regs.kD.mono _) af (ae.below bR.drew) (⟨CP.o _,nofun,nofun⟩) ⟨?_,?_,?_,?_,?_,?_,?_,?_,?_,?_,?_,?_,?_,?_,?_,?_,trivial⟩ ?_
     ·refine fE fun L a w1 hh=>?_;have h3:=hh.p 3 b3 0;have hbx:=hh.st.1.box (bI hh.st.2.1 hh.un);have c0:w1.cell? ⟨b3,0,none⟩=some v:=hbx.blk.cell 0;have i0:=hbx.inside;clear hbx;have hJ:=Hd hh.st;have hsz:=Hd hh.size;clear hh;go_simp;exact⟨_,rfl,ae.refl _ _,rfl,AJ.slots hJ.o.1 sn,(fun _=>rfl),hJ.o.2.2⟩
     ·refine fE fun L a w1 hh=>?_;have h5:=hh.o 5 (v:=.int .i64 id) rfl;have hJ:=hh.j;clear hh;go_simp;exact⟨_,rfl,ae.refl _ _,rfl,⟨AJ.slots hJ.o.1 sn,hJ.o.2⟩⟩
     ·refine fE fun L a w1 hh=>?_;have h10:=hh.p 10 kA 0;have hB:=Hd (FA.o _ hh.rel);have hJ:=Hd hh.st;exact aK 39 _ rfl kA 0 (by simpa[go_sem]using h10) _ hB.o (u.cs) rfl _ underlying39 rfl af ⟨_,rfl,ae.refl _ _,rfl,⟨AJ.slots hJ.o.1 sn,hJ.o.2⟩⟩
     ·refine fE fun L a w1 hh=>?_;have h12:=hh.p 12 kC 0;have i0:=(FC.o _ hh.rel).inside;have hJ:=hh.j;clear hh;go_simp;exact⟨_,rfl,ae.refl _ _,rfl,⟨AJ.slots hJ.o.1 sn,hJ.o.2⟩⟩
     ·refine fE fun L a w1 hh=>?_;have h72:=rq (hh.d 3 72);have hB:=Hd (FC.o _ hh.rel);have hJ:=Hd hh.st;exact aK 41 _ rfl kC 0 (by simpa[go_sem]using h72) _ hB.o (d2.b.cs) rfl _ underlying41 rfl af ⟨_,rfl,ae.refl _ _,rfl,⟨AJ.slots hJ.o.1 sn,hJ.o.2⟩⟩
     ·refine fE fun L a w1 hh=>?_;have h12:=hh.p 12 kC 0;have i0:=(FC.o _ hh.rel).inside;have hJ:=hh.j;clear hh;go_simp;exact⟨_,rfl,ae.refl _ _,rfl,⟨AJ.slots hJ.o.1 sn,hJ.o.2⟩⟩
     ·refine fE fun L a w1 hh=>?_;have h74:=rq (hh.d 5 74);have ⟨c0,i0⟩:=(FC.o _ hh.rel).ci 7 rfl;have hJ:=hh.j;clear hh;go_simp;exact⟨_,rfl,ae.refl _ _,rfl,⟨AJ.slots hJ.o.1 sn,hJ.o.2⟩⟩
     ·refine fE fun L a w1 hh=>?_;have h75:=rq (hh.d 6 75);have hC:=Hd (FL.o w1 hh.rel);have hE:=Hd (FE.o w1 hh.rel);have hJ:=Hd hh.st;have hsz:=Hd hh.size;clear hh;go_simp;refine hC.o.mono ?_;rintro e w9 ⟨g9,rfl,jk,aS,hbw⟩;exact⟨_,rfl,ae.below hbw,⟨g9,rfl,aS,Nat.le_trans hE.o jk⟩,AJ.slots (hJ.o.1.below hbw) sn,hJ.o.2⟩
     ·refine fE fun L a w1 hh=>?_;have h12:=hh.p 12 kC 0;have i0:=(FC.o _ hh.rel).inside;have hJ:=hh.j;clear hh;go_simp;exact⟨_,rfl,ae.refl _ _,rfl,⟨AJ.slots hJ.o.1 sn,hJ.o.2⟩⟩
     ·refine fE fun L a w1 hh=>?_;have h77:=rq (hh.d 8 77);have ⟨c0,i0⟩:=(FC.o _ hh.rel).ci 6 rfl;have hJ:=hh.j;clear hh;go_simp;exact⟨_,rfl,ae.refl _ _,rfl,⟨AJ.slots hJ.o.1 sn,hJ.o.2⟩⟩
     ·refine fE fun L a w1 hh=>?_;have h8:=hh.p 8 k8 0;have i0:=(F8.o _ hh.rel).inside;have hJ:=hh.j;clear hh;go_simp;exact⟨_,rfl,ae.refl _ _,rfl,⟨AJ.slots hJ.o.1 sn,hJ.o.2⟩⟩
     ·refine fE fun L a w1 hh=>?_;have h79:=rq (hh.d 10 79);have hB:=Hd (F8.o _ hh.rel);have hJ:=Hd hh.st;exact aK 49 _ rfl k8 13 (by simpa[go_sem]using h79) _ hB.o (n.lk.cs An cn) rfl _ underlying49 rfl af ⟨_,rfl,ae.refl _ _,rfl,⟨AJ.slots hJ.o.1 sn,hJ.o.2⟩⟩
     ·refine fE fun L a w1 hh=>?_;have h70:=rq (hh.d 1 70);have h71:=rq (hh.d 2 71);have h73:=rq (hh.d 4 73);have h78:=rq (hh.d 9 78);have h80:=rq (hh.d 11 80)
      obtain⟨g9,e76,IY⟩:=(show ∃g9,a.tmps.getD 76 undef=.slice (some ⟨g9,0,none⟩) rc.length d2.c.length∧Gp B9 rc w1 g9 from hh.d 7 76)
      have h76:a.tmps[76]?.getD undef=.slice (some ⟨g9,0,none⟩) rc.length d2.c.length:=rq (e76);have hJ:=Hd hh.st;exact wp_build _ _ rfl (by simp[go_sem,h70,h71,h73,h76,h78,h80]) (WV (⟨⟨id,u,d2.b,rc,d2.o,n.lk⟩,some ⟨g9,0,none⟩,d2.c.length,An,cn⟩:iG) w1) ⟨_,rfl,ae.refl _ _,⟨g9,rfl,IY⟩,⟨AJ.slots hJ.o.1 sn,hJ.o.2⟩⟩
     ·refine fE fun L a w1 hh=>?_
      obtain⟨g9,e81,IY⟩:=(show ∃g9,a.tmps.getD 81 undef=.agg (iG.cs (⟨⟨id,u,d2.b,rc,d2.o,n.lk⟩,some ⟨g9,0,none⟩,d2.c.length,An,cn⟩:iG)).toArray∧Gp B9 rc w1 g9 from hh.d 12 81)
      have h81:a.tmps[81]?.getD undef=.agg (iG.cs (⟨⟨id,u,d2.b,rc,d2.o,n.lk⟩,some ⟨g9,0,none⟩,d2.c.length,An,cn⟩:iG)).toArray:=rq (e81);have hJ:=Hd hh.st;have hE:=FE.o w1 hh.rel;have hal:bz w1 (w1.alloc (.cells (iG.cs (⟨⟨id,u,d2.b,rc,d2.o,n.lk⟩,some ⟨g9,0,none⟩,d2.c.length,An,cn⟩:iG)).toArray Hy)):=bR.alloc nR _
      exact zF _ _ _ rfl (by simp[go_sem,h81]) (a3T (⟨⟨id,u,d2.b,rc,d2.o,n.lk⟩,some ⟨g9,0,none⟩,d2.c.length,An,cn⟩:iG) w1) ⟨_,rfl,ae.below hal,⟨g9,_,rfl,IY.turn PG.o (ae.below hal),az w1 _ _,hE⟩,AJ.slots (hJ.o.1.below hal) sn,hJ.o.2⟩
     ·refine fE fun L a w1 hh=>?_;have h69:=rq (hh.d 0 69)
      obtain⟨g9,gs,e82,IY,hb8,LY⟩:=(show ∃g9 gs,a.tmps.getD 82 undef=.slice (some ⟨gs,0,none⟩) 1 1∧Gp B9 rc w1 g9∧ax w1 gs (iG.cs (⟨⟨id,u,d2.b,rc,d2.o,n.lk⟩,some ⟨g9,0,none⟩,d2.c.length,An,cn⟩:iG))∧B9<=gs from hh.d 13 82)
      have h82:a.tmps[82]?.getD undef=.slice (some ⟨gs,0,none⟩) 1 1:=rq (e82);have hJ:=Hd hh.st;have hsz:=Hd hh.size;have hun:=Hd hh.un;have hns:=bI hh.st.2.2 hh.un;have hj1:=hh.st.1;rw[hns]at hj1;have hr:=(FM.o w1 hh.rel).2.2.2.1;have hE:=FE.o w1 hh.rel;have hown:∀k,v.ownBlock=some k->k<B9:=fun k e=>PG.o k (.inr e)
      obtain⟨v9,w9,hrn,LW,jk,-⟩:=(hj1.own hh.un).app (⟨⟨id,u,d2.b,rc,d2.o,n.lk⟩,some ⟨g9,0,none⟩,d2.c.length,An,cn⟩:iG) (g:=gs) (c:=1) (qg (l:=[(⟨⟨id,u,d2.b,rc,d2.o,n.lk⟩,some ⟨g9,0,none⟩,d2.c.length,An,cn⟩:iG)]) iG.aZ (by simpa using hb8)) ⟨qg Cl.aZ IY.1,hr⟩ ⟨fun a ea _=>by cases ea;exact⟨by have:=a0s.o;have:=IY.2;show w5.heap.size<=g9;omega,fun e=>by have:=hown _ e;have:=IY.2;simp only at*;omega⟩,fun a ea hne=>⟨by have:=a0s.o;have:=ZO.o a ea hne;omega,fun e=>by have:=hown _ e;have:=ZO.o a ea hne;omega⟩⟩ HLI.o (by have:=a0s.o;omega)
      exact wu _ _ kU kU kU rfl rfl (by simpa[go_sem]using h69) (by simpa[go_sem]using h82) hrn ⟨v9,rfl,ae.grown jk (fun k e=>.inr e),trivial,AJ.a5M hJ.o.1 hns a4S.o LW (bM.aY (by rw[hsz.o];simp)) (jk.block _ (Nat.lt_of_lt_of_le (hj1.box rfl).inside nR) (fun e=>by have h1:=(hj1.own hh.un).own.block e.symm;have:=hj1.lt;omega)) jk.size,(fun _=>hh.up 0 af),fun _=>rfl⟩
     ·refine fE fun L a w1 hh=>?_;have h3:=hh.p 3 b3 0;have hup:=hh.up 14 af;have hj1:=hh.st.1;rw[hh.un,hup]at hj1;have hB:=hj1.box rfl;have c0:w1.cell? ⟨b3,0,none⟩=some v:=hB.blk.cell 0;have f0:=hB.blk.free 0;have i0:=hB.inside;obtain⟨q9,-,hi9⟩:=hj1.app rfl;obtain⟨A9,n9,c9,e9⟩:=hi9.own.shape;have e83:a.tmps.getD 83 undef=.slice A9 n9 c9:=e9;have h83:a.tmps[83]?.getD undef=.slice A9 n9 c9:=rq (e83);have Yt:=Hd hj1;have hul:=Hd (hh.up 0 af);have IU:=Hd hup;have a6v:=Hd e83;have hun:=Hd hh.un;have hJ:=Hd hh.st;clear hh hB hup hj1 e83 e9 hi9;go_simp
      exact⟨ae.set (.inl rfl) _,⟨undef,trivial⟩,AJ.a2W (iA:=L 14) hJ.o.1 IU.o hun.o a6v.o,(fun _=>hul.o),fun _=>IU.o⟩
     intro L w14 val hL hJ hR hv;have a4n:=Hd hR;have haj:=hJ.1;rw[hL 14 (by decide),hL 15 (by decide)]at haj;obtain⟨q9,OH,hi9⟩:=haj.app rfl;have aS:=haj.sto rfl;have XH:=Hd OH;have HI9:=Hd hi9;have tX:=Hd aS;clear hv hL hJ hR haj OH hi9 aS;simp only[regs.aC,List.map_cons,List.map_nil];simp only[Act.put,List.setIfInBounds_toArray,List.set_cons_zero,List.set_cons_succ]
     skip
     have a5T:Hid (ae (Xm b3 m2 v) (Xm b3 m2 v) W9 w14):=HTE.o.trans (a4n.o.widen fun k e=>e.elim .inl fun e=>.inr (.inr e))
     have hsame:∀k,k<wE.heap.size->(k=b3->False)->(v.ownBlock=some k->False)->w14.heap[k]?=wE.heap[k]?:=fun k h1 h2 h3=>(a4n.o.far k h1 fun e=>by
      rcases e with e|e
      ·exact h2 e
      ·exact h3 e).2
     have a5Q:Hid (VM w14 m2 (omap.put lt id (.agg (mJ d2 p2).toArray) es)):=Z8.o.stays (hsame m2 Z8.o.inside (fun e=>by have:=ND.o;omega) fun e=>by have h1:=(X3.o.own.block e).1;have:=ND.o;omega)
     have a5W:Hid (Shown x w14 (omap.put lt id (.agg (mJ d2 p2).toArray) es) T1):=a4l.o.keep fun k cu fr h=>by
      refine hsame k (Array.getElem?_eq_some_iff.1 h).1 (fun e=>?_) fun e=>?_
      ·rw[e,a0t.o]at h
       injection h with h
       injection h with _ h _
       exact absurd h (by decide)
      ·obtain⟨cu0,h0⟩:=X3.o.own.typed e;rw[h0]at h
       injection h with h
       injection h with _ h _
       exact absurd h (by decide)
     have HF:=Hd (iP.o w14 _ _ _ a5T.o tX.o HI9.o (by rw[List.map_append,SX.o,a0a.o,HIE.o,List.map_cons,XH.o];rfl) a5Q.o a5W.o);clear iP hsame
     gi_wp2_with (fail)
     exact HF.o
end
section
open Go.RowKit fH fV aF Go.Maps
theorem Uf:aF.walk yE 0=[0,1]:=by decide
theorem VR:has yE 0=true:=by decide
theorem VQ:has yE 1=true:=by decide
theorem Wn{y:aO}(ht:y.t=yE):bU y 1=Dn.step (y.nd 1) (y.ws 1) (Dn.step (y.nd 0) (y.ws 0) (some Dn.top)):=by
 have h:=nG (x:=y) (by (try show Below _ _ _);rw[ht];exact MX) (i:=1) (by (try show Below _ _ _);rw[ht];exact MZ);rw[h,ht,show par yE 1=0 from by decide,vz]
theorem QL{y:aO}(ht:y.t=yE)(h0:(y.nd 0).lk.k=0):items y=(dD y 1).toList:=by
 have e0:dD y 0=none:=by
  unfold dD;cases bU y 0 with
  |none=>rfl
  |some d=>rw[Option.bind_some,if_pos h0]
 unfold items;rw[ht,Uf,List.filterMap_cons,e0];cases h:dD y 1 with
 |none=>rw[List.filterMap_cons,h];rfl
 |some q=>rw[List.filterMap_cons,h];rfl
theorem a0S{y:aO}(hy:tN y)(ht:y.t=yE):y.ws 0=(y.nd 0).m∧((y.nd 1).m.ed [(y.nd 0).m]).2=0∧((y.nd 1).m.ed [(y.nd 0).m]).1=y.ws 1:=by
 have h0:=hy.set 0 (by (try show Below _ _ _);rw[ht];exact VR) (fun _ _ h=>h) (fun h=>h);have h1:=hy.set 1 (by (try show Below _ _ _);rw[ht];exact VQ) (fun _ _ h=>h) (fun h=>h);rw[ht]at h0 h1;rw[iZ]at h0;rw[jw MX _ MZ,show par yE 1=0 from by decide,iZ]at h1
 injection h0 with h0
 simp only[Ha,Option.bind_some]at h1;split at h1
 ·injection h1 with h1
  exact⟨h0.symm,by assumption,h1⟩
 ·cases h1
theorem JB{M:Int}{x:aO}{l:List dN}(h:(bY M setSt x l).2.2=0):(bY M setSt x l).1.t=(aW M x l).1.t∧(bY M setSt x l).1.nd=(aW M x l).1.nd∧(aW M x l).2.2=0:=by
 unfold bY at h ⊢;by_cases h1:1024<l.length
 ·rw[if_pos h1]at h;cases h
 ·rw[if_neg h1]at h ⊢;by_cases h2:(aW M x l).2.2≠0
  ·rw[if_pos h2]at h;exact absurd h h2
  ·rw[if_neg h2]at h ⊢;by_cases h3:(setSt (aW M x l).1).2≠0
   ·rw[if_pos h3]at h;exact absurd h h3
   ·rw[if_neg h3];exact⟨uw _,uy _,Decidable.not_not.1 h2⟩
def TC:dN:={ dN.o with k:=1,i:=1 }
def Eb:dN:={ dN.o with k:=4,i:=1,m:=⟨65536,0,0,65536,65536,0⟩ }
def Md:dN:={ dN.o with k:=7,i:=1,lk:=⟨1,2,1,255,0,0,[]⟩ }
def Q5:dN:={ dN.o with k:=6,N:=128 }
def VZ:List dN:=[TC,Eb,Md,Q5]
theorem a0G{o:dN}(h:o∈VZ):mD o∧o.lk.l=[]:=by
 simp only[VZ,List.mem_cons,List.not_mem_nil,or_false]at h;rcases h with rfl|rfl|rfl|rfl<;>exact⟨⟨⟨by decide,by decide⟩,⟨by decide,by decide⟩,⟨by decide,(by intro z hz;cases hz),by decide⟩⟩,rfl⟩
def flN:Int->Nd:=upd (upd (upd (upd (fun _=>Nd.plain) 1 Nd.plain) 1 (bT Nd.plain Eb)) 1 (bT (bT Nd.plain Eb) Md)) 0 (bT Nd.plain Q5)
theorem Mc:aW 9 aO.new VZ=(⟨yE,flN,upd (fun _=>Mp.one) 1 Mp.o⟩,4,0):=by
 have e1:fJ 9 aO.new TC=(⟨yE,upd (fun _=>Nd.plain) 1 Nd.plain,upd (fun _=>Mp.one) 1 Mp.o⟩,0):=rfl;have e2:fJ 9 ⟨yE,upd (fun _=>Nd.plain) 1 Nd.plain,upd (fun _=>Mp.one) 1 Mp.o⟩ Eb=(⟨yE,upd (upd (fun _=>Nd.plain) 1 Nd.plain) 1 (bT Nd.plain Eb),upd (fun _=>Mp.one) 1 Mp.o⟩,0):=rfl;have e3:fJ 9 ⟨yE,upd (upd (fun _=>Nd.plain) 1 Nd.plain) 1 (bT Nd.plain Eb),upd (fun _=>Mp.one) 1 Mp.o⟩ Md=(⟨yE,upd (upd (upd (fun _=>Nd.plain) 1 Nd.plain) 1 (bT Nd.plain Eb)) 1 (bT (bT Nd.plain Eb) Md),upd (fun _=>Mp.one) 1 Mp.o⟩,0):=rfl
 have e4:fJ 9 ⟨yE,upd (upd (upd (fun _=>Nd.plain) 1 Nd.plain) 1 (bT Nd.plain Eb)) 1 (bT (bT Nd.plain Eb) Md),upd (fun _=>Mp.one) 1 Mp.o⟩ Q5=(⟨yE,flN,upd (fun _=>Mp.one) 1 Mp.o⟩,0):=rfl;unfold VZ;rw[cZ,e1];simp only[ne_eq,not_true_eq_false,if_false];rw[cZ,e2];simp only[ne_eq,not_true_eq_false,if_false];rw[cZ,e3];simp only[ne_eq,not_true_eq_false,if_false];rw[cZ,e4];simp only[ne_eq,not_true_eq_false,if_false];rfl
theorem Q4:aX yE flN 1=some ⟨65536,0,0,65536,65536,0⟩:=by
 rw[jw MX _ MZ,show par yE 1=0 from by decide,iZ]
 decide
noncomputable def Yi:aO:=(bY 9 setSt aO.new VZ).1
theorem a1y:(setSt ⟨yE,flN,upd (fun _=>Mp.one) 1 Mp.o⟩).2=0:=by
 unfold setSt;rw[if_pos fun i hi=>?_];rcases a1T hi with rfl|rfl
 ·show aX yE flN 0≠none;rw[iZ];simp
 ·show aX yE flN 1≠none;rw[Q4];simp
theorem uZ:bY 9 setSt aO.new VZ=(Yi,4,0):=by
 have h:(bY 9 setSt aO.new VZ).2=(4,0):=by
  unfold bY;rw[if_neg (by decide),Mc,if_neg (by simp),if_neg (by rw[a1y];simp)];rfl
 unfold Yi;rw[←h]
theorem Jb:tN Yi:=by
 have:=aO.Ap.apply (M:=9) (l:=VZ) fun o ho=>(a0G ho).1;rw[uZ]at this;exact this
theorem OT:Yi.t=yE:=by
 have h:=(JB (by rw[uZ]:(bY 9 setSt aO.new VZ).2.2=0)).1;rw[Mc]at h;exact h
theorem FX:Yi.nd=flN:=by
 have h:=(JB (by rw[uZ]:(bY 9 setSt aO.new VZ).2.2=0)).2.1;rw[Mc]at h;exact h
def Zf:It:=⟨1,⟨65536,0,0,65536,65536,0⟩,⟨65536,0,0,65536,65536,0⟩,[],128,⟨1,2,1,255,0,0,[]⟩⟩
theorem VY:items Yi=[Zf]:=by
 obtain⟨h0,-,h1⟩:=a0S Jb OT;rw[FX]at h0 h1;have e0:Yi.ws 0=Mp.one:=h0;have e1:Yi.ws 1=⟨65536,0,0,65536,65536,0⟩:=by rw[←h1];decide
 rw[QL OT (by rw[FX];rfl)]
 have hd:bU Yi 1=some ⟨⟨65536,0,0,65536,65536,0⟩,128,[]⟩:=by
  rw[Wn OT,e0,e1,FX]
  decide
 unfold dD;rw[hd,e1,FX];rfl
theorem qZ:Zf.covers 1 0=true∧Zf.covers 2 0=true∧Zf.covers 0 0=false∧Zf.covers 1 1=false∧Zf.at_ 2 0=128∧Zf.at_ 3 0=0:=by decide
theorem a1z:Zf.Ok:=⟨by decide,(by intro c hc;cases hc),by decide,by decide,by decide,by decide,by decide,(by intro z hz;cases hz)⟩
end
section
open Go.RowKit fH fV aF Go.Maps
end
end Go.Proofs.YtekdoeilpheklaaGreat
