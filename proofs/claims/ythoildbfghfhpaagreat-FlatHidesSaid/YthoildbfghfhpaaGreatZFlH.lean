import Derived.Test.YthoildbfghfhpaaGreatZFlE
import Derived.Sort.CutIn
set_option maxHeartbeats 16000000
set_option maxRecDepth 100000
open Go.Proofs.Tryz
namespace Go.Proofs.YthoildbfghfhpaaGreat
section
open Go.RowKit pxm imm trm Go.Maps itr Go.Shelf
attribute [local go_sem] Oper.semAt_some
theorem build_dn0 (w:World):(Instr.build tDown #[(1,.int .i64 255)]).run prog w=.ok (.agg (dnC Dn.top none).toArray) w:=by kernel_rfl
theorem make_downs (w:World):(Instr.makeMap tDowns none).run prog w=.ok (.map (some w.heap.size)) (w.alloc (.map #[] 0)):=rfl
structure KL2 (x y:Nat) (A W:World):Prop where
 os:W.os=A.os
 tape:W.tape=A.tape
 output:W.output=A.output
 size:A.heap.size<=W.heap.size
 same:∀ k,k<A.heap.size->k≠x->k≠y->W.heap[k]?=A.heap[k]?
theorem KL2.refl (x y:Nat) (A:World):KL2 x y A A:=⟨rfl,rfl,rfl,nR,fun _ _ _ _=>rfl⟩
theorem KL2.bk {x y:Nat} {A W W':World} (h:KL2 x y A W) (hb:Bk A.heap.size W W'):KL2 x y A W':=⟨hb.os.trans h.os,hb.tape.trans h.tape,hb.output.trans h.output,Nat.le_trans h.size hb.size,fun k hk h1 h2=>(hb.low (Nat.lt_of_lt_of_le hk h.size) hk).trans (h.same k hk h1 h2)⟩
theorem KL2.to_below {x y n:Nat} {A W:World} (h:KL2 x y A W) (hx:n<=x) (hy:n<=y) (hs:n<=A.heap.size):Below n A W:=⟨h.os,h.tape,h.output,h.size,fun k hk=>h.same k (by omega) (by omega) (by omega)⟩
def SL2 (x:Nat) (v:Value):Bset:=fun k=>k=x∨v.ownBlock=some k
def SL3 (x y:Nat) (v:Value):Bset:=fun k=>k=x∨k=y∨v.ownBlock=some k
theorem KL2.turn {x y:Nat} {v:Value} {A W W':World} (h:KL2 x y A W) (ht:TurnP (SL3 x y v) (SL3 x y v) W W') (hv:∀ k,v.ownBlock=some k->A.heap.size<=k):KL2 x y A W':=⟨ht.os.trans h.os,ht.tape.trans h.tape,ht.output.trans h.output,Nat.le_trans h.size ht.size,fun k hk h1 h2=>by
 have e:¬ SL3 x y v k:=fun e=>by
  rcases e with e | e | e
  ·exact h1 e
  ·exact h2 e
  ·have:=hv k e;omega
 exact (ht.far k (Nat.lt_of_lt_of_le hk h.size) e).2.trans (h.same k hk h1 h2)⟩
theorem TurnP.widen {S T:Bset} {w w':World} (h:TurnP S S w w') (hs:∀ k,S k->T k):TurnP T T w w':=⟨h.os,h.tape,h.output,h.size,fun k hk hn=>⟨hn,(h.far k hk fun e=>hn (hs k e)).2⟩⟩
def ListQ (x:PSc) (w:World) (e:Ending) (w':World):Prop:=∃ A c l,e=.returned (.slice A l.length c)∧SRow 22 ItR.cs w' A l∧(∀ q∈l,ItAt w' q∧q.it.Ok∧(∀ a,q.Ac=some a->q.it.c≠[]->w.heap.size<=a.block)∧∀ a,q.A=some a->q.it.lk.l≠[]->w.heap.size<=a.block)∧l.map (·.it)=items x∧(∀ a,A=some a->l≠[]->w.heap.size<=a.block)∧Below w.heap.size w w'
structure LsI (x:PSc) (w5:World) (b3 m2:Nat) (j:Nat) (W:World):Prop where
 ky:KL2 b3 m2 w5 W
 ex:∃ v l es,BlkT W b3 [v] tItems∧Its W w5.heap.size v l∧l.map (·.it)=((trm.walk x.t 0).take j).filterMap (itemOf x)∧VM W m2 es∧Shown x W es ((trm.walk x.t 0).take j)
theorem VM.bk {w w':World} {m B:Nat} {es:LV} (h:VM w m es) (hb:Bk B w w'):VM w' m es:=h.stays (by
 obtain ⟨es',clock,h1,_⟩:=h.own
 exact (hb.keep h1 rfl).trans h1.symm)
theorem LsI.bk {x:PSc} {w5 W W':World} {b3 m2 j:Nat} (h:LsI x w5 b3 m2 j W) (hb:Bk w5.heap.size W W'):LsI x w5 b3 m2 j W':=⟨h.ky.bk hb,by
 obtain ⟨v,l,es,h1,h2,h3,h4,h5⟩:=h.ex
 exact ⟨v,l,es,h1.bk hb,h2.bk hb,h3,h4.bk hb,h5.bk hb⟩⟩
theorem prs_of2 {ib db x y base:Nat} {v1 v2:Value} {l1 l2:List Int} {w:World} (hx:x<base) (hy:y<base) (h1:base<=ib) (h2:base<=db) (b1:BlkT w ib [v1] tInts) (b2:BlkT w db [v2] tInts) (o1:IOwn w base v1 l1) (o2:IOwn w base v2 l2) :
  ∃ A1 A2 c1 c2,∀ W,KL2 x y w W->Prs ib db A1 A2 c1 c2 l1 l2 W:=by
 obtain ⟨A1,c1,e1,-,-,r1⟩:=IOwn.irow o1;obtain ⟨A2,c2,e2,-,-,r2⟩:=IOwn.irow o2;refine ⟨A1,A2,c1,c2,fun W hk=>?_⟩
 have o1':IOwn W base v1 l1:=SOwn.stays o1 fun k hk'=>by
  have:=SOwn.block o1 hk';exact hk.same k this.2 (by omega) (by omega)
 have o2':IOwn W base v2 l2:=SOwn.stays o2 fun k hk'=>by
  have:=SOwn.block o2 hk';exact hk.same k this.2 (by omega) (by omega)
 obtain ⟨A1',c1',e1',-,-,r1'⟩:=IOwn.irow o1';obtain ⟨A2',c2',e2',-,-,r2'⟩:=IOwn.irow o2';have f1:=e1.symm.trans e1';have f2:=e2.symm.trans e2'
 injection f1 with f1 _ _
 injection f2 with f2 _ _
 have q1:=(b1.stays (hk.same ib b1.inside (by omega) (by omega))).blk.cell 0;have q2:=(b2.stays (hk.same db b2.inside (by omega) (by omega))).blk.cell 0;rw [e1] at q1;rw [e2] at q2;exact ⟨q1,q2,by rw [f1];exact r1',by rw [f2];exact r2'⟩
theorem shown0 (x:PSc) (w:World):Shown x w (omap.put lt (-1) (.agg (dnC Dn.top none).toArray) []) []:=
 ⟨by rw [omap.look_put,if_pos rfl],(fun _ h=>nomatch h),(fun _ h=>nomatch h),fun i _ h1=>by rw [omap.look_put,if_neg h1];rfl,by have:=vput_len (-1) (.agg (dnC Dn.top none).toArray) [];simpa using this⟩
theorem up_ok {x:PSc} (hg:Good x) (ok:Ok x.t) (hw:∀ i,has x.t i=true->(x.ws i).right=true) (hn:x.t.length<=900) {i:Int} (hi:i=0∨i∈ids x.t) {d:Dn} (h:upOf x i=some d):d.o<256∧d.c.length<=1900:=by
 unfold upOf at h;by_cases h0:i=0
 ·rw [if_pos h0] at h
  injection h with e
  rw [← e];exact ⟨by decide,by decide⟩
 ·rw [if_neg h0] at h;have hp:par x.t i=0∨par x.t i∈ids x.t:=ok.pin _ (par_mem (hi.resolve_left h0));have h1:=down_ok hg ok hw hp d h;have h2:=depth_le ok hp;exact ⟨h1.o,by have:=h1.len;omega⟩
theorem srow_blk {α:Type} {k:Nat} {enc:α->List Value} {w:World} {g:Nat} {l:List α} (hk:∀ x,(enc x).length=k) (h:Blk w g (l.flatMap enc)):SRow k enc w (some ⟨g,0,none⟩) l:=fun _=>⟨g,0,rfl,fun j hj i v hv=>by
 rw [Nat.zero_add,h.cell]
 exact flat_at hk hj hv⟩
theorem build_it (q:ItR) (w:World):(Instr.build tItem #[(0,.int .i64 q.it.i),(1,.agg q.it.w.cs.toArray),(2,.agg q.it.b.cs.toArray),(3,.slice q.Ac q.it.c.length q.cc),(4,.int .i64 (q.it.o:Nat)),(5,.agg (q.it.lk.cs q.A q.c).toArray)]).run prog w=.ok (.agg q.cs.toArray) w:=by kernel_rfl
theorem bs_it (q:ItR) (w:World):(Instr.buildSlice tItems 1 #[(0,.agg q.cs.toArray)]).run prog w=.ok (.slice (some ⟨w.heap.size,0,none⟩) 1 1) (w.alloc (.cells q.cs.toArray tItem)):=by kernel_rfl
structure AJ (base b3:Nat) (v:Value) (li:List ItR) (it:It) (iA iS:Bool) (v':Value) (w:World):Prop where
 box:iS=false->BlkT w b3 [v] tItems
 own:iA=false->Its w base v li
 app:iA=true->∃ q,q.it=it∧Its w base v' (li++[q])
 sto:iS=true->BlkT w b3 [v'] tItems
 lt:b3<base∧base<=w.heap.size
section
variable {base b3:Nat} {v v' u:Value} {li:List ItR} {it:It} {iA iS:Bool} {w w':World}
theorem AJ.below (h:AJ base b3 v li it iA iS v' w) (hb:Below w.heap.size w w'):AJ base b3 v li it iA iS v' w':=⟨fun e=>(h.box e).stays (hb.block _ (h.box e).inside),fun e=>(h.own e).below hb,fun e=>by
 obtain ⟨q,h1,h2⟩:=h.app e
 exact ⟨q,h1,h2.below hb⟩,fun e=>(h.sto e).stays (hb.block _ (h.sto e).inside),h.lt.1,Nat.le_trans h.lt.2 hb.size⟩
theorem AJ.slots (h:AJ base b3 v li it iA iS v' w) (e:u=v'):AJ base b3 v li it iA iS u w:=by rw [e];exact h
theorem AJ.appd (h:AJ base b3 v li it iA iS v' w) (hi:iS=false) {q:ItR} (hq:q.it=it) {v9:Value} (h2:Its w' base v9 (li++[q])) (e:u=v9) (hb:w'.heap[b3]?=w.heap[b3]?) (hs:w.heap.size<=w'.heap.size):AJ base b3 v li it true iS u w':=by
 subst hi e;exact ⟨fun _=>(h.box rfl).stays hb,nofun,fun _=>⟨q,hq,h2⟩,nofun,h.lt.1,Nat.le_trans h.lt.2 hs⟩
theorem AJ.stord (h:AJ base b3 v li it iA iS u w) (hA:iA=true) (hS:iS=false) {v9:Value} (e:u=v9):AJ base b3 v li it iA true u (w.setCell ⟨b3,0,none⟩ v9):=by
 subst hA hS e
 exact ⟨nofun,nofun,fun _=>by
  obtain ⟨q,h1,h2⟩:=h.app rfl
  exact ⟨q,h1,h2.stays fun k hk _=>heap_setCell_other _ _ _ _ (by have:=h.lt.1;show k≠b3;omega)⟩,fun _=>(h.box rfl).set 0 u,h.lt.1,by have:=h.lt.2;simpa [World.setCell] using this⟩
end
def SayC (B:Nat) (c:List Cl) (w:World) (g:Nat):Prop:=Blk w g (c.flatMap Cl.cs)∧B<=g
theorem SayC.turn {S:Bset} {B:Nat} {c:List Cl} {w w':World} {g:Nat} (hS:∀ k,S k->k<B) (h:SayC B c w g) (ht:TurnP S S w w'):SayC B c w' g:=⟨h.1.stays (ht.far _ h.1.inside fun e=>by have:=hS _ e;have:=h.2;omega).2,h.2⟩
theorem list_any {w:World} {g b m:Nat} {s:Sh} {Z:ZZ} {x:PSc} (h:SceneAt w g b m s Z x) (hx:Sane x) (hn:x.t.length<=900) :
  Calls prog 21 #[.pointer (some ⟨g,0,none⟩)] w (ListQ x w):=by
 have HS:=Hd h;have HX:=Hd hx;have HN:=Hd hn;have HWR:Hid (∀ i,has x.t i=true->(x.ws i).right=true):=fun i hi=>world_right hx.ok (fun i=>(hx.good i) |> fun h=>(ndC_zero h).1) (has_iff.1 hi) _ (hx.set i hi (fun _ _ h=>h) (fun h=>h));have HXL:Hid ((trm.walk x.t 0).length=x.t.length+1):=walk_len hx.ok;have HXM:Hid (∀ i,i∈trm.walk x.t 0↔has x.t i=true):=fun i=>walk_all hx.ok;unfold ListQ;clear h hx hn;have HB0:Hid (Below w.heap.size w ((w.alloc (.cells #[.pointer (some ⟨g,0,none⟩)] 25)).alloc (.cells #[.slice none 0 0] 59))):=(bR.alloc nR _).alloc (by simp) _
 have HK1:Hid (BlkT ((w.alloc (.cells #[.pointer (some ⟨g,0,none⟩)] 25)).alloc (.cells #[.slice none 0 0] 59)) w.heap.size [.pointer (some ⟨g,0,none⟩)] 25):=(BlkT.new w [.pointer (some ⟨g,0,none⟩)] _).al _;have HK3:Hid (BlkT ((w.alloc (.cells #[.pointer (some ⟨g,0,none⟩)] 25)).alloc (.cells #[.slice none 0 0] 59)) (w.heap.size+1) [.slice none 0 0] 59):=blkT_at (w.alloc _) _ (by simp) [.slice none 0 0] _;have HSZ0:Hid (((w.alloc (.cells #[.pointer (some ⟨g,0,none⟩)] 25)).alloc (.cells #[.slice none 0 0] 59)).heap.size=w.heap.size+2):=by show _=_;simp
 refine calls_of_marks func21 rfl ?_;simp only [ntmps21,List.size_toArray,List.length_cons,List.length_nil,Nat.reduceAdd,Nat.reduceSub,Array.replicate_succ,Array.replicate_zero,List.push_toArray,List.append_toArray,List.nil_append,List.cons_append]
 go_upto_region 2 with (fail)
 generalize ((w.alloc (.cells #[.pointer (some ⟨g,0,none⟩)] 25)).alloc (.cells #[.slice none 0 0] 59))=w0 at *;have hmk:=make_downs w0;have hm1:VM (w0.alloc (.map #[] 0)) w0.heap.size []:=VM.made w0;have HM1:=Hd hm1;have hb1:Below w0.heap.size w0 (w0.alloc (.map #[] 0)):=bR.alloc nR _;have HB01:Hid (Below w0.heap.size w0 (w0.alloc (.map #[] 0))):=hb1;have HB1:Hid (Below w.heap.size w (w0.alloc (.map #[] 0))):=HB0.o.trans (hb1.mono HB0.o.size);obtain ⟨⟨q0,-,-,-,-,-⟩,qi⟩:=(HS.o.below HB1.o).top
 have cs1:(w0.alloc (.map #[] 0)).cell? ⟨w.heap.size,0,none⟩=some (.pointer (some ⟨g,0,none⟩)):=(HK1.o.al _).blk.cell 0;have csi:w.heap.size<(w0.alloc (.map #[] 0)).heap.size:=(HK1.o.al _).inside;have HTP:=Hd (tparent (HS.o.below HB1.o).tree 0 (by constructor<;>decide));have hinv:=inv_parent (.pointer (some ⟨b,0,none⟩)) (.int .i64 0);rw [par_none (not_id0 HX.o.ok)] at HTP;clear hm1 hb1;go_wp2_with (fail);refine HTP.o.mono ?_;rintro e w2 ⟨rfl,hb2⟩;have HM2:=Hd (HM1.o.below hb2);have HB02:Hid (Below w0.heap.size w0 w2):=HB01.o.trans (hb2.mono HB01.o.size)
 clear hb2 HM1 HB1 HB01 hmk q0 qi cs1 csi hinv HTP
 obtain ⟨m2,hm2⟩:∃ m2,w0.heap.size=m2:=⟨_,rfl⟩
 rw [hm2] at HM2 ⊢;have HMZ:Hid (w0.heap.size=m2):=hm2;clear hm2;obtain ⟨w3,hrun,hm3,hg3⟩:=HM2.o.store (t:=tDowns) (E:=tDown) und_downs (i:=-1) ⟨by decide,by decide⟩ (.agg (dnC Dn.top none).toArray) (by decide);have HM3:=Hd hm3;have HB03:Hid (Below w0.heap.size w0 w3):=HB02.o.grown hg3 HB02.o.size fun k hk=>by cases hk;exact Nat.le_of_eq HMZ.o
 clear hm3 hg3 HM2 HB02
 go_upto_region 3 with (first | ((with_reducible refine gU ?_);refine wpl_build _ _ rfl rfl (by simp [go_sem]) (build_dn0 _) ?_))
 have HB4a:Hid (Below w3.heap.size w3 (w3.alloc (.cells #[.map (some m2)] 145))):=bR.alloc nR _;have HK4:Hid (BlkT (w3.alloc (.cells #[.map (some m2)] 145)) w3.heap.size [.map (some m2)] 145):=BlkT.new w3 [.map (some m2)] _;have HM4:Hid (VM (w3.alloc (.cells #[.map (some m2)] 145)) m2 (omap.put lt (-1) (.agg (dnC Dn.top none).toArray) [])):=HM3.o.below HB4a.o;have HB04:Hid (Below w0.heap.size w0 (w3.alloc (.cells #[.map (some m2)] 145))):=HB03.o.trans (HB4a.o.mono HB03.o.size);have HS4:Hid (m2<w3.heap.size):=HM3.o.inside
 obtain ⟨b4,hb4⟩:∃ b4,w3.heap.size=b4:=⟨_,rfl⟩
 rw [hb4] at HK4 HS4 ⊢;clear hb4 HB03 HM3 HB4a hrun;generalize (w3.alloc (.cells #[.map (some m2)] 145))=w4 at *;have HBW4:=Hd (HB0.o.trans (HB04.o.mono HB0.o.size));have HK14:Hid (BlkT w4 w.heap.size [.pointer (some ⟨g,0,none⟩)] 25):=HK1.o.stays (HB04.o.block _ HK1.o.inside);have HK34:Hid (BlkT w4 (w.heap.size+1) [.slice none 0 0] 59):=HK3.o.stays (HB04.o.block _ HK3.o.inside)
 have HM24:Hid (w.heap.size+1<m2∧m2<b4):=⟨by have:=HK3.o.inside;have:=HMZ.o;omega,HS4.o⟩
 clear HK1 HK3 HB0 HB04 HMZ HS4 HSZ0;obtain ⟨⟨q0,-,-,-,-,-⟩,qi⟩:=(HS.o.below HBW4.o).top;have cs1:w4.cell? ⟨w.heap.size,0,none⟩=some (.pointer (some ⟨g,0,none⟩)):=HK14.o.blk.cell 0;have csi:=HK14.o.inside;have HTW:=Hd (twalk (HS.o.below HBW4.o).tree (by have:=HN.o;omega));have hinv:=inv_walk (.pointer (some ⟨b,0,none⟩));go_wp2_with (fail);refine HTW.o.mono ?_;rintro e w5 ⟨ib,db,v1,v2,rfl,hi1,hi2,hx1,hx2,ho1,ho2,hb5⟩;clear q0 qi cs1 csi hinv HTW;have HB5:=Hd (HBW4.o.trans (hb5.mono HBW4.o.size))
 have HK15:Hid (BlkT w5 w.heap.size [.pointer (some ⟨g,0,none⟩)] 25):=HK14.o.stays (hb5.block _ HK14.o.inside);have HK35:Hid (BlkT w5 (w.heap.size+1) [.slice none 0 0] 59):=HK34.o.stays (hb5.block _ HK34.o.inside);have HK45:Hid (BlkT w5 b4 [.map (some m2)] 145):=HK4.o.stays (hb5.block _ HK4.o.inside);have HM5:Hid (VM w5 m2 (omap.put lt (-1) (.agg (dnC Dn.top none).toArray) [])):=HM4.o.below hb5
 obtain ⟨b3,hb3⟩:∃ b3,w.heap.size+1=b3:=⟨_,rfl⟩
 have HB3:=Hd hb3;rw [hb3] at HK35 HM24 ⊢
 obtain ⟨sb,hsb⟩:∃ sb,w.heap.size=sb:=⟨_,rfl⟩
 have HSB:=Hd hsb;rw [hsb] at HK15 ⊢;have hz3:b3<w4.heap.size:=by have:=HK34.o.inside;omega
 have hz4:m2<w4.heap.size:=by have:=HK4.o.inside;have:=HM24.o;omega
 obtain ⟨B1,B2,d1,d2,hprs⟩:=prs_of2 (x:=b3) (y:=m2) hz3 hz4 hi1 hi2 hx1 hx2 ho1 ho2;have HPR:=Hd hprs
 have HXW:Hid (∀ j (h:j<(trm.walk x.t 0).length),(idsL x.t)[j]?.getD 0=(trm.walk x.t 0)[j]∧(depL x.t)[j]?.getD 0=(depth x.t (trm.walk x.t 0)[j]:Nat)):=fun j h=>by
  have hj2:j<(wd x.t 0 0).length:=by rw [wd_len];exact h
  have e:=wd_at hj2 h;rw [idsL,depL,List.getElem?_map,List.getElem?_map,List.getElem?_eq_getElem hj2,e];exact ⟨rfl,rfl⟩
 have HEL:Hid ((pairE (idsL x.t) (depL x.t)).length=(trm.walk x.t 0).length):=by show _=_;rw [pairE_len,idsL,List.length_map,wd_len]
 have HIL:Hid ((idsL x.t).length=(trm.walk x.t 0).length∧(depL x.t).length=(idsL x.t).length):=by show _∧_;rw [depL,idsL,List.length_map,List.length_map,wd_len];exact ⟨rfl,rfl⟩
 have HSB3:Hid (sb<b3∧b3<m2∧m2<b4∧b4<w5.heap.size):=⟨by omega,HM24.o.1,HM24.o.2,HK45.o.inside⟩
 have HSC:Hid (∀ W,KL2 b3 m2 w5 W->SceneAt W g b m s Z x∧Below w.heap.size w W∧BlkT W sb [.pointer (some ⟨g,0,none⟩)] 25∧BlkT W b4 [.map (some m2)] 145):=fun W hk=>by
  have h1:=HSB3.o;have h2:Below w.heap.size w W:=HB5.o.trans (hk.to_below (by omega) (by omega) HB5.o.size);exact ⟨HS.o.below h2,h2,HK15.o.stays (hk.same _ HK15.o.inside (by omega) (by omega)),HK45.o.stays (hk.same _ HK45.o.inside (by omega) (by omega))⟩
 clear hi1 hi2 hx1 hx2 ho1 ho2 hb5 hprs hz3 hz4 hsb hb3 HK14 HK34 HK4 HM4 HM24 HBW4;go_wp2_with (fail)
 refine wp_range (gf:=217) (lb:=#[.pointer (some ⟨ib,0,none⟩),.pointer (some ⟨db,0,none⟩)]) rfl (enters_of func217 (by kernel_rfl) rfl) (es:=pairE (idsL x.t) (depL x.t)) (R:=fun _=>Eq)
  (Kp:=fun A B=>Prs ib db B1 B2 d1 d2 (idsL x.t) (depL x.t) A->Prs ib db B1 B2 d1 d2 (idsL x.t) (depL x.t) B)
  (fun W1 hb=>pair_iter (by have h1:=HIL.o.1;have h2:=HXL.o;have:=HN.o;omega) HIL.o.2 (HPR.o W1 ((KL2.refl _ _ _).bk hb))) (fun h k x=>k (h x)) (fun A B hb h=>h.cells fun a v=>cell_bk hb) (fun n A B e k o _ hk _=>e ▸ hk)
  (fun e he=>by obtain ⟨j,_,rfl⟩:=List.mem_map.1 he;rfl)
  (fun k W=>LsI x w5 b3 m2 k W)
  (fun _ _ _=>False) (fun k A B h hr=>?hI) (fun _ _ _ _ h _=>h.elim) ⟨KL2.refl _ _ _,.slice none 0 0,[],_,HK35.o,Its.nil _ _,rfl,HM5.o,shown0 _ _⟩ ?a1 ?assign ?body ?done (fun _ _ _ _ _ _ h _=>h.elim)
 case hI=>
  rcases hr with ⟨n,hn,rfl⟩ | hb
  ·exact h
  ·exact h.bk hb
 case assign=>
  intro l j hj W9 KK hKK;rw [pairE_at]
  gi_wp2
  exact hKK
 case done=>
  rintro D W9 hD ⟨hk,v,li,es,hb3,hits,hmap,hvm,hsh⟩ hdd
  have HIS:Hid (li.map (·.it)=items x):=by
   show _=_;rw [hmap,HEL.o,List.take_length];rfl
  have HITS:=Hd hits;have HDD:=Hd hdd;have HD1:Hid (w5.heap.size<=D):=hD;have HW9:Hid (Below w.heap.size w W9):=(HSC.o W9 hk).2.1;have c3:W9.cell? ⟨b3,0,none⟩=some v:=hb3.blk.cell 0;have i3:=hb3.inside
  have HQO:Hid (∀ q∈li,q.it.Ok):=fun q hq=>by
   have h1:q.it∈items x:=by rw [← HIS.o];exact List.mem_map_of_mem hq
   obtain ⟨i,hi,he⟩:=List.mem_filterMap.1 h1;exact item_ok HX.o.good HX.o.fit HX.o.ok HWR.o HN.o (has_iff.1 ((HXM.o i).1 hi)) he
  obtain ⟨A,n9,c,rfl⟩:=hits.own.shape;clear hk hb3 hits hmap hvm hsh hdd hD;go_wp2_with (fail)
  refine postM_ret w5.heap.size ⟨⟨D,rfl,HD1.o,HDD.o,by simp⟩,trivial⟩ fun w' hb=>⟨_,results_tmp rfl _ _ _,?_⟩
  have h5:=HB5.o.size;have hI:=HITS.o.bk hb;obtain ⟨A',c',e',-,-,hrow⟩:=hI.own.row ItR.cs_len
  injection e' with e1 e2 e3
  subst e1 e2 e3;refine ⟨_,_,li,rfl,hrow,fun q hq=>⟨(hI.at_ q hq).1,HQO.o q hq,fun a ea hne=>Nat.le_trans h5 ((hI.at_ q hq).2.c a ea hne).1,fun a ea hne=>Nat.le_trans h5 ((hI.at_ q hq).2.p a ea hne).1⟩,HIS.o,fun a ea hne=>?_,HW9.o.trans (hb.below h5 HW9.o.size)⟩;obtain ⟨g0,c0,e0,-⟩:=hI.own.row0 ItR.cs_len (List.length_pos_iff.2 hne);have h0:=(hI.own.block (g:=g0) (by rw [e0];rfl)).1;rw [ea] at e0
  injection e0 with e0 _ _
  injection e0 with e0
  rw [e0];exact Nat.le_trans h5 h0
 case body=>
  rintro l j hj W9 ⟨hk,v,li,es,hb3,hits,hmap,hvm,hsh⟩;have hjX:j<(trm.walk x.t 0).length:=by rw [HEL.o] at hj;exact hj
  obtain ⟨h1,h2⟩:=HXW.o j hjX;have HHI:Hid (has x.t (trm.walk x.t 0)[j]=true):=(HXM.o _).1 (List.getElem_mem hjX);obtain ⟨d,p,okb,hlk,hsm,hyes,hno⟩:=hsh.look HX.o.ok hjX;obtain ⟨hnw,hn1,htk⟩:=walk_new HX.o.ok hjX;have HJB:Hid (j<=900):=by have:=HXL.o;have:=HN.o;show _<=_;omega
  have HFS:=Hd (filterMap_snoc (itemOf x) hjX);have HNEW:=Hd (And.intro hnw (And.intro hn1 htk));have HLEN:Hid (((trm.walk x.t 0).take j).length=j):=by show _=_;rw [List.length_take];omega
  rw [h1,h2];generalize (trm.walk x.t 0)[j]=id at *;generalize hT1:(trm.walk x.t 0).take (j+1)=T1 at *;have HT1:=Hd hT1;clear hT1;generalize (trm.walk x.t 0).take j=T0 at *;generalize hdx:depth x.t id=dx at *;have HI64:Hid (I64 id):=has_64 HX.o.ok HHI.o
  have HPI:Hid (I64 (par x.t id)):=by
   by_cases h0:id=0
   ·rw [h0,par_none (not_id0 HX.o.ok)];constructor<;>decide
   ·rcases HX.o.ok.pin _ (par_mem ((has_iff.1 HHI.o).resolve_left h0)) with e | e
    ·simp only at e;rw [e];constructor<;>decide
    ·exact has_64 HX.o.ok (has_iff.2 (.inr e))
  have HDUP:=Hd (fun d h=>up_ok HX.o.good HX.o.ok HWR.o HN.o (has_iff.1 HHI.o) (d:=d) h);have HUP:Hid (downOf x id=Dn.step (x.nd id) (x.ws id) (upOf x id)):=downOf_up HX.o.ok (has_iff.1 HHI.o);have HYES:=Hd hyes;have HNO:=Hd hno;have HK:=Hd hk;have HB3B:=Hd hb3;have HITS:=Hd hits;have HMAP:=Hd hmap;have HVM:=Hd hvm;have HSH:=Hd hsh;have HVN:Hid (∀ k,v.ownBlock=some k->k<W9.heap.size):=fun k e=>(hits.own.block e).2;have HVB:Hid (∀ k,v.ownBlock=some k->w5.heap.size<=k):=fun k e=>(hits.own.block e).1
  have HST:Hid (∀ W,TurnP (SL3 b3 m2 v) (SL3 b3 m2 v) W9 W->SceneAt W g b m s Z x∧Below w.heap.size w W∧BlkT W sb [.pointer (some ⟨g,0,none⟩)] 25∧BlkT W b4 [.map (some m2)] 145∧KL2 b3 m2 w5 W):=fun W ht=>by
   have h:=HK.o.turn ht HVB.o;obtain ⟨a1,a2,a3,a4⟩:=HSC.o W h;exact ⟨a1,a2,a3,a4,h⟩
  have HSB9:Hid (∀ W,Below W9.heap.size W9 W->SceneAt W g b m s Z x∧Blk W sb [.pointer (some ⟨g,0,none⟩)]∧Blk W b4 [.map (some m2)]∧VM W m2 es):=fun W hb=>by
   obtain ⟨a1,a2,a3,a4,-⟩:=HST.o W (TurnP.below hb);exact ⟨a1,a3.blk,a4.blk,HVM.o.below hb⟩
  -- what a round leaves,if nothing of what is told changes
  have HFIN:Hid (∀ W v' li' es',TurnP (SL3 b3 m2 v) (SL3 b3 m2 v) W9 W->BlkT W b3 [v'] tItems->Its W w5.heap.size v' li'->li'.map (·.it)=T1.filterMap (itemOf x)->VM W m2 es'->Shown x W es' T1 ->
    KB W9 W∧(Prs ib db B1 B2 d1 d2 (idsL x.t) (depL x.t) W9->Prs ib db B1 B2 d1 d2 (idsL x.t) (depL x.t) W)∧LsI x w5 b3 m2 (j+1) W):=fun W v' li' es' ht a1 a2 a3 a4 a5=>by
   obtain ⟨-,-,-,-,hky⟩:=HST.o W ht;refine ⟨fun k o hk9 ho=>(ht.far k (Array.getElem?_eq_some_iff.1 hk9).1 fun e=>?_).2.trans hk9,fun _=>HPR.o W hky,hky,v',li',es',a1,a2,by rw [HT1.o];exact a3,a4,by rw [HT1.o];exact a5⟩;rcases e with e | e | e
   ·rw [e,HB3B.o] at hk9;cases hk9;cases ho
   ·obtain ⟨es0,clock,h0,_⟩:=HVM.o.own;rw [e,h0] at hk9;cases hk9;cases ho
   ·obtain ⟨cu,h0⟩:=HITS.o.own.typed e;rw [h0] at hk9;cases hk9;cases ho
  have HSKIP:Hid (∀ W,Below W9.heap.size W9 W->downOf x id=none->KB W9 W∧(Prs ib db B1 B2 d1 d2 (idsL x.t) (depL x.t) W9->Prs ib db B1 B2 d1 d2 (idsL x.t) (depL x.t) W)∧LsI x w5 b3 m2 (j+1) W):=fun W hb hd=>by
   refine HFIN.o W v li es (TurnP.below hb) (HB3B.o.stays (hb.block _ HB3B.o.inside)) (HITS.o.below hb) ?_ (HVM.o.below hb) ?_
   ·rw [HFS.o,HMAP.o,show itemOf x id=none from by unfold itemOf;rw [hd];rfl];simp
   ·rw [HNEW.o.2.2];exact (HSH.o.keep fun k cu fr hk=>hb.block _ (Array.getElem?_eq_some_iff.1 hk).1).skip HNEW.o.1 HNEW.o.2.1 hd
  have FV:Hid (∀ W,Below W9.heap.size W9 W->(Instr.lookup tDowns (.map (some m2)) (.int .i64 (par x.t id)) true).run prog W=.ok (.tuple #[.agg (dnC d p).toArray,.bool okb]) W):=fun W hb=>by
   have h:=(HSB9.o W hb).2.2.2.look_ok und_downs (zero_down W) HPI.o;rw [hlk,hsm] at h;exact h
  have FP:Hid (∀ W,Below W9.heap.size W9 W->Calls prog 214 #[.pointer (some ⟨b,0,none⟩),.int .i64 id] W fun e w'=>e=.returned (.int .i64 (par x.t id))∧Below W.heap.size W w'):=fun W hb=>tparent (HSB9.o W hb).1.tree id HI64.o;have FS:Hid (∀ W,Below W9.heap.size W9 W->Blk W sb [.pointer (some ⟨g,0,none⟩)]):=fun W hb=>(HSB9.o W hb).2.1;have F4:Hid (∀ W,Below W9.heap.size W9 W->Blk W b4 [.map (some m2)]):=fun W hb=>(HSB9.o W hb).2.2.1;have FG:Hid (∀ W,Below W9.heap.size W9 W->Blk W g (sccs b m Z)):=fun W hb=>(HSB9.o W hb).1.blk.blk;generalize par x.t id=pp at *
  clear hk hb3 hits hmap hvm hsh hlk hsm hyes hno hnw hn1 htk h1 h2 hj hjX hdx HXW;refine wpIn_block (wpIn_seq ?_)
  refine regvi.wp_region_put (Below W9.heap.size) (fun L V wx=>JN W9.heap.size [] ([.int .i64 0,.int .i64 0,.int .i64 0,.int .i64 0,.int .i64 0,.int .i64 0,.int .i64 0,.pointer none]) (dnC d p) (L 11) (L 12) (V 6) wx) [29,30,31,32,33,34,35,36,28,37,38,6,7] (by kernel_rfl) (by kernel_rfl) (by kernel_rfl) (fun _=>bR) (fun _ _ _ h k=>h.trans k) (fun i=>(match i with
   |0=>rV (.map (some m2))
   |1|2|3=>rp g 0
   |4=>rV (.iface 102 (.pointer (some ⟨b,0,none⟩)))
   |5=>rV (.int .i64 id)
   |6=>rV (.int .i64 pp)
   |7|8=>rV (.tuple #[.agg (dnC d p).toArray,.bool okb])
   |9=>rV (.agg (dnC d p).toArray)
   |10|13=>rV (.bool okb)
   | _=>ra:regs.Say (Below W9.heap.size)).p) (fun _=>regs.Say.mono _) (by kernel_rfl) (bR.drew) (JN.start (old:=[]) trivial) ⟨?_,?_,?_,?_,?_,?_,?_,?_,?_,?_,?_,?_,?_,?_,trivial⟩ ?_
  ·refine zpv fun L a w1 hh=>?_;have h4:=hh.p 4 b4 0;have ⟨c0,i0⟩:=(F4.o _ hh.rel).ci 0 rfl;have hJ:=hh.j;clear hh;go_simp;exact ⟨_,rfl,bR,rfl,JN.slots hJ.o sn⟩
  ·refine zpv fun L a w1 hh=>?_;have h1:=hh.p 1 sb 0;have ⟨c0,i0⟩:=(FS.o _ hh.rel).ci 0 rfl;have hJ:=hh.j;clear hh;go_simp;exact ⟨_,rfl,bR,rfl,JN.slots hJ.o sn⟩
  ·refine zpv fun L a w1 hh=>?_;have h30:=rq (hh.d 1 30);have hJ:=hh.j;clear hh;go_simp;exact ⟨_,rfl,bR,rfl,JN.slots hJ.o sn⟩
  ·refine zpv fun L a w1 hh=>?_;have h31:=rq (hh.d 2 31);have i0:=(FG.o _ hh.rel).inside;have hJ:=hh.j;clear hh;go_simp;exact ⟨_,rfl,bR,rfl,JN.slots hJ.o sn⟩
  ·refine zpv fun L a w1 hh=>?_;have h32:=rq (hh.d 3 32);have ⟨c0,i0⟩:=(FG.o _ hh.rel).ci 0 rfl;have hJ:=hh.j;clear hh;go_simp;exact ⟨_,rfl,bR,rfl,JN.slots hJ.o sn⟩
  ·refine zpv fun L a w1 hh=>?_;have h5:=hh.o 5 (v:=.int .i64 id) rfl;have hJ:=hh.j;clear hh;go_simp;exact ⟨_,rfl,bR,rfl,JN.slots hJ.o sn⟩
  ·refine zpv fun L a w1 hh=>?_;have h33:=rq (hh.d 4 33);have h34:=rq (hh.d 5 34);have hinv:=inv_parent (.pointer (some ⟨b,0,none⟩)) (.int .i64 id);have hC:=Hd (FP.o _ hh.rel);have hJ:=hh.j;clear hh;go_simp;refine hC.o.mono ?_;rintro e w9 ⟨rfl,hb9⟩;exact ⟨_,rfl,hb9.mono hJ.o.1.2.1,rfl,JN.slots (JN.below hJ.o hb9) sn⟩
  ·refine zpv fun L a w1 hh=>?_;have h29:=rq (hh.d 0 29);have h35:=rq (hh.d 6 35);have hlk:=FV.o _ hh.rel;have hJ:=hh.j;clear hh;go_simp;exact ⟨_,rfl,bR,rfl,JN.slots hJ.o sn⟩
  ·refine zpv fun L a w1 hh=>?_;have h36:=rq (hh.d 7 36);have hJ:=hh.j;clear hh;go_simp;exact ⟨_,rfl,bR,rfl,JN.slots hJ.o sn⟩
  ·refine zpv fun L a w1 hh=>?_;have h28:=rq (hh.d 8 28);have hJ:=hh.j;clear hh;go_simp;exact ⟨_,rfl,bR,rfl,JN.slots hJ.o sn⟩
  ·refine zpv fun L a w1 hh=>?_;have h28:=rq (hh.d 8 28);have hJ:=hh.j;clear hh;go_simp;exact ⟨_,rfl,bR,rfl,JN.slots hJ.o sn⟩
  ·refine zpv fun L a w1 hh=>?_;have hJ:=Hd hh.st;have hsz:=Hd hh.size;have hun:=Hd hh.un;clear hh;go_simp;exact ⟨_,rfl,bR.alloc hJ.o.1.2.1 _,trivial,JN.new hJ.o hun.o (regv.sl_same (by rw [hsz.o];simp))⟩
  ·refine zpv fun L a w1 hh=>?_;have h37:=rq (hh.d 9 37);have hup:=hh.up 11 (by kernel_rfl);obtain ⟨g9,h9,hg9,hB9⟩:=hh.st.2.1 hup;have h6:a.tmps[6]?.getD undef=.pointer (some ⟨g9,0,none⟩):=rq (h9);rw [hh.un] at hB9;have hJ:=Hd hh.st;have hun:=Hd hh.un;refine wp_stow 144 _ _ rfl g9 0 (by simpa [go_sem] using h6) (dnC d p) (by simpa [go_sem] using h37) _ hB9 (nE rfl) (by kernel_rfl) (by rfl) ?_;intro w9 hW9 hC9;have hP:=hJ.o.stow hup hun.o h9 hW9 hC9 rfl;exact ⟨undef,rfl,hP.2,trivial,hP.1⟩
  ·refine zpv fun L a w1 hh=>?_;have h38:=rq (hh.d 10 38);have hJ:=hh.j;clear hh;go_simp;exact ⟨_,rfl,bR,rfl,JN.slots hJ.o sn⟩
  intro L w6 val hL hJ hR hv;have h7:val 7=.bool okb:=hv 13 7 (by kernel_rfl);have HR6:=Hd hR;obtain ⟨g6,e6,hg6,hB6⟩:=hJ.2.1 (hL 11 (by decide));rw [hL 12 (by decide)] at hB6;have HB6:=Hd (And.intro hg6 hB6);clear hv hL hJ hR hg6 hB6;simp only [regs.putAll,List.map_cons,List.map_nil,h7];simp only [Act.put,List.setIfInBounds_toArray,List.set_cons_zero,List.set_cons_succ];clear h7
  skip
  rw [e6];clear e6;have HBB6:Hid (Below W9.heap.size W9 w6):=HR6.o;clear HR6 FV FP FS F4 FG;simp only [Exit.then];cases okb with
  | false=>
   have HD:Hid (downOf x id=none):=by
    show _=_;rw [HUP.o,HNO.o rfl];rfl
   have HF:=Hd (HSKIP.o w6 HBB6.o HD.o);clear HSKIP HFIN
   gi_wp2_with (fail)
   exact HF.o
  | true=>
   obtain ⟨hupd,hcl⟩:=HYES.o rfl;rw [hupd] at HUP;have HDO:=Hd (HDUP.o d hupd);have HCL:=Hd hcl;have HNC:=Hd (node_any (HSB9.o w6 HBB6.o).1 HX.o.fit id HI64.o);have hnd:ndAt x id=x.nd id:=if_pos HHI.o;have hws:wsAt x id=x.ws id:=if_pos HHI.o;have HWC:=Hd (fun W (hb:Below W9.heap.size W9 W)=>world_any (HSB9.o W hb).1 id HI64.o);have HHB:Hid (has x.t id=true):=HHI.o;rw [hnd,HHB.o] at HNC;rw [hws,HHB.o] at HWC;have HCK:Hid ((x.nd id).chk=0):=HX.o.good id
   have HIT:Hid (∀ q,itemOf x id=some q->q.Ok):=fun q hq=>item_ok HX.o.good HX.o.fit HX.o.ok HWR.o HN.o (has_iff.1 HHI.o) hq;have HIE:Hid (itemOf x id=(downOf x id).bind fun d=>if (x.nd id).lk.k=0 then none else some ⟨id,x.ws id,d.b,d.c.reverse,d.o,(x.nd id).lk⟩):=rfl;generalize x.nd id=n at *;generalize x.ws id=u at *;have c1:=(HSB9.o w6 HBB6.o).2.1.c 0 rfl;have i1:=(HSB9.o w6 HBB6.o).2.1.inside;clear hupd hcl hnd hws HYES HNO HDUP HHB
   gi_wp2_with (fail)
   refine ⟨trivial,rfl,CallsIn.inRound l ((callsIn_wide (n:=0)).2 (HNC.o.mono ?_))⟩;rintro e w7 ⟨An,cn,rfl,hbN,hoff,hnw⟩;have HBB7:Hid (Below W9.heap.size W9 w7):=HBB6.o.trans (hbN.mono HBB6.o.size);have HB67:=Hd (HB6.o.2.below' hbN);have HRA:Hid (Row eW w7 An n.lk.l):=hoff.row;have HRF:Hid (∀ a,An=some a->n.lk.l≠[]->W9.heap.size<=a.block):=fun a ea hne=>Nat.le_trans HBB6.o.size (hnw a ea hne).1;clear hbN hoff hnw c1 i1 HNC;have HZ8:Hid (Blk (w7.alloc (.cells Va.toArray 93)) w7.heap.size Va):=blk_new w7 Va _
   have HBa:Hid (Below w7.heap.size w7 (w7.alloc (.cells Va.toArray 93))):=bR.alloc nR _
   gi_upto_region 8 with (first | ((with_reducible show wpListIn _ _ _ _ _ (Oper.mk _ (Op.store _ _ _) _ _ _ _::_) _ _);first | (refine wpl_stow_in 93 _ _ rfl rfl rfl _ 0 rfl (n.cs An cn) rfl (Va) HZ8.o (n.cs An cn) rfl (nE rfl) (by kernel_rfl) (Nd.one _ _ _) ?_;intro w8 HW8 HK8)))
   have HBb:Hid (Below w7.heap.size w7 w8):=HW8.o.below HBa.o nR
   obtain ⟨k8,hk8⟩:∃ k8,w7.heap.size=k8:=⟨_,rfl⟩
   have HBB8:Hid (Below W9.heap.size W9 w8):=HBB7.o.trans (HBb.o.mono HBB7.o.size);have HB68:=Hd (HB67.o.below' HBb.o);have HRB:=Hd (Row.below HRA.o HBb.o);have HG8:Hid (W9.heap.size<=k8):=by rw [← hk8];exact HBB7.o.size
   rw [hk8] at HK8 ⊢;clear HZ8 HBa HW8 HBb HBB7 HB67 HRA hk8;have c1:=(HSB9.o w8 HBB8.o).2.1.c 0 rfl;have i1:=(HSB9.o w8 HBB8.o).2.1.inside;have HWD:=Hd (HWC.o w8 HBB8.o)
   gi_wp2_with (fail)
   refine ⟨trivial,rfl,CallsIn.inRound l ((callsIn_wide (n:=0)).2 (HWD.o.mono ?_))⟩;rintro e wA ⟨rfl,hbA⟩;have HBBA:Hid (Below W9.heap.size W9 wA):=HBB8.o.trans (hbA.mono HBB8.o.size);have HB6A:=Hd (HB68.o.below' hbA);have HK8A:=Hd (HK8.o.below' hbA);have HRC:=Hd (Row.below HRB.o hbA);clear hbA c1 i1 HWC HWD HBB8 HB68 HK8 HRB;have HZ8:Hid (Blk (wA.alloc (.cells Vd.toArray 65)) wA.heap.size Vd):=blk_new wA Vd _;have HBa:Hid (Below wA.heap.size wA (wA.alloc (.cells Vd.toArray 65))):=bR.alloc nR _
   gi_upto_region 9 with (first | ((with_reducible show wpListIn _ _ _ _ _ (Oper.mk _ (Op.store _ _ _) _ _ _ _::_) _ _);first | (refine wpl_stow_in 65 _ _ rfl rfl rfl _ 0 rfl (u.cs) rfl (Vd) HZ8.o (u.cs) rfl (nE rfl) (by kernel_rfl) (Mp.one1 _) ?_;intro wB HWB HKB)))
   have HBb:Hid (Below wA.heap.size wA wB):=HWB.o.below HBa.o nR
   obtain ⟨kA,hkA⟩:∃ kA,wA.heap.size=kA:=⟨_,rfl⟩
   have HBBB:Hid (Below W9.heap.size W9 wB):=HBBA.o.trans (HBb.o.mono HBBA.o.size);have HB6B:=Hd (HB6A.o.below' HBb.o);have HK8B:=Hd (HK8A.o.below' HBb.o);have HRD:=Hd (Row.below HRC.o HBb.o);have HGA:Hid (W9.heap.size<=kA):=by rw [← hkA];exact HBBA.o.size
   rw [hkA] at HKB ⊢;clear HZ8 HBa HWB HBb HBBA HB6A HK8A HRC hkA;have i6:=HB6B.o.inside;have i8:=HK8B.o.inside;have iA:=HKB.o.inside;have HTO:=Hd (to_any d p n An cn u wB HDO.o.1 HCK.o (HCL.o.below HBBB.o) HDO.o.2)
   gi_wp2_with (first | ((with_reducible show wpListIn _ _ _ _ _ (Oper.mk _ (Op.load _ _) _ _ _ _::_) _ _);first | (refine wpl_take_in 144 _ rfl rfl _ 0 rfl (dnC d p) HB6B.o (dnC d p) rfl _ underlying144 rfl (by kernel_rfl) ?_) | (refine wpl_take_in 93 _ rfl rfl _ 0 rfl (n.cs An cn) HK8B.o (n.cs An cn) rfl _ underlying93 rfl (by kernel_rfl) ?_) | (refine wpl_take_in 65 _ rfl rfl _ 0 rfl (u.cs) HKB.o (u.cs) rfl _ underlying65 rfl (by kernel_rfl) ?_)))
   refine ⟨trivial,rfl,CallsIn.inRound l ((callsIn_wide (n:=0)).2 (HTO.o.mono ?_))⟩;rintro e wC ⟨p2,rfl,hcl2,hbC⟩;have HBBC:Hid (Below W9.heap.size W9 wC):=HBBB.o.trans (hbC.mono HBBB.o.size);have HK8C:=Hd (HK8B.o.below' hbC);have HKAC:=Hd (HKB.o.below' hbC);have HRE:=Hd (Row.below HRD.o hbC);have HCL2:=Hd hcl2;clear hbC hcl2 HTO i6 i8 iA HBBB HB6B HK8B HKB HRD HCL;have HST2:Hid (downOf x id=if d.ok n u=true then some (d.to n u) else none):=HUP.o
   obtain ⟨d2,hd2⟩:∃ d2,d.to n u=d2:=⟨_,rfl⟩
   obtain ⟨ok2,hok2⟩:∃ ok2,d.ok n u=ok2:=⟨_,rfl⟩
   rw [hd2] at HCL2 HST2 ⊢;rw [hok2] at HST2 ⊢;clear hd2 hok2 HUP;have HZ8:Hid (Blk (wC.alloc (.cells #[.int .i64 0,.int .i64 0,.int .i64 0,.int .i64 0,.int .i64 0,.int .i64 0,.int .i64 0,.pointer none] 144)) wC.heap.size [.int .i64 0,.int .i64 0,.int .i64 0,.int .i64 0,.int .i64 0,.int .i64 0,.int .i64 0,.pointer none]):=blk_new wC [.int .i64 0,.int .i64 0,.int .i64 0,.int .i64 0,.int .i64 0,.int .i64 0,.int .i64 0,.pointer none] _
   have HBa:Hid (Below wC.heap.size wC (wC.alloc (.cells #[.int .i64 0,.int .i64 0,.int .i64 0,.int .i64 0,.int .i64 0,.int .i64 0,.int .i64 0,.pointer none] 144))):=bR.alloc nR _
   gi_upto_region 10 with (first | ((with_reducible show wpListIn _ _ _ _ _ (Oper.mk _ (Op.store _ _ _) _ _ _ _::_) _ _);first | (refine wpl_stow_in 144 _ _ rfl rfl rfl _ 0 rfl (dnC d2 p2) rfl ([.int .i64 0,.int .i64 0,.int .i64 0,.int .i64 0,.int .i64 0,.int .i64 0,.int .i64 0,.pointer none]) HZ8.o (dnC d2 p2) rfl (nE rfl) (by kernel_rfl) (dnC_one _ _) ?_;intro wD HWD HKD)))
   have HBb:Hid (Below wC.heap.size wC wD):=HWD.o.below HBa.o nR
   obtain ⟨kC,hkC⟩:∃ kC,wC.heap.size=kC:=⟨_,rfl⟩
   have HBBD:Hid (Below W9.heap.size W9 wD):=HBBC.o.trans (HBb.o.mono HBBC.o.size);have HK8D:=Hd (HK8C.o.below' HBb.o);have HKAD:=Hd (HKAC.o.below' HBb.o);have HRG:=Hd (Row.below HRE.o HBb.o);have HCL3:=Hd (HCL2.o.below HBb.o);have HGC:Hid (W9.heap.size<=kC):=by rw [← hkC];exact HBBC.o.size
   rw [hkC] at HKD ⊢;clear HZ8 HBa HWD HBb HBBC HK8C HKAC HRE HCL2 hkC;cases ok2 with
   | false=>
    have HF:=Hd (HSKIP.o wD HBBD.o (HST2.o.trans (if_neg (by decide))));clear HSKIP HFIN
    gi_wp2_with (fail)
    exact HF.o
   | true=>
    have HDD:Hid (downOf x id=some d2):=HST2.o.trans (if_pos rfl);have HVD:Hid (VM wD m2 es):=HVM.o.below HBBD.o;obtain ⟨wE,hrun,hmE,hgE⟩:=HVD.o.store (t:=tDowns) (E:=tDown) und_downs HI64.o (.agg (dnC d2 p2).toArray) (by have h1:=vput_len id (.agg (dnC d2 p2).toArray) es;have h2:=HSH.o.few;have h3:=HLEN.o;have h4:=HJB.o;omega);have HME:=Hd hmE;have HGE:=Hd hgE;have HM9:Hid (m2<W9.heap.size):=HVM.o.inside;have c4:=(HSB9.o wD HBBD.o).2.2.1.c 0 rfl;have i4:=(HSB9.o wD HBBD.o).2.2.1.inside;have iC:=HKD.o.inside;clear hmE hgE HST2 HSKIP
    gi_upto_region 12 with (first | ((with_reducible show wpListIn _ _ _ _ _ (Oper.mk _ (Op.load _ _) _ _ _ _::_) _ _);first | (refine wpl_take_in 144 _ rfl rfl _ 0 rfl (dnC d2 p2) HKD.o (dnC d2 p2) rfl _ underlying144 rfl (by kernel_rfl) ?_)))
    have HTE:Hid (TurnP (SL3 b3 m2 v) (SL3 b3 m2 v) W9 wE):=(TurnP.below HBBD.o).trans (TurnP.grown HGE.o fun k e=>.inr (.inl (Option.some.inj e).symm));have HKE8:Hid (Blk wE k8 (n.cs An cn)):=HK8D.o.stays (HGE.o.block _ HK8D.o.inside fun e=>by have:=Option.some.inj e;have:=HG8.o;have:=HM9.o;omega);have HKEA:Hid (Blk wE kA u.cs):=HKAD.o.stays (HGE.o.block _ HKAD.o.inside fun e=>by have:=Option.some.inj e;have:=HGA.o;have:=HM9.o;omega)
    have HKEC:Hid (Blk wE kC (dnC d2 p2)):=HKD.o.stays (HGE.o.block _ HKD.o.inside fun e=>by have:=Option.some.inj e;have:=HGC.o;have:=HM9.o;omega);have HRE:Hid (Row eW wE An n.lk.l):=Row.stays HRG.o fun a ea hne=>HGE.o.block _ (Row.lt HRG.o ea hne) fun e=>by have:=Option.some.inj e;have:=HRF.o a ea hne;have:=HM9.o;omega
    have hnm:∀ (k:Nat) (cu:Array Value) (T:TypeId) (fr:Nat×Nat),wD.heap[k]?=some (Obj.cells cu T fr)->wE.heap[k]?=wD.heap[k]?:=fun k cu T fr h=>HGE.o.block _ (Array.getElem?_eq_some_iff.1 h).1 fun e=>by
     obtain ⟨es0,clock,h0,_⟩:=HVD.o.own;have:=Option.some.inj e;subst this;rw [h0] at h;cases h
    have HCLE:Hid (ClR wE p2 d2.c):=HCL3.o.keep fun k cu fr h=>hnm k cu _ fr h
    have HSHE:Hid (Shown x wE (omap.put lt id (.agg (dnC d2 p2).toArray) es) T1):=by
     show Shown _ _ _ _;rw [HNEW.o.2.2];refine (HSH.o.keep fun k cu fr h=>?_).put HNEW.o.1 HNEW.o.2.1 HDD.o HCLE.o;have h1:wD.heap[k]?=W9.heap[k]?:=HBBD.o.block k (Array.getElem?_eq_some_iff.1 h).1;exact (hnm k cu _ fr (h1.trans h)).trans h1
    have HITE:Hid (Its wE w5.heap.size v li):=(HITS.o.below HBBD.o).stays fun k hk1 hk2=>HGE.o.block k hk2 fun e=>by have:=Option.some.inj e;have:=HSB3.o;omega
    have HB3E:Hid (BlkT wE b3 [v] tItems):=(HB3B.o.stays (HBBD.o.block _ HB3B.o.inside)).stays (HGE.o.block _ (Nat.lt_of_lt_of_le HB3B.o.inside HBBD.o.size) fun e=>by have:=Option.some.inj e;have:=HSB3.o;omega);have c13:=HKE8.o.c 13 rfl;have i8:=HKE8.o.inside;rw [HDD.o,Option.bind_some] at HIE;clear hnm c4 i4 iC hrun HGE HVD HRG HCL3 HK8D HKAD HKD HSH HITS HB3B;by_cases hk0:n.lk.k=0
    ·rw [hk0] at c13;rw [if_pos hk0] at HIE;have HF:=Hd (HFIN.o wE v li _ HTE.o HB3E.o HITE.o (by rw [HFS.o,HMAP.o,HIE.o];simp) HME.o HSHE.o);clear hk0 HFIN
     gi_wp2_with (fail)
     exact HF.o
    ·have q0:(n.lk.k != 0)=true:=by simpa using hk0
     rw [if_neg hk0] at HIE
     obtain ⟨it,hit⟩:∃ it:It,(⟨id,u,d2.b,d2.c.reverse,d2.o,n.lk⟩:It)=it:=⟨_,rfl⟩
     obtain ⟨rc,hrc⟩:∃ rc,d2.c.reverse=rc:=⟨_,rfl⟩
     have HRC:=Hd hrc;rw [hit] at HIE;rw [hrc] at hit;have HITQ:=Hd hit
     have hS:∀ k,SL2 b3 v k->k<W9.heap.size:=fun k e=>by
      have h1:=HSB3.o;have h2:=HM9.o;rcases e with e | e
      ·omega
      ·exact HVN.o k e
     have HSS:=Hd hS
     obtain ⟨B9,hB9⟩:∃ B9,W9.heap.size=B9:=⟨_,rfl⟩
     rw [hB9] at HSS HG8 HGA HGC HRF;have HB95:Hid (w5.heap.size<=B9):=by rw [← hB9];exact HK.o.size
     have FM:Hid (∀ W,TurnP (SL2 b3 v) (SL2 b3 v) wE W->Blk W k8 (n.cs An cn)∧Blk W kA u.cs∧Blk W kC (dnC d2 p2)∧Row eW W An n.lk.l∧ClR W p2 d2.c):=fun W ht=>by
      have hf:∀ k,B9<=k->k<wE.heap.size->W.heap[k]?=wE.heap[k]?:=fun k h1 h2=>(ht.far k h2 fun e=>by have:=HSS.o k e;omega).2;refine ⟨HKE8.o.stays (hf _ HG8.o HKE8.o.inside),HKEA.o.stays (hf _ HGA.o HKEA.o.inside),HKEC.o.stays (hf _ HGC.o HKEC.o.inside),Row.stays HRE.o (fun a ea hne=>hf _ (HRF.o a ea hne) (Row.lt HRE.o ea hne)),HCLE.o.keep fun k cu fr h=>(ht.far k (Array.getElem?_eq_some_iff.1 h).1 fun e=>?_).2⟩;rcases e with e | e
      ·rw [e,HB3E.o] at h
       injection h with h
       injection h with _ h _
       exact absurd h (by decide)
      ·obtain ⟨cu0,h0⟩:=HITE.o.own.typed e;rw [h0] at h
       injection h with h
       injection h with _ h _
       exact absurd h (by decide)
     have HLL:Hid (d2.c.length<=2000):=by
      have h:=(HIT.o it HIE.o).few;rw [← HITQ.o,← HRC.o] at h;show _<=_
      simpa using h
     have FL:Hid (∀ W,TurnP (SL2 b3 v) (SL2 b3 v) wE W->Calls prog 53 #[pv p2] W fun e w'=>∃ g9,e=.returned (.slice (some ⟨g9,0,none⟩) rc.length d2.c.length)∧W.heap.size<=g9∧Blk w' g9 (rc.flatMap Cl.cs)∧Below W.heap.size W w'):=fun W ht=>by
      rw [← HRC.o,List.length_reverse];exact clist_any d2.c p2 W (FM.o W ht).2.2.2.2 HLL.o
     have HBE:Hid (B9<=wE.heap.size):=by rw [← hB9];exact HTE.o.size
     have HJ0:Hid (∀ v',AJ w5.heap.size b3 v li it false false v' wE.drew):=fun v'=>⟨fun _=>HB3E.o.stays rfl,fun _=>HITE.o.below bR.drew,nofun,nofun,by have:=HSB3.o;omega,by have:=HB95.o;have:=HBE.o;show _<=wE.heap.size;omega⟩
     have HLI:Hid (li.length<=2000):=by
      have h1:=congrArg List.length HMAP.o;rw [List.length_map] at h1;have h2:=List.length_filterMap_le (itemOf x) T0;have h3:=HLEN.o;have h4:=HJB.o;show _<=_;omega
     have F8:Hid (∀ W,TurnP (SL2 b3 v) (SL2 b3 v) wE W->Blk W k8 (n.cs An cn)):=fun W ht=>(FM.o W ht).1;have FA:Hid (∀ W,TurnP (SL2 b3 v) (SL2 b3 v) wE W->Blk W kA u.cs):=fun W ht=>(FM.o W ht).2.1;have FC:Hid (∀ W,TurnP (SL2 b3 v) (SL2 b3 v) wE W->Blk W kC (dnC d2 p2)):=fun W ht=>(FM.o W ht).2.2.1;have FE:Hid (∀ W,TurnP (SL2 b3 v) (SL2 b3 v) wE W->B9<=W.heap.size):=fun W ht=>Nat.le_trans HBE.o ht.size;clear hB9
     gi_upto_region 13 with (fail)
     clear c13 i8 q0
     refine regvi.wp_region_put (TurnP (SL2 b3 v) (SL2 b3 v)) (fun L V wx=>AJ w5.heap.size b3 v li it (L 14) (L 15) (V 83) wx∧(L 15=true->L 0=true)∧(L 15=true->L 14=true)) [69,70,71,72,73,74,75,76,77,78,79,80,81,82,83] (by kernel_rfl) (by kernel_rfl) (by kernel_rfl) (fun _=>TurnP.refl _ _) (fun _ _ _ h k=>h.trans k) (fun i=>(match i with
      |0=>rV (v)
      |1=>rV (.int .i64 id)
      |2=>rV (.agg (u.cs).toArray)
      |3=>rp kC 0
      |4=>rV (.agg (d2.b.cs).toArray)
      |5=>rp kC 7
      |6=>rV (pv p2)
      | 7=>(⟨fun v9 wv=>∃ g9,v9=.slice (some ⟨g9,0,none⟩) rc.length d2.c.length∧SayC B9 rc wv g9,fun v9 wa wb h hb=>by
   obtain ⟨g9,e,hc⟩:=h
   exact ⟨g9,e,hc.turn HSS.o hb⟩⟩:regs.Say (TurnP (SL2 b3 v) (SL2 b3 v)))
      |8=>rp kC 6
      |9=>rV (.int .i64 (d2.o:Nat))
      |10=>rp k8 13
      |11=>rV (.agg (n.lk.cs An cn).toArray)
      | 12=>(⟨fun v9 wv=>∃ g9,v9=.agg (ItR.cs (⟨⟨id,u,d2.b,rc,d2.o,n.lk⟩,some ⟨g9,0,none⟩,d2.c.length,An,cn⟩:ItR)).toArray∧SayC B9 rc wv g9,fun v9 wa wb h hb=>by
   obtain ⟨g9,e,hc⟩:=h
   exact ⟨g9,e,hc.turn HSS.o hb⟩⟩:regs.Say (TurnP (SL2 b3 v) (SL2 b3 v)))
      | 13=>(⟨fun v9 wv=>∃ g9 gs,v9=.slice (some ⟨gs,0,none⟩) 1 1∧SayC B9 rc wv g9∧Blk wv gs (ItR.cs (⟨⟨id,u,d2.b,rc,d2.o,n.lk⟩,some ⟨g9,0,none⟩,d2.c.length,An,cn⟩:ItR))∧B9<=gs,fun v9 wa wb h hb=>by
   obtain ⟨g9,gs,e,hc,hb8,hg8⟩:=h
   exact ⟨g9,gs,e,hc.turn HSS.o hb,hb8.stays (hb.far _ hb8.inside fun e=>by have:=HSS.o _ e;omega).2,hg8⟩⟩:regs.Say (TurnP (SL2 b3 v) (SL2 b3 v)))
      | _=>ra:regs.Say (TurnP (SL2 b3 v) (SL2 b3 v))).p) (fun _=>regs.Say.mono _) (by kernel_rfl) (TurnP.below bR.drew) (⟨HJ0.o _,nofun,nofun⟩) ⟨?_,?_,?_,?_,?_,?_,?_,?_,?_,?_,?_,?_,?_,?_,?_,?_,trivial⟩ ?_
     ·refine zpv fun L a w1 hh=>?_;have h3:=hh.p 3 b3 0;have hbx:=hh.st.1.box (not_yet hh.st.2.1 hh.un);have c0:w1.cell? ⟨b3,0,none⟩=some v:=hbx.blk.cell 0;have i0:=hbx.inside;clear hbx;have hJ:=Hd hh.st;have hsz:=Hd hh.size;clear hh;go_simp;exact ⟨_,rfl,TurnP.refl _ _,rfl,AJ.slots hJ.o.1 sn,(fun _=>rfl),hJ.o.2.2⟩
     ·refine zpv fun L a w1 hh=>?_;have h5:=hh.o 5 (v:=.int .i64 id) rfl;have hJ:=hh.j;clear hh;go_simp;exact ⟨_,rfl,TurnP.refl _ _,rfl,⟨AJ.slots hJ.o.1 sn,hJ.o.2⟩⟩
     ·refine zpv fun L a w1 hh=>?_;have h10:=hh.p 10 kA 0;have hB:=Hd (FA.o _ hh.rel);have hJ:=Hd hh.st;exact wp_take 65 _ rfl kA 0 (by simpa [go_sem] using h10) _ hB.o (u.cs) rfl _ underlying65 rfl (by kernel_rfl) ⟨_,rfl,TurnP.refl _ _,rfl,⟨AJ.slots hJ.o.1 sn,hJ.o.2⟩⟩
     ·refine zpv fun L a w1 hh=>?_;have h12:=hh.p 12 kC 0;have i0:=(FC.o _ hh.rel).inside;have hJ:=hh.j;clear hh;go_simp;exact ⟨_,rfl,TurnP.refl _ _,rfl,⟨AJ.slots hJ.o.1 sn,hJ.o.2⟩⟩
     ·refine zpv fun L a w1 hh=>?_;have h72:=rq (hh.d 3 72);have hB:=Hd (FC.o _ hh.rel);have hJ:=Hd hh.st;exact wp_take 67 _ rfl kC 0 (by simpa [go_sem] using h72) _ hB.o (d2.b.cs) rfl _ underlying67 rfl (by kernel_rfl) ⟨_,rfl,TurnP.refl _ _,rfl,⟨AJ.slots hJ.o.1 sn,hJ.o.2⟩⟩
     ·refine zpv fun L a w1 hh=>?_;have h12:=hh.p 12 kC 0;have i0:=(FC.o _ hh.rel).inside;have hJ:=hh.j;clear hh;go_simp;exact ⟨_,rfl,TurnP.refl _ _,rfl,⟨AJ.slots hJ.o.1 sn,hJ.o.2⟩⟩
     ·refine zpv fun L a w1 hh=>?_;have h74:=rq (hh.d 5 74);have ⟨c0,i0⟩:=(FC.o _ hh.rel).ci 7 rfl;have hJ:=hh.j;clear hh;go_simp;exact ⟨_,rfl,TurnP.refl _ _,rfl,⟨AJ.slots hJ.o.1 sn,hJ.o.2⟩⟩
     ·refine zpv fun L a w1 hh=>?_;have h75:=rq (hh.d 6 75);have hC:=Hd (FL.o w1 hh.rel);have hE:=Hd (FE.o w1 hh.rel);have hJ:=Hd hh.st;have hsz:=Hd hh.size;clear hh;go_simp;refine hC.o.mono ?_;rintro e w9 ⟨g9,rfl,hg9,hb9,hbw⟩;exact ⟨_,rfl,TurnP.below hbw,⟨g9,rfl,hb9,Nat.le_trans hE.o hg9⟩,AJ.slots (hJ.o.1.below hbw) sn,hJ.o.2⟩
     ·refine zpv fun L a w1 hh=>?_;have h12:=hh.p 12 kC 0;have i0:=(FC.o _ hh.rel).inside;have hJ:=hh.j;clear hh;go_simp;exact ⟨_,rfl,TurnP.refl _ _,rfl,⟨AJ.slots hJ.o.1 sn,hJ.o.2⟩⟩
     ·refine zpv fun L a w1 hh=>?_;have h77:=rq (hh.d 8 77);have ⟨c0,i0⟩:=(FC.o _ hh.rel).ci 6 rfl;have hJ:=hh.j;clear hh;go_simp;exact ⟨_,rfl,TurnP.refl _ _,rfl,⟨AJ.slots hJ.o.1 sn,hJ.o.2⟩⟩
     ·refine zpv fun L a w1 hh=>?_;have h8:=hh.p 8 k8 0;have i0:=(F8.o _ hh.rel).inside;have hJ:=hh.j;clear hh;go_simp;exact ⟨_,rfl,TurnP.refl _ _,rfl,⟨AJ.slots hJ.o.1 sn,hJ.o.2⟩⟩
     ·refine zpv fun L a w1 hh=>?_;have h79:=rq (hh.d 10 79);have hB:=Hd (F8.o _ hh.rel);have hJ:=Hd hh.st;exact wp_take 74 _ rfl k8 13 (by simpa [go_sem] using h79) _ hB.o (n.lk.cs An cn) rfl _ underlying74 rfl (by kernel_rfl) ⟨_,rfl,TurnP.refl _ _,rfl,⟨AJ.slots hJ.o.1 sn,hJ.o.2⟩⟩
     ·refine zpv fun L a w1 hh=>?_;have h70:=rq (hh.d 1 70);have h71:=rq (hh.d 2 71);have h73:=rq (hh.d 4 73);have h78:=rq (hh.d 9 78);have h80:=rq (hh.d 11 80)
      obtain ⟨g9,e76,hc9⟩:=(show ∃ g9,a.tmps.getD 76 undef=.slice (some ⟨g9,0,none⟩) rc.length d2.c.length∧SayC B9 rc w1 g9 from hh.d 7 76)
      have h76:a.tmps[76]?.getD undef=.slice (some ⟨g9,0,none⟩) rc.length d2.c.length:=rq (e76);have hJ:=Hd hh.st;exact wp_build _ _ rfl (by simp [go_sem,h70,h71,h73,h76,h78,h80]) (build_it (⟨⟨id,u,d2.b,rc,d2.o,n.lk⟩,some ⟨g9,0,none⟩,d2.c.length,An,cn⟩:ItR) w1) ⟨_,rfl,TurnP.refl _ _,⟨g9,rfl,hc9⟩,⟨AJ.slots hJ.o.1 sn,hJ.o.2⟩⟩
     ·refine zpv fun L a w1 hh=>?_
      obtain ⟨g9,e81,hc9⟩:=(show ∃ g9,a.tmps.getD 81 undef=.agg (ItR.cs (⟨⟨id,u,d2.b,rc,d2.o,n.lk⟩,some ⟨g9,0,none⟩,d2.c.length,An,cn⟩:ItR)).toArray∧SayC B9 rc w1 g9 from hh.d 12 81)
      have h81:a.tmps[81]?.getD undef=.agg (ItR.cs (⟨⟨id,u,d2.b,rc,d2.o,n.lk⟩,some ⟨g9,0,none⟩,d2.c.length,An,cn⟩:ItR)).toArray:=rq (e81);have hJ:=Hd hh.st;have hE:=FE.o w1 hh.rel;have hal:Below w1.heap.size w1 (w1.alloc (.cells (ItR.cs (⟨⟨id,u,d2.b,rc,d2.o,n.lk⟩,some ⟨g9,0,none⟩,d2.c.length,An,cn⟩:ItR)).toArray tItem)):=bR.alloc nR _
      exact wp_bs _ _ _ rfl (by simp [go_sem,h81]) (bs_it (⟨⟨id,u,d2.b,rc,d2.o,n.lk⟩,some ⟨g9,0,none⟩,d2.c.length,An,cn⟩:ItR) w1) ⟨_,rfl,TurnP.below hal,⟨g9,_,rfl,hc9.turn HSS.o (TurnP.below hal),blk_new w1 _ _,hE⟩,AJ.slots (hJ.o.1.below hal) sn,hJ.o.2⟩
     ·refine zpv fun L a w1 hh=>?_;have h69:=rq (hh.d 0 69)
      obtain ⟨g9,gs,e82,hc9,hb8,hg8⟩:=(show ∃ g9 gs,a.tmps.getD 82 undef=.slice (some ⟨gs,0,none⟩) 1 1∧SayC B9 rc w1 g9∧Blk w1 gs (ItR.cs (⟨⟨id,u,d2.b,rc,d2.o,n.lk⟩,some ⟨g9,0,none⟩,d2.c.length,An,cn⟩:ItR))∧B9<=gs from hh.d 13 82)
      have h82:a.tmps[82]?.getD undef=.slice (some ⟨gs,0,none⟩) 1 1:=rq (e82);have hJ:=Hd hh.st;have hsz:=Hd hh.size;have hun:=Hd hh.un;have hns:=not_yet hh.st.2.2 hh.un;have hj1:=hh.st.1;rw [hns] at hj1;have hr:=(FM.o w1 hh.rel).2.2.2.1;have hE:=FE.o w1 hh.rel;have hown:∀ k,v.ownBlock=some k->k<B9:=fun k e=>HSS.o k (.inr e)
      obtain ⟨v9,w9,hrn,ho9,hg9,-⟩:=(hj1.own hh.un).app (⟨⟨id,u,d2.b,rc,d2.o,n.lk⟩,some ⟨g9,0,none⟩,d2.c.length,An,cn⟩:ItR) (g:=gs) (c:=1) (srow_blk (l:=[(⟨⟨id,u,d2.b,rc,d2.o,n.lk⟩,some ⟨g9,0,none⟩,d2.c.length,An,cn⟩:ItR)]) ItR.cs_len (by simpa using hb8)) ⟨srow_blk Cl.cs_len hc9.1,hr⟩ ⟨fun a ea _=>by cases ea;exact ⟨by have:=HB95.o;have:=hc9.2;show w5.heap.size<=g9;omega,fun e=>by have:=hown _ e;have:=hc9.2;simp only at *;omega⟩,fun a ea hne=>⟨by have:=HB95.o;have:=HRF.o a ea hne;omega,fun e=>by have:=hown _ e;have:=HRF.o a ea hne;omega⟩⟩ HLI.o (by have:=HB95.o;omega)
      exact wp_app _ _ tItems tItems tItems rfl rfl (by simpa [go_sem] using h69) (by simpa [go_sem] using h82) hrn ⟨v9,rfl,TurnP.grown hg9 (fun k e=>.inr e),trivial,AJ.appd hJ.o.1 hns HITQ.o ho9 (regv.sl_same (by rw [hsz.o];simp)) (hg9.block _ (Nat.lt_of_lt_of_le (hj1.box rfl).inside nR) (fun e=>by have h1:=(hj1.own hh.un).own.block e.symm;have:=hj1.lt;omega)) hg9.size,(fun _=>hh.up 0 (by kernel_rfl)),fun _=>rfl⟩
     ·refine zpv fun L a w1 hh=>?_;have h3:=hh.p 3 b3 0;have hup:=hh.up 14 (by kernel_rfl);have hj1:=hh.st.1;rw [hh.un,hup] at hj1;have hB:=hj1.box rfl;have c0:w1.cell? ⟨b3,0,none⟩=some v:=hB.blk.cell 0;have f0:=hB.blk.free 0;have i0:=hB.inside;obtain ⟨q9,-,hi9⟩:=hj1.app rfl;obtain ⟨A9,n9,c9,e9⟩:=hi9.own.shape;have e83:a.tmps.getD 83 undef=.slice A9 n9 c9:=e9;have h83:a.tmps[83]?.getD undef=.slice A9 n9 c9:=rq (e83);have HJ1:=Hd hj1;have hul:=Hd (hh.up 0 (by kernel_rfl));have hup2:=Hd hup;have HE83:=Hd e83;have hun:=Hd hh.un;have hJ:=Hd hh.st;clear hh hB hup hj1 e83 e9 hi9;go_simp
      exact ⟨TurnP.set (.inl rfl) _,⟨undef,trivial⟩,AJ.stord (iA:=L 14) hJ.o.1 hup2.o hun.o HE83.o,(fun _=>hul.o),fun _=>hup2.o⟩
     intro L w14 val hL hJ hR hv;have HR14:=Hd hR;have haj:=hJ.1;rw [hL 14 (by decide),hL 15 (by decide)] at haj;obtain ⟨q9,hq9,hi9⟩:=haj.app rfl;have hb9:=haj.sto rfl;have HQ9:=Hd hq9;have HI9:=Hd hi9;have HB9:=Hd hb9;clear hv hL hJ hR haj hq9 hi9 hb9;simp only [regs.putAll,List.map_cons,List.map_nil];simp only [Act.put,List.setIfInBounds_toArray,List.set_cons_zero,List.set_cons_succ]
     skip
     have HT14:Hid (TurnP (SL3 b3 m2 v) (SL3 b3 m2 v) W9 w14):=HTE.o.trans (HR14.o.widen fun k e=>e.elim .inl fun e=>.inr (.inr e))
     have hsame:∀ k,k<wE.heap.size->(k=b3->False)->(v.ownBlock=some k->False)->w14.heap[k]?=wE.heap[k]?:=fun k h1 h2 h3=>(HR14.o.far k h1 fun e=>by
      rcases e with e | e
      ·exact h2 e
      ·exact h3 e).2
     have HV14:Hid (VM w14 m2 (omap.put lt id (.agg (dnC d2 p2).toArray) es)):=HME.o.stays (hsame m2 HME.o.inside (fun e=>by have:=HSB3.o;omega) fun e=>by have h1:=(HITE.o.own.block e).1;have:=HSB3.o;omega)
     have HS14:Hid (Shown x w14 (omap.put lt id (.agg (dnC d2 p2).toArray) es) T1):=HSHE.o.keep fun k cu fr h=>by
      refine hsame k (Array.getElem?_eq_some_iff.1 h).1 (fun e=>?_) fun e=>?_
      ·rw [e,HB3E.o] at h
       injection h with h
       injection h with _ h _
       exact absurd h (by decide)
      ·obtain ⟨cu0,h0⟩:=HITE.o.own.typed e;rw [h0] at h
       injection h with h
       injection h with _ h _
       exact absurd h (by decide)
     have HF:=Hd (HFIN.o w14 _ _ _ HT14.o HB9.o HI9.o (by rw [List.map_append,HFS.o,HMAP.o,HIE.o,List.map_cons,HQ9.o];rfl) HV14.o HS14.o);clear HFIN hsame
     gi_wp2_with (fail)
     exact HF.o
end
section
open Go.RowKit pxm imm trm Go.Maps
theorem walk_two:trm.walk awT 0=[0,1]:=by decide
theorem has_two0:has awT 0=true:=by decide
theorem has_two1:has awT 1=true:=by decide
theorem down_two {y:PSc} (ht:y.t=awT):downOf y 1=Dn.step (y.nd 1) (y.ws 1) (Dn.step (y.nd 0) (y.ws 0) (some Dn.top)):=by
 have h:=downOf_step (x:=y) (by rw [ht];exact aw_okT) (i:=1) (by rw [ht];exact aw_ids);rw [h,ht,show par awT 1=0 from by decide,downOf_0]
theorem items_two {y:PSc} (ht:y.t=awT) (h0:(y.nd 0).lk.k=0):items y=(itemOf y 1).toList:=by
 have e0:itemOf y 0=none:=by
  unfold itemOf;cases downOf y 0 with
  | none=>rfl
  | some d=>rw [Option.bind_some,if_pos h0]
 unfold items;rw [ht,walk_two,List.filterMap_cons,e0];cases h:itemOf y 1 with
 | none=>rw [List.filterMap_cons,h];rfl
 | some q=>rw [List.filterMap_cons,h];rfl
theorem ws_two {y:PSc} (hy:Sane y) (ht:y.t=awT):y.ws 0=(y.nd 0).m∧((y.nd 1).m.thens [(y.nd 0).m]).2=0∧((y.nd 1).m.thens [(y.nd 0).m]).1=y.ws 1:=by
 have h0:=hy.set 0 (by rw [ht];exact has_two0) (fun _ _ h=>h) (fun h=>h);have h1:=hy.set 1 (by rw [ht];exact has_two1) (fun _ _ h=>h) (fun h=>h);rw [ht] at h0 h1;rw [worldOf_0] at h0;rw [worldOf_step aw_okT _ aw_ids,show par awT 1=0 from by decide,worldOf_0] at h1
 injection h0 with h0
 simp only [wstep,Option.bind_some] at h1;split at h1
 ·injection h1 with h1
  exact ⟨h0.symm,by assumption,h1⟩
 ·cases h1
theorem apply_ok {M:Int} {x:PSc} {l:List Op9} (h:(applyS M setSt x l).2.2=0):(applyS M setSt x l).1.t=(allS M x l).1.t∧(applyS M setSt x l).1.nd=(allS M x l).1.nd∧(allS M x l).2.2=0:=by
 unfold applyS at h ⊢;by_cases h1:1024<l.length
 ·rw [if_pos h1] at h;cases h
 ·rw [if_neg h1] at h ⊢;by_cases h2:(allS M x l).2.2≠0
  ·rw [if_pos h2] at h;exact absurd h h2
  ·rw [if_neg h2] at h ⊢;by_cases h3:(setSt (allS M x l).1).2≠0
   ·rw [if_pos h3] at h;exact absurd h h3
   ·rw [if_neg h3];exact ⟨setSt_t _,setSt_nd _,Decidable.not_not.1 h2⟩
def fl1:Op9:={ Op9.o with k:=1,i:=1 }
def fl2:Op9:={ Op9.o with k:=4,i:=1,m:=⟨65536,0,0,65536,65536,0⟩ }
def fl3:Op9:={ Op9.o with k:=7,i:=1,lk:=⟨1,2,1,255,0,0,[]⟩ }
def fl4:Op9:={ Op9.o with k:=6,N:=128 }
def flL:List Op9:=[fl1,fl2,fl3,fl4]
theorem fl_op {o:Op9} (h:o∈flL):OpOk o∧o.lk.l=[]:=by
 simp only [flL,List.mem_cons,List.not_mem_nil,or_false] at h;rcases h with rfl | rfl | rfl | rfl<;>exact ⟨⟨⟨by decide,by decide⟩,⟨by decide,by decide⟩,⟨by decide,(by intro z hz;cases hz),by decide⟩⟩,rfl⟩
def flN:Int->Nd:=upd (upd (upd (upd (fun _=>Nd.plain) 1 Nd.plain) 1 (setN Nd.plain fl2)) 1 (setN (setN Nd.plain fl2) fl3)) 0 (setN Nd.plain fl4)
theorem fl_all:allS 9 PSc.new flL=(⟨awT,flN,upd (fun _=>Mp.one) 1 Mp.o⟩,4,0):=by
 have e1:doS 9 PSc.new fl1=(⟨awT,upd (fun _=>Nd.plain) 1 Nd.plain,upd (fun _=>Mp.one) 1 Mp.o⟩,0):=rfl;have e2:doS 9 ⟨awT,upd (fun _=>Nd.plain) 1 Nd.plain,upd (fun _=>Mp.one) 1 Mp.o⟩ fl2=(⟨awT,upd (upd (fun _=>Nd.plain) 1 Nd.plain) 1 (setN Nd.plain fl2),upd (fun _=>Mp.one) 1 Mp.o⟩,0):=rfl;have e3:doS 9 ⟨awT,upd (upd (fun _=>Nd.plain) 1 Nd.plain) 1 (setN Nd.plain fl2),upd (fun _=>Mp.one) 1 Mp.o⟩ fl3=(⟨awT,upd (upd (upd (fun _=>Nd.plain) 1 Nd.plain) 1 (setN Nd.plain fl2)) 1 (setN (setN Nd.plain fl2) fl3),upd (fun _=>Mp.one) 1 Mp.o⟩,0):=rfl
 have e4:doS 9 ⟨awT,upd (upd (upd (fun _=>Nd.plain) 1 Nd.plain) 1 (setN Nd.plain fl2)) 1 (setN (setN Nd.plain fl2) fl3),upd (fun _=>Mp.one) 1 Mp.o⟩ fl4=(⟨awT,flN,upd (fun _=>Mp.one) 1 Mp.o⟩,0):=rfl;unfold flL;rw [allS_cons,e1];simp only [ne_eq,not_true_eq_false,if_false];rw [allS_cons,e2];simp only [ne_eq,not_true_eq_false,if_false];rw [allS_cons,e3];simp only [ne_eq,not_true_eq_false,if_false];rw [allS_cons,e4];simp only [ne_eq,not_true_eq_false,if_false];rfl
theorem fl_world1:worldOf awT flN 1=some ⟨65536,0,0,65536,65536,0⟩:=by
 rw [worldOf_step aw_okT _ aw_ids,show par awT 1=0 from by decide,worldOf_0]
 decide
noncomputable def flY:PSc:=(applyS 9 setSt PSc.new flL).1
theorem fl_set:(setSt ⟨awT,flN,upd (fun _=>Mp.one) 1 Mp.o⟩).2=0:=by
 unfold setSt;rw [if_pos fun i hi=>?_];rcases aw_has hi with rfl | rfl
 ·show worldOf awT flN 0≠none;rw [worldOf_0];simp
 ·show worldOf awT flN 1≠none;rw [fl_world1];simp
theorem fl_apply:applyS 9 setSt PSc.new flL=(flY,4,0):=by
 have h:(applyS 9 setSt PSc.new flL).2=(4,0):=by
  unfold applyS;rw [if_neg (by decide),fl_all,if_neg (by simp),if_neg (by rw [fl_set];simp)];rfl
 unfold flY;rw [← h]
theorem flY_sane:Sane flY:=by
 have:=PSc.new_sane.apply (M:=9) (l:=flL) fun o ho=>(fl_op ho).1;rw [fl_apply] at this;exact this
theorem flY_t:flY.t=awT:=by
 have h:=(apply_ok (by rw [fl_apply]:(applyS 9 setSt PSc.new flL).2.2=0)).1;rw [fl_all] at h;exact h
theorem flY_nd:flY.nd=flN:=by
 have h:=(apply_ok (by rw [fl_apply]:(applyS 9 setSt PSc.new flL).2.2=0)).2.1;rw [fl_all] at h;exact h
def flI:It:=⟨1,⟨65536,0,0,65536,65536,0⟩,⟨65536,0,0,65536,65536,0⟩,[],128,⟨1,2,1,255,0,0,[]⟩⟩
theorem fl_items:items flY=[flI]:=by
 obtain ⟨h0,-,h1⟩:=ws_two flY_sane flY_t;rw [flY_nd] at h0 h1;have e0:flY.ws 0=Mp.one:=h0;have e1:flY.ws 1=⟨65536,0,0,65536,65536,0⟩:=by rw [← h1];decide
 rw [items_two flY_t (by rw [flY_nd];rfl)]
 have hd:downOf flY 1=some ⟨⟨65536,0,0,65536,65536,0⟩,128,[]⟩:=by
  rw [down_two flY_t,e0,e1,flY_nd]
  decide
 unfold itemOf;rw [hd,e1,flY_nd];rfl
theorem fl_says:flI.covers 1 0=true∧flI.covers 2 0=true∧flI.covers 0 0=false∧flI.covers 1 1=false∧flI.at_ 2 0=128∧flI.at_ 3 0=0:=by decide
theorem flI_ok:flI.Ok:=⟨by decide,(by intro c hc;cases hc),by decide,by decide,by decide,by decide,by decide,(by intro z hz;cases hz)⟩
end
section
open Go.RowKit pxm imm trm Go.Maps
end
end Go.Proofs.YthoildbfghfhpaaGreat
