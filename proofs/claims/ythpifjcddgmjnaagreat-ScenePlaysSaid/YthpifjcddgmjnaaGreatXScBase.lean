import Derived.Test.YthpifjcddgmjnaaGreatXDcj
import Derived.Test.YthpifjcddgmjnaaGreatRows
import Derived.ProofKit
import Derived.OpenShut
import Derived.ChangeOld
import Derived.Carry
import Derived.Deep.Fields
set_option maxHeartbeats 16000000
set_option maxRecDepth 100000
namespace Go.Proofs.YthpifjcddgmjnaaGreat
section
open Go.RowKit pxm imm trm Go.Maps itr Go.Shelf
attribute [local go_sem] Oper.semAt_some
theorem KX.below {x:Nat} {A W W':World} (h:KX x A W) (hb:Below A.heap.size W W'):KX x A W':=⟨hb.os.trans h.os,hb.tape.trans h.tape,hb.output.trans h.output,Nat.le_trans h.size hb.size,fun k hk hn=>(hb.block k hk).trans (h.same k hk hn)⟩
theorem KX.set {x:Nat} {A W:World} (h:KX x A W) (v:Value):KX x A (W.setCell ⟨x,0,none⟩ v):=⟨h.os,h.tape,h.output,by simpa [World.setCell] using h.size,fun k hk hn=>(heap_setCell_other _ _ _ _ hn).trans (h.same k hk hn)⟩
theorem KX.bk {x:Nat} {A W W':World} (h:KX x A W) (hb:Bk A.heap.size W W'):KX x A W':=h.below (hb.below (Nat.le_refl _) h.size)
theorem prs_of {ib db x base:Nat} {v1 v2:Value} {l1 l2:List Int} {w:World} (hx:x<base) (h1:base<=ib) (h2:base<=db) (b1:BlkT w ib [v1] tInts) (b2:BlkT w db [v2] tInts) (o1:IOwn w base v1 l1) (o2:IOwn w base v2 l2) :
  ∃ A1 A2 c1 c2,∀ W,KX x w W->Prs ib db A1 A2 c1 c2 l1 l2 W:=by
 obtain ⟨A1,c1,e1,-,-,r1⟩:=IOwn.irow o1;obtain ⟨A2,c2,e2,-,-,r2⟩:=IOwn.irow o2;refine ⟨A1,A2,c1,c2,fun W hk=>?_⟩
 have o1':IOwn W base v1 l1:=SOwn.stays o1 fun k hk'=>by
  have:=SOwn.block o1 hk';exact hk.same k this.2 (by omega)
 have o2':IOwn W base v2 l2:=SOwn.stays o2 fun k hk'=>by
  have:=SOwn.block o2 hk';exact hk.same k this.2 (by omega)
 obtain ⟨A1',c1',e1',-,-,r1'⟩:=IOwn.irow o1';obtain ⟨A2',c2',e2',-,-,r2'⟩:=IOwn.irow o2';have f1:=e1.symm.trans e1';have f2:=e2.symm.trans e2'
 injection f1 with f1 _ _
 injection f2 with f2 _ _
 have q1:=(b1.stays (hk.same ib b1.inside (by omega))).blk.cell 0;have q2:=(b2.stays (hk.same db b2.inside (by omega))).blk.cell 0;rw [e1] at q1;rw [e2] at q2;exact ⟨q1,q2,by rw [f1];exact r1',by rw [f2];exact r2'⟩
theorem results_cell_bool {fn:Func} {p:Tmp} (h:fn.results=#[.cell p 4]) (tmps:Array Value) (w:World) {g:Nat} {v:Bool} (hp:tmps.getD p undef=.pointer (some ⟨g,0,none⟩)) (hc:w.cell? ⟨g,0,none⟩=some (.bool v)) :
  (results fn tmps).run Tryz.prog w=.ok (.bool v) w:=by
 have hp':tmps[p]?.getD undef=.pointer (some ⟨g,0,none⟩):=by simpa using hp
 simp [results,h,hp',asAddr,go_sem,hc]
theorem inv_walk (v:Value) (w:World):(invoke (.fn (.method "Walk") #[]) #[.iface 109 v]).run Tryz.prog w=.ok (.enter 322 #[v]) w:=by kernel_rfl
theorem build_dm (m:Mp) (w:World):(Instr.build 50 #[(0,.int .i64 m.a),(1,.int .i64 m.b),(2,.int .i64 m.c),(3,.int .i64 m.d),(4,.int .i64 m.e),(5,.int .i64 m.f)]).run Tryz.prog w=.ok (.agg m.cs.toArray) w:=by kernel_rfl
theorem wd_at {t:T} {j:Nat} (h:j<(wd t 0 0).length) (h2:j<(trm.walk t 0).length):(wd t 0 0)[j]=((trm.walk t 0)[j],depth t (trm.walk t 0)[j]):=by
 simp only [wd,List.getElem_map,depth_0];simp
def sayKn (n:Nat):regs.Say regs.bl:=⟨fun x _=>∃ A c,x=.slice A n c,fun _ _ _ h _=>h⟩
def sayNd (n:Nd):regs.Say regs.bl:=⟨fun x wv=>∃ A c,x=.agg (n.cs A c).toArray∧Row eW wv A n.lk.l,fun _ _ _ h hb=>by
 obtain ⟨A,c,e,hr⟩:=h
 exact ⟨A,c,e,Row.below hr hb⟩⟩
theorem is_any {w:World} {g b m:Nat} {s:Sh} {Z:ZZ} {x:PSc} (h:SceneAt w g b m s Z x) (hx:Sane x) (hn:x.t.length<=900) (v:Value) (hd:DocAt w v Z.1 Z.2.1 Z.2.2 x) :
  Calls Tryz.prog 19 #[.pointer (some ⟨g,0,none⟩),v] w fun e w'=>e=.returned (.bool true)∧Below w.heap.size w w':=by
 obtain ⟨At,ct,dm,rfl,hdt,hdm⟩:=hd.ex;have HS:=Hd h;have HX:=Hd hx;have HN:=Hd hn;have HDT:=Hd hdt;have HDM:=Hd hdm;clear h hx hn hd hdt hdm;have HB0:Hid (Below w.heap.size w ((w.alloc (.cells (Vc Z.1 Z.2.1 Z.2.2 At x.t.length ct dm).toArray 34)).alloc (.cells #[.bool false] 4))):=((Below.refl _ _).alloc (Nat.le_refl _) _).alloc (by simp) _;have HKD:Hid (Blk ((w.alloc (.cells (Vc Z.1 Z.2.1 Z.2.2 At x.t.length ct dm).toArray 34)).alloc (.cells #[.bool false] 4)) w.heap.size (Vc Z.1 Z.2.1 Z.2.2 At x.t.length ct dm)):=(blk_new w (Vc Z.1 Z.2.1 Z.2.2 At x.t.length ct dm) _).alloc _
 have HKR:Hid (BlkT ((w.alloc (.cells (Vc Z.1 Z.2.1 Z.2.2 At x.t.length ct dm).toArray 34)).alloc (.cells #[.bool false] 4)) (w.heap.size+1) [.bool false] 4):=blkT_at (w.alloc _) _ (by simp) [.bool false] 4;refine calls_of_marks Tryz.func19 rfl ?_;simp only [Tryz.ntmps19,List.size_toArray,List.length_cons,List.length_nil,Nat.reduceAdd,Nat.reduceSub,Array.replicate_succ,Array.replicate_zero,List.push_toArray,List.append_toArray,List.nil_append,List.cons_append]
 go_upto_region 1 with (fail)
 generalize ((w.alloc (.cells (Vc Z.1 Z.2.1 Z.2.2 At x.t.length ct dm).toArray 34)).alloc (.cells #[.bool false] 4))=w0 at *;have d3:w0.cell? ⟨w.heap.size,3,none⟩=some (.slice At x.t.length ct):=HKD.out.cell 3;have di:=HKD.out.inside;go_wp2_with (fail);refine (dwalk At x.t ct HX.out.ok (by have:=HN.out;omega) (x.t.length+1) 0 w0 (DTree.srow (HDT.out.below HB0.out)) (.inl rfl) (by omega)).mono ?_;unfold KidsQ;rintro e w1 ⟨v1,rfl,hown,hb1⟩;obtain ⟨A1,c1,rfl,-,-,hrow⟩:=hown.irow;have HRW:=Hd hrow;have HB1:Hid (Below w0.heap.size w0 w1):=hb1
 have HXL:Hid ((trm.walk x.t 0).length=x.t.length+1):=walk_len HX.out.ok;have HXM:Hid (∀ i,i∈trm.walk x.t 0↔has x.t i=true):=fun i=>walk_all HX.out.ok
 have HXW:Hid (∀ j (h:j<(trm.walk x.t 0).length),(idsL x.t)[j]?.getD 0=(trm.walk x.t 0)[j]∧(depL x.t)[j]?.getD 0=(depth x.t (trm.walk x.t 0)[j]:Nat)):=fun j h=>by
  have hj2:j<(wd x.t 0 0).length:=by rw [wd_len];exact h
  have e:=wd_at hj2 h;rw [idsL,depL,List.getElem?_map,List.getElem?_map,List.getElem?_eq_getElem hj2,e];exact ⟨rfl,rfl⟩
 have HEL:Hid ((pairE (idsL x.t) (depL x.t)).length=(trm.walk x.t 0).length):=by show _=_;rw [pairE_len,idsL,List.length_map,wd_len]
 have HIL:Hid ((idsL x.t).length=(trm.walk x.t 0).length∧(depL x.t).length=(idsL x.t).length):=by show _∧_;rw [depL,idsL,List.length_map,List.length_map,wd_len];exact ⟨rfl,rfl⟩
 obtain ⟨X,hX⟩:∃ X,trm.walk x.t 0=X:=⟨_,rfl⟩
 rw [hX] at HRW HXL HXM HEL HIL ⊢;have HXW2:Hid (∀ j (h:j<X.length),(idsL x.t)[j]?.getD 0=X[j]∧(depL x.t)[j]?.getD 0=(depth x.t X[j]:Nat)):=by subst hX;exact HXW.out
 clear hown hrow hb1 d3 di HXW hX
 obtain ⟨ab,hab⟩:∃ ab,w1.heap.size=ab:=⟨_,rfl⟩
 have HAB:Hid (ab=w1.heap.size∧w0.heap.size<=ab):=⟨hab.symm,by rw [← hab];exact HB1.out.size⟩
 obtain ⟨w4,hw4⟩:∃ w4,w4=((w1.alloc (.cells #[.slice A1 X.length c1] 45)).alloc (.cells #[.int .i64 0] 3)):=⟨_,rfl⟩
 have HW4:=Hd hw4;have HB4:Hid (Below w1.heap.size w1 w4):=by show Below _ _ _;rw [hw4];exact ((Below.refl _ _).alloc (Nat.le_refl _) _).alloc (by simp) _
 have HXA:Hid (BlkT w4 ab [.slice A1 X.length c1] 45):=by
  show BlkT _ _ _ _;rw [hw4,← hab];exact (BlkT.new w1 [.slice A1 X.length c1] _).al _
 have HXN:Hid (BlkT w4 (ab+1) [.int .i64 0] 3):=by
  show BlkT _ _ _ _;rw [hw4,← hab];exact blkT_at (w1.alloc _) _ (by simp) [.int .i64 0] _
 have HB04:Hid (Below w0.heap.size w0 w4):=HB1.out.trans (HB4.out.mono HB1.out.size);have HBW4:=Hd (HB0.out.trans (HB04.out.mono HB0.out.size));have HTW:=Hd (twalk (HS.out.below HBW4.out).tree (by have:=HN.out;omega));have hg:=(HS.out.below HBW4.out).top;obtain ⟨⟨q0,-,-,-,-,-⟩,qi⟩:=hg;rw [hw4] at HTW q0 qi;have hinv:=inv_walk (.pointer (some ⟨b,0,none⟩));clear hw4 hab;go_wp2_with (fail);refine HTW.out.mono ?_;rintro e w5 ⟨ib,db,v1,v2,rfl,hi1,hi2,hx1,hx2,ho1,ho2,hb5⟩;rw [← HW4.out] at hi1 hi2 ho1 ho2 hb5;clear q0 qi HTW hinv;rw [← HAB.out.1]
 obtain ⟨nb,hnb⟩:∃ nb,ab+1=nb:=⟨_,rfl⟩
 have HNB:=Hd hnb;rw [hnb] at HXN ⊢;clear hnb;have hnn:nb<w4.heap.size:=HXN.out.inside;obtain ⟨B1,B2,d1,d2,hprs⟩:=prs_of (x:=nb) hnn hi1 hi2 hx1 hx2 ho1 ho2;have HPR:=Hd hprs;have HB45:Hid (Below w4.heap.size w4 w5):=hb5;have HN5:Hid (BlkT w5 nb [.int .i64 0] 3):=HXN.out.stays (hb5.block _ HXN.out.inside);have HB05:Hid (Below w0.heap.size w0 w5):=HB04.out.trans (hb5.mono HB04.out.size)
 have HNB0:Hid (w0.heap.size<nb∧ab<nb∧w0.heap.size<=ab):=by
  have h1:=HNB.out;have h2:=HAB.out.2;show _∧_;omega
 have HLOW:Hid (∀ W,KX nb w5 W->Below w0.heap.size w0 W):=fun W hk=>HB05.out.trans (hk.to_below (by have:=HNB0.out;omega) HB05.out.size);have HLOW1:Hid (∀ W,KX nb w5 W->Below w1.heap.size w1 W):=fun W hk=>(HB4.out.trans (HB45.out.mono HB4.out.size)).trans (hk.to_below (by have:=HNB0.out;have:=HAB.out.1;omega) (by have:=HB4.out.size;have:=HB45.out.size;omega))
 have HALL:Hid (∀ W,KX nb w5 W->SceneAt W g b m s Z x∧Blk W w.heap.size (Vc Z.1 Z.2.1 Z.2.2 At x.t.length ct dm)∧Blk W ab [.slice A1 X.length c1]∧Row eI W A1 X∧DTree W (.slice At x.t.length ct) x.t∧DMap W dm (has x.t) x.nd∧BlkT W (w.heap.size+1) [.bool false] 4):=fun W hk=>by
  have h0:=HLOW.out W hk;have hw:=HB0.out.trans (h0.mono HB0.out.size);have h5:ab<w5.heap.size:=by have:=HXA.out.inside;have:=HB45.out.size;omega
  exact ⟨HS.out.below hw,HKD.out.below' h0,((HXA.out.stays (HB45.out.block _ HXA.out.inside)).stays (hk.same ab h5 (by have:=HNB0.out;omega))).blk,Row.below HRW.out (HLOW1.out W hk),HDT.out.below hw,HDM.out.below hw,HKR.out.stays (h0.block _ HKR.out.inside)⟩
 have HRIN:Hid (w.heap.size+1<w0.heap.size):=HKR.out.inside;clear hi1 hi2 hx1 hx2 ho1 ho2 hb5 hprs hnn HW4 HXA HXN HB04 HBW4 HB4 HKD HKR HRW HDT HDM HS;go_wp2_with (fail)
 refine wp_range (gf:=324) (lb:=#[.pointer (some ⟨ib,0,none⟩),.pointer (some ⟨db,0,none⟩)]) rfl (enters_of Tryz.func324 (by kernel_rfl) rfl) (es:=pairE (idsL x.t) (depL x.t)) (R:=fun _=>Eq)
  (Kp:=fun A B=>Prs ib db B1 B2 d1 d2 (idsL x.t) (depL x.t) A->Prs ib db B1 B2 d1 d2 (idsL x.t) (depL x.t) B)
  (fun W1 hb=>pair_iter (by have h1:=HIL.out.1;have h2:=HXL.out;have:=HN.out;omega) HIL.out.2 (HPR.out W1 ((KX.refl _ _).bk hb))) (fun h k x=>k (h x)) (fun A B hb h=>h.cells fun a v=>cell_bk hb) (fun n A B e k o _ hk _=>e ▸ hk)
  (fun e he=>by obtain ⟨j,_,rfl⟩:=List.mem_map.1 he;rfl)
  (fun k W=>KX nb w5 W∧BlkT W nb [.int .i64 (k:Nat)] 3)
  (fun _ _ _=>False) (fun k A B h hr=>?hI) (fun _ _ _ _ h _=>h.elim) ⟨KX.refl _ _,HN5.out⟩ ?a1 ?assign ?body ?done (fun _ _ _ _ _ _ h _=>h.elim)
 case hI=>
  obtain ⟨hk,hx⟩:=h;rcases hr with ⟨n,hn,rfl⟩ | hb
  ·exact ⟨hk,hx⟩
  ·exact ⟨hk.bk hb,hx.bk hb⟩
 case assign=>
  intro l j hj W9 KK hKK;rw [pairE_at]
  gi_wp2
  exact hKK
 case body=>
  rintro l j hj W9 ⟨hk,hxn⟩;have hjX:j<X.length:=by rw [HEL.out] at hj;exact hj
  obtain ⟨h1,h2⟩:=HXW2.out j hjX;have HHI:Hid (has x.t X[j]=true):=(HXM.out _).1 (List.getElem_mem hjX);obtain ⟨hsc,hkd,hka,hrw,hdt,-,-⟩:=HALL.out W9 hk;obtain ⟨b2,o2,rfl,k1⟩:=hrw.at_ hjX;unfold eI at k1;have x3:W9.cell? ⟨w.heap.size,3,none⟩=some (.slice At x.t.length ct):=hkd.cell 3;have xi:=hkd.inside;have a0:W9.cell? ⟨ab,0,none⟩=some (.slice (some ⟨b2,o2,none⟩) X.length c1):=hka.cell 0;have ai:=hka.inside;have cb:=hxn.blk.cell 0;have zb:=hxn.inside;simp only [List.getElem?_cons_zero] at cb;have t2:decide (X.length<=j)=false:=decide_eq_false (by omega)
  have hjb:(j:Int)<=100000:=by have:=HXL.out;have:=HN.out;omega
  have hdb:((depth x.t X[j]:Nat):Int)<=100000:=by have:=depth_le HX.out.ok (has_iff.1 HHI.out);have:=HN.out;omega
  have HDP:=Hd (ddepth At x.t ct HX.out.ok (by have:=HN.out;omega) (depth x.t X[j]) X[j] W9 (DTree.srow hdt) (has_iff.1 HHI.out) (Nat.le_refl _));have HK9:=Hd hk;have HX9:=Hd hxn;rw [h1,h2];generalize hdx:depth x.t X[j]=dx at *;clear hdx;generalize X[j]=id at *;clear hk hxn hj h1 h2 hsc hkd hka hrw hdt HXW2
  gi_wp2_with (fail)
  refine ⟨trivial,rfl,CallsIn.inRound l ((callsIn_wide (n:=0)).2 (HDP.out.mono ?_))⟩;rintro e wB ⟨rfl,hbB⟩;have HBB:Hid (Below W9.heap.size W9 wB):=hbB;have HXB:Hid (BlkT wB nb [.int .i64 (j:Nat)] 3):=HX9.out.stays (hbB.block _ HX9.out.inside);have HKB:Hid (KX nb w5 wB):=HK9.out.trans (KX.of_below hbB);have cb2:=HXB.out.blk.cell 0;have fb2:=HXB.out.blk.free 0;have zb2:=HXB.out.inside;simp only [List.getElem?_cons_zero] at cb2
  have HF:Hid (KB W9 (wB.setCell ⟨nb,0,none⟩ (.int .i64 ((j:Int)+1)))∧(Prs ib db B1 B2 d1 d2 (idsL x.t) (depL x.t) W9->Prs ib db B1 B2 d1 d2 (idsL x.t) (depL x.t) (wB.setCell ⟨nb,0,none⟩ (.int .i64 ((j:Int)+1)))) ∧
    KX nb w5 (wB.setCell ⟨nb,0,none⟩ (.int .i64 ((j:Int)+1)))∧BlkT (wB.setCell ⟨nb,0,none⟩ (.int .i64 ((j:Int)+1))) nb [.int .i64 ((j+1:Nat):Int)] 3):=by
   have hk7:=HKB.out.set (.int .i64 ((j:Int)+1));exact ⟨(KB.below hbB).trans (KB.set (a:=⟨nb,0,none⟩) HXB.out rfl _),fun _=>HPR.out _ hk7,hk7,HXB.out.set 0 _⟩
  clear hbB HDP k1 x3 xi a0 ai cb zb
  gi_wp2_with (fail)
  exact HF.out
 case done=>
  rintro D W9 hD ⟨hk,hxn⟩ hdd;rw [HEL.out] at hxn;have HK9:=Hd hk;have HX9:=Hd hxn;have HD9:=Hd hdd;have HD1:Hid (w0.heap.size<=D):=Nat.le_trans HB05.out.size hD;have HSZ:=Hd (ssize_any (HALL.out W9 hk).1);have HLL:Hid ((X.length:Int)<=901):=by have:=HXL.out;have:=HN.out;show _<=_;omega
  clear hk hxn hdd hD;go_wp2_with (fail);refine HSZ.out.mono ?_;rintro e wA ⟨rfl,hbA⟩;have HBA:Hid (Below W9.heap.size W9 wA):=hbA;have HKA:Hid (∀ W,Below wA.heap.size wA W->KX nb w5 W):=fun W hb=>HK9.out.trans (KX.of_below (HBA.out.trans (hb.mono HBA.out.size)));have HNA:Hid (∀ W,Below wA.heap.size wA W->BlkT W nb [.int .i64 (X.length:Nat)] 3):=fun W hb=>(HX9.out.stays (HBA.out.block _ HX9.out.inside)).stays (hb.block _ (Nat.lt_of_lt_of_le HX9.out.inside HBA.out.size))
  have HDA:Hid (∀ W,Below wA.heap.size wA W->W.heap[D]?=some (.deferred (some []))):=fun W hb=>by
   have h1:=(Array.getElem?_eq_some_iff.1 HD9.out).1;exact (hb.block _ (Nat.lt_of_lt_of_le h1 HBA.out.size)).trans ((HBA.out.block _ h1).trans HD9.out)
  have FA:Hid (∀ W,regs.bl wA W->SceneAt W g b m s Z x∧Blk W w.heap.size (Vc Z.1 Z.2.1 Z.2.2 At x.t.length ct dm)∧Blk W ab [.slice A1 X.length c1]∧Blk W nb [.int .i64 (X.length:Nat)]):=fun W hb=>by
   obtain ⟨h1,h2,h3,-,-,-,-⟩:=HALL.out W (HKA.out W hb);exact ⟨h1,h2,h3,(HNA.out W hb).blk⟩
  have FL:Hid (∀ W,regs.bl wA W->Calls Tryz.prog 320 #[.pointer (some ⟨b,0,none⟩)] W fun e w'=>e=.returned (.int .i64 (X.length:Nat))∧Below W.heap.size W w'):=fun W hb=>by
   have h1:=tlen (FA.out W hb).1.tree;rw [← HXL.out] at h1;exact h1
  clear hbA HSZ
  go_upto_region 10 with (fail)
  refine wRn [58,59,60,61,62,63,64,65,66,67,68,69,70,71,72,73,74,75,76,77,78,79,80,81,82,83,84,85,86,87,88] (fun i=>match i with
   |0|2|9|10=>rV (.int .i64 (X.length:Nat))
   |1=>rV (.slice A1 X.length c1)
   |3|4|11|12|13|17|18|19|23|24|25|29|30=>rV (.bool false)
   |5|6|7=>rp g 0
   |8=>rV (.iface 109 (.pointer (some ⟨b,0,none⟩)))
   |14|16=>rV (.int .i64 Z.1)
   |15=>rp w.heap.size 0
   |20|22=>rV (.int .i64 Z.2.1)
   |21=>rp w.heap.size 1
   |26|28=>rV (.int .i64 Z.2.2)
   |27=>rp w.heap.size 2
   | _=>ra) ⟨?_,?_,?_,?_,?_,?_,?_,?_,?_,?_,?_,?_,?_,?_,?_,?_,?_,?_,?_,?_,?_,?_,?_,?_,?_,?_,?_,?_,?_,?_,?_,trivial⟩ ?_
  ·refine zp fun L a w1 hh=>?_;have h6:=hh.p 6 nb 0;have hB:=Hd ((FA.out _ hh.rel).2.2.2);have c0:=hB.out.c 0 rfl;have i0:=hB.out.inside;clear hh;go_simp;exact ⟨_,rfl,rB,rfl,trivial⟩
  ·refine zp fun L a w1 hh=>?_;have h5:=hh.p 5 ab 0;have hB:=Hd ((FA.out _ hh.rel).2.2.1);have c0:=hB.out.c 0 rfl;have i0:=hB.out.inside;clear hh;go_simp;exact ⟨_,rfl,rB,rfl,trivial⟩
  ·refine zp fun L a w1 hh=>?_;have h59:=rq (hh.d 1 59);clear hh;go_simp;exact ⟨_,rfl,rB,rfl,trivial⟩
  ·refine zp fun L a w1 hh=>?_;have h58:=rq (hh.d 0 58);have h60:=rq (hh.d 2 60);clear hh;go_simp;exact ⟨_,rfl,rB,rfl,trivial⟩
  ·refine zp fun L a w1 hh=>?_;have h61:=rq (hh.d 3 61);clear hh;go_simp;exact ⟨_,rfl,rB,rfl,trivial⟩
  ·refine sy rfl rfl fun L a w1 hh=>?_;have h0:=hh.p 0 g 0;clear hh;go_simp;exact ⟨_,rfl,rB,rfl,trivial⟩
  ·refine sy rfl rfl fun L a w1 hh=>?_;have h63:=rq (hh.d 5 63);clear hh;go_simp;exact ⟨_,rfl,rB,rfl,trivial⟩
  ·refine sy rfl rfl fun L a w1 hh=>?_;have h64:=rq (hh.d 6 64);have i0:=((FA.out _ hh.rel).1.blk.blk).inside;clear hh;go_simp;exact ⟨_,rfl,rB,rfl,trivial⟩
  ·refine sy rfl rfl fun L a w1 hh=>?_;have h65:=rq (hh.d 7 65);have hB:=Hd ((FA.out _ hh.rel).1.blk.blk);have c0:=hB.out.c 0 rfl;have i0:=hB.out.inside;clear hh;go_simp;exact ⟨_,rfl,rB,rfl,trivial⟩
  ·refine sy rfl rfl fun L a w1 hh=>?_;have h66:=rq (hh.d 8 66);have hinv:=inv_len (.pointer (some ⟨b,0,none⟩));have hC:=Hd (FL.out _ hh.rel);have hJ:=hh.j;clear hh;go_simp;refine hC.out.mono ?_;rintro e w9 ⟨rfl,hb9⟩;exact ⟨_,rfl,hb9,rfl,hJ.out⟩
  ·refine sy rfl rfl fun L a w1 hh=>?_;have h6:=hh.p 6 nb 0;have hB:=Hd ((FA.out _ hh.rel).2.2.2);have c0:=hB.out.c 0 rfl;have i0:=hB.out.inside;clear hh;go_simp;exact ⟨_,rfl,rB,rfl,trivial⟩
  ·refine sy rfl rfl fun L a w1 hh=>?_;have h67:=rq (hh.d 9 67);have h68:=rq (hh.d 10 68);clear hh;go_simp;exact ⟨_,rfl,rB,rfl,trivial⟩
  ·refine zp fun L a w1 hh=>?_;have h62:=rq (hh.d 4 62);have h69:=rq (hh.d 11 69);clear hh;go_simp;exact ⟨_,rfl,rB,rfl,trivial⟩
  ·refine zp fun L a w1 hh=>?_;have h70:=rq (hh.d 12 70);clear hh;go_simp;exact ⟨_,rfl,rB,rfl,trivial⟩
  ·refine sy rfl rfl fun L a w1 hh=>?_;have h9:=hh.o 9 (v:=.int .i64 Z.1) rfl;clear hh;go_simp;exact ⟨_,rfl,rB,rfl,trivial⟩
  ·refine sy rfl rfl fun L a w1 hh=>?_;have h3:=hh.p 3 w.heap.size 0;have i0:=((FA.out _ hh.rel).2.1).inside;clear hh;go_simp;exact ⟨_,rfl,rB,rfl,trivial⟩
  ·refine sy rfl rfl fun L a w1 hh=>?_;have h73:=rq (hh.d 15 73);have hB:=Hd ((FA.out _ hh.rel).2.1);have c0:=hB.out.c 0 rfl;have i0:=hB.out.inside;clear hh;go_simp;exact ⟨_,rfl,rB,rfl,trivial⟩
  ·refine sy rfl rfl fun L a w1 hh=>?_;have h72:=rq (hh.d 14 72);have h74:=rq (hh.d 16 74);clear hh;go_simp;exact ⟨_,rfl,rB,rfl,trivial⟩
  ·refine zp fun L a w1 hh=>?_;have h71:=rq (hh.d 13 71);have h75:=rq (hh.d 17 75);clear hh;go_simp;exact ⟨_,rfl,rB,rfl,trivial⟩
  ·refine zp fun L a w1 hh=>?_;have h76:=rq (hh.d 18 76);clear hh;go_simp;exact ⟨_,rfl,rB,rfl,trivial⟩
  ·refine sy rfl rfl fun L a w1 hh=>?_;have h10:=hh.o 10 (v:=.int .i64 Z.2.1) rfl;clear hh;go_simp;exact ⟨_,rfl,rB,rfl,trivial⟩
  ·refine sy rfl rfl fun L a w1 hh=>?_;have h3:=hh.p 3 w.heap.size 0;have i0:=((FA.out _ hh.rel).2.1).inside;clear hh;go_simp;exact ⟨_,rfl,rB,rfl,trivial⟩
  ·refine sy rfl rfl fun L a w1 hh=>?_;have h79:=rq (hh.d 21 79);have hB:=Hd ((FA.out _ hh.rel).2.1);have c0:=hB.out.c 1 rfl;have i0:=hB.out.inside;clear hh;go_simp;exact ⟨_,rfl,rB,rfl,trivial⟩
  ·refine sy rfl rfl fun L a w1 hh=>?_;have h78:=rq (hh.d 20 78);have h80:=rq (hh.d 22 80);clear hh;go_simp;exact ⟨_,rfl,rB,rfl,trivial⟩
  ·refine zp fun L a w1 hh=>?_;have h77:=rq (hh.d 19 77);have h81:=rq (hh.d 23 81);clear hh;go_simp;exact ⟨_,rfl,rB,rfl,trivial⟩
  ·refine zp fun L a w1 hh=>?_;have h82:=rq (hh.d 24 82);clear hh;go_simp;exact ⟨_,rfl,rB,rfl,trivial⟩
  ·refine sy rfl rfl fun L a w1 hh=>?_;have h11:=hh.o 11 (v:=.int .i64 Z.2.2) rfl;clear hh;go_simp;exact ⟨_,rfl,rB,rfl,trivial⟩
  ·refine sy rfl rfl fun L a w1 hh=>?_;have h3:=hh.p 3 w.heap.size 0;have i0:=((FA.out _ hh.rel).2.1).inside;clear hh;go_simp;exact ⟨_,rfl,rB,rfl,trivial⟩
  ·refine sy rfl rfl fun L a w1 hh=>?_;have h85:=rq (hh.d 27 85);have hB:=Hd ((FA.out _ hh.rel).2.1);have c0:=hB.out.c 2 rfl;have i0:=hB.out.inside;clear hh;go_simp;exact ⟨_,rfl,rB,rfl,trivial⟩
  ·refine sy rfl rfl fun L a w1 hh=>?_;have h84:=rq (hh.d 26 84);have h86:=rq (hh.d 28 86);clear hh;go_simp;exact ⟨_,rfl,rB,rfl,trivial⟩
  ·refine zp fun L a w1 hh=>?_;have h83:=rq (hh.d 25 83);have h87:=rq (hh.d 29 87);clear hh;go_simp;exact ⟨_,rfl,rB,rfl,trivial⟩
  intro L w10 val hL hJ hR hv;have h88:val 88=.bool false:=hv 30 88 (by kernel_rfl);have HR10:=Hd hR;clear hv hL hJ hR;simp only [regs.putAll,List.map_cons,List.map_nil,h88];simp only [Act.put,List.setIfInBounds_toArray,List.set_cons_zero,List.set_cons_succ];clear h88
  generalize val 58=v58,val 59=v59,val 60=v60,val 61=v61,val 62=v62,val 63=v63,val 64=v64,val 65=v65,val 66=v66,val 67=v67,val 68=v68,val 69=v69,val 70=v70,val 71=v71,val 72=v72,val 73=v73,val 74=v74,val 75=v75,val 76=v76,val 77=v77,val 78=v78,val 79=v79,val 80=v80,val 81=v81,val 82=v82,val 83=v83,val 84=v84,val 85=v85,val 86=v86,val 87=v87 at *;have HB10:Hid (Below wA.heap.size wA w10):=HR10.out;have hlb:=HLL.out;obtain ⟨-,-,a3,-⟩:=FA.out w10 HB10.out;have ac:=a3.cell 0;have ai:=a3.inside;simp only [List.getElem?_cons_zero] at ac;clear a3 FL HR10
  go_upto_region 13 with (fail)
  clear ac ai
  go_loopw [91] (fun x91 wr=>∃ j:Nat,j<=X.length∧x91=.int .i64 j∧Hid (Below wA.heap.size wA wr)) (fun x91 _=>X.length - (intOf x91).toNat)
  case atStart=>exact ⟨0,Nat.zero_le _,rfl,HB10.out⟩
  case round=>
   obtain ⟨j,hj,rfl,HBR⟩:=hrel;generalize wr=wB at *;by_cases hlt:j<X.length
   ·have t1:decide (j<X.length)=true:=decide_eq_true hlt;have HLT:=Hd hlt;have HHI:Hid (has x.t X[j]=true):=(HXM.out _).1 (List.getElem_mem hlt);obtain ⟨sc0,-,-,hrw,-,-,-⟩:=HALL.out wB (HKA.out wB HBR.out);obtain ⟨-,-,-,-,-,hdm0,-⟩:=HALL.out wA (HKA.out wA (Below.refl _ _));obtain ⟨b2,o2,rfl,k1⟩:=hrw.at_ hlt;unfold eI at k1;have ki:=World.block_lt_of_cell? wB _ k1;generalize X[j]=id at *;have HI64:Hid (I64 id):=has_64 HX.out.ok HHI.out;have hnd:ndAt x id=x.nd id:=if_pos HHI.out;have hws:wsAt x id=x.ws id:=if_pos HHI.out;have HNC:=Hd (node_any sc0 HX.out.fit id HI64.out)
    have HHB:Hid (has x.t id=true):=HHI.out;rw [hnd,HHB.out] at HNC
    have hwv:worldV x.t x.nd id=(x.ws id,true):=by
     have h1:=HX.out.set id HHI.out (fun _ _ h=>h) (fun h=>h);rw [worldV_of HX.out.ok HX.out.good.m (has_iff.1 HHI.out)] at h1
     obtain ⟨p1,p2⟩:∃ q,worldV x.t x.nd id=q:=⟨_,rfl⟩
     rw [p2] at h1 ⊢;obtain ⟨q1,q2⟩:=p1;cases q2 with
     | false=>simp at h1
     | true=>simp at h1;rw [h1]
    obtain ⟨Ad,cd,hrd,hlk⟩:=hdm0.look HI64.out HHI.out;have HRD:=Hd hrd.row;have HLK:=Hd hlk;have HFT:Hid (Fit (x.nd id)):=HX.out.fit id
    have HWC:Hid (∀ W,Below wA.heap.size wA W->Calls Tryz.prog 54 #[.pointer (some ⟨g,0,none⟩),.int .i64 id] W fun e w'=>e=.returned (.tuple #[.agg (x.ws id).cs.toArray,.bool true])∧Below W.heap.size W w'):=fun W hb=>by
     have h1:=world_any (HALL.out W (HKA.out W hb)).1 id HI64.out;rw [hws,HHB.out] at h1;exact h1
    have HDW:Hid (∀ W,Below wA.heap.size wA W->Calls Tryz.prog 63 #[.agg (Vc Z.1 Z.2.1 Z.2.2 At x.t.length ct dm).toArray,.int .i64 id] W fun e w'=>e=.returned (.tuple #[.agg (x.ws id).cs.toArray,.bool true])∧Below W.heap.size W w'):=fun W hb=>by
     obtain ⟨-,-,-,-,h1,h2,-⟩:=HALL.out W (HKA.out W hb);have h3:=dworld_any Z.1 Z.2.1 Z.2.2 (.slice At x.t.length ct) x.t dm x.nd HX.out.ok (by have:=HN.out;omega) (depth x.t id) id W h1 h2 HHI.out (Nat.le_refl _);rw [hwv] at h3;exact h3
    have HPAR:Hid (∀ W,Below wA.heap.size wA W->Calls Tryz.prog 321 #[.pointer (some ⟨b,0,none⟩),.int .i64 id] W (fun e w'=>e=.returned (.int .i64 (par x.t id))∧Below W.heap.size W w')∧Calls Tryz.prog 23 #[.slice At x.t.length ct,.int .i64 id] W fun e w'=>e=.returned (.int .i64 (par x.t id))∧Below W.heap.size W w'):=fun W hb=>by
     obtain ⟨h0,-,-,-,h1,-,-⟩:=HALL.out W (HKA.out W hb);exact ⟨tparent h0.tree id HI64.out,dpar At x.t ct id W h1.srow (by have:=HN.out;omega)⟩
    have HKID:Hid (∀ W,Below wA.heap.size wA W->Calls Tryz.prog 319 #[.pointer (some ⟨b,0,none⟩),.int .i64 id] W (fun e w'=>∃ A c,e=.returned (.slice A (kids x.t id).length c)∧Below W.heap.size W w')∧Calls Tryz.prog 64 #[.slice At x.t.length ct,.int .i64 id] W fun e w'=>∃ A c,e=.returned (.slice A (kids x.t id).length c)∧Below W.heap.size W w'):=fun W hb=>by
     obtain ⟨h0,-,-,-,h1,-,-⟩:=HALL.out W (HKA.out W hb);refine ⟨(tkids h0.tree (by have:=HN.out;omega) id HI64.out).mono ?_,(dkids At x.t ct id W h1.srow (by have:=HN.out;omega)).mono ?_⟩
     all_goals
      unfold KidsQ;rintro e w' ⟨v,rfl,ho,hb⟩;obtain ⟨A,c,rfl,-⟩:=ho.irow;exact ⟨A,c,rfl,hb⟩
    have hjb:(j:Int)<=901:=by have:=HLL.out;omega
    obtain ⟨n,hnn⟩:∃ n,x.nd id=n:=⟨_,rfl⟩
    obtain ⟨u,huu⟩:∃ u,x.ws id=u:=⟨_,rfl⟩
    obtain ⟨pp,hpp⟩:∃ pp,par x.t id=pp:=⟨_,rfl⟩
    obtain ⟨KL,hKL⟩:∃ KL,(kids x.t id).length=KL:=⟨_,rfl⟩
    have HKL:Hid ((KL:Int)<=100000):=by
     have h1:=kids_le (t:=x.t) id;show _<=_;have:=HN.out;omega
    rw [hnn] at HNC HRD HLK HFT;rw [huu] at HWC HDW;rw [hpp] at HPAR;rw [hKL] at HKID;clear hrw hlt hj sc0 hdm0 hrd hlk hnd hws hwv hnn huu hpp hKL;go_wp2_with (fail);refine HNC.out.mono ?_;rintro e wC ⟨An,cn,rfl,hbC,hoC⟩;have HBC:Hid (Below wA.heap.size wA wC):=HBR.out.trans (hbC.mono HBR.out.size);have HRC:=Hd hoC.1.row;clear hbC hoC k1 ki HNC;have HZ14:Hid (Blk (wC.alloc (.cells Va.toArray 72)) wC.heap.size Va):=blk_new wC Va _;have HBz:Hid (Below wC.heap.size wC (wC.alloc (.cells Va.toArray 72))):=(Below.refl _ _).alloc (Nat.le_refl _) _
    go_upto_region 16 with (first | (with_reducible refine gS ?_;first | (refine wpl_stow 72 _ _ rfl rfl rfl _ 0 rfl (n.cs An cn) rfl (Va) HZ14.out (n.cs An cn) rfl (Nat.le_of_ble_eq_true rfl) (by kernel_rfl) (Nd.one _ _ _) ?_;intro wD HWD HKD2)))
    obtain ⟨k14,hk14⟩:∃ k14,wC.heap.size=k14:=⟨_,rfl⟩
    have HBE:Hid (Below wC.heap.size wC wD):=HWD.out.below HBz.out (Nat.le_refl _);have HRE:=Hd (Row.below HRC.out HBE.out);rw [hk14] at HKD2 HBE ⊢;have HBD:Hid (Below wA.heap.size wA wD):=HBC.out.trans (HBE.out.mono (by rw [← hk14];exact HBC.out.size));clear HZ14 HBz HWD HBE HBC HRC hk14;have HWC2:=Hd (HWC.out wD HBD.out);go_wp2_with (fail);refine HWC2.out.mono ?_;rintro e wE ⟨rfl,hbE⟩;have HBEa:Hid (Below wA.heap.size wA wE):=HBD.out.trans (hbE.mono HBD.out.size);have HRF:=Hd (Row.below HRE.out hbE);have HKE:=Hd (HKD2.out.below' hbE);clear hbE HWC2 HWC HBD HRE HKD2
    have HZ16:Hid (Blk (wE.alloc (.cells Vd.toArray 68)) wE.heap.size Vd):=blk_new wE Vd _;have HBz:Hid (Below wE.heap.size wE (wE.alloc (.cells Vd.toArray 68))):=(Below.refl _ _).alloc (Nat.le_refl _) _
    go_upto_region 17 with (first | (with_reducible refine gS ?_;first | (refine wpl_stow 68 _ _ rfl rfl rfl _ 0 rfl (u.cs) rfl (Vd) HZ16.out (u.cs) rfl (Nat.le_of_ble_eq_true rfl) (by kernel_rfl) (Mp.one1 _) ?_;intro wF HWF HKF)))
    obtain ⟨k16,hk16⟩:∃ k16,wE.heap.size=k16:=⟨_,rfl⟩
    have HBF:Hid (Below wE.heap.size wE wF):=HWF.out.below HBz.out (Nat.le_refl _);have HRG:=Hd (Row.below HRF.out HBF.out);have HKF1:=Hd (HKE.out.below' HBF.out);rw [hk16] at HKF HBF ⊢;have HBFa:Hid (Below wA.heap.size wA wF):=HBEa.out.trans (HBF.out.mono (by rw [← hk16];exact HBEa.out.size));clear HZ16 HBz HWF HBF HBEa HRF HKE hk16;have HDW2:=Hd (HDW.out wF HBFa.out);obtain ⟨-,dk,-⟩:=HALL.out wF (HKA.out wF HBFa.out);have HDK:=Hd dk;clear dk
    go_wp2_with (first | (with_reducible refine gL ?_;first | (refine wpl_take 34 _ rfl rfl _ 0 rfl ((Vc Z.1 Z.2.1 Z.2.2 At x.t.length ct dm)) HDK.out ((Vc Z.1 Z.2.1 Z.2.2 At x.t.length ct dm)) rfl _ Tryz.underlying34 rfl (by kernel_rfl) ?_)));refine HDW2.out.mono ?_;rintro e wG ⟨rfl,hbG⟩;have HBGa:Hid (Below wA.heap.size wA wG):=HBFa.out.trans (hbG.mono HBFa.out.size);have HRH:=Hd (Row.below HRG.out hbG);have HKG1:=Hd (HKF1.out.below' hbG);have HKG2:=Hd (HKF.out.below' hbG);clear hbG HDW2 HDW HBFa HRG HKF1 HKF HDK
    have HZ18:Hid (Blk (wG.alloc (.cells Vd.toArray 50)) wG.heap.size Vd):=blk_new wG Vd _;have HBz:Hid (Below wG.heap.size wG (wG.alloc (.cells Vd.toArray 50))):=(Below.refl _ _).alloc (Nat.le_refl _) _
    go_upto_region 18 with (first | (with_reducible refine gS ?_;first | (refine wpl_stow 50 _ _ rfl rfl rfl _ 0 rfl (u.cs) rfl (Vd) HZ18.out (u.cs) rfl (Nat.le_of_ble_eq_true rfl) (by kernel_rfl) (Mp.one1 _) ?_;intro wH HWH HKH)))
    obtain ⟨k18,hk18⟩:∃ k18,wG.heap.size=k18:=⟨_,rfl⟩
    have HBH:Hid (Below wG.heap.size wG wH):=HWH.out.below HBz.out (Nat.le_refl _);have HRI:=Hd (Row.below HRH.out HBH.out);have HKH1:=Hd (HKG1.out.below' HBH.out);have HKH2:=Hd (HKG2.out.below' HBH.out);rw [hk18] at HKH HBH ⊢;have HBHa:Hid (Below wA.heap.size wA wH):=HBGa.out.trans (HBH.out.mono (by rw [← hk18];exact HBGa.out.size));clear HZ18 HBz HWH HBH HBGa HRH HKG1 HKG2 hk18
    have GA:Hid (∀ W,regs.bl wH W->SceneAt W g b m s Z x∧Blk W w.heap.size (Vc Z.1 Z.2.1 Z.2.2 At x.t.length ct dm)):=fun W hb=>by
     obtain ⟨h1,h2,-⟩:=HALL.out W (HKA.out W (HBHa.out.trans (Below.mono hb HBHa.out.size)));exact ⟨h1,h2⟩
    have GA2:Hid (∀ W,regs.bl wH W->Blk W w.heap.size (Vc Z.1 Z.2.1 Z.2.2 At x.t.length ct dm)):=fun W hb=>(GA.out W hb).2
    have GB:Hid (∀ W,regs.bl wH W->Blk W k14 (n.cs An cn)∧Blk W k16 u.cs∧Blk W k18 u.cs):=fun W hb=>⟨HKH1.out.below' hb,HKH2.out.below' hb,HKH.out.below' hb⟩
    have GR:Hid (∀ W,regs.bl wH W->Calls Tryz.prog 26 #[.agg (n.cs An cn).toArray] W fun e w'=>∃ A9 c9,e=.returned (.agg (n.cs A9 c9).toArray)∧Row eW w' A9 n.lk.l∧Below W.heap.size W w'):=fun W hb=>by
     refine (ref_any n.m n.op n.hi n.cl n.r n.lk.k n.lk.W n.lk.H n.lk.p n.lk.iw n.lk.ih An n.lk.l cn W (Row.below HRI.out hb) (by have:=HFT.out.len;omega)).mono ?_;rintro e w' ⟨A9,c9,h1,h2,-,-,h3⟩;exact ⟨A9,c9,h1,h2,h3⟩
    have GL:Hid (∀ W,regs.bl wH W->(Instr.lookup tDNs (.map (some dm)) (.int .i64 id) false).run Tryz.prog W=.ok (.agg (n.cs Ad cd).toArray) W):=fun W hb=>HLK.out W (HBHa.out.trans (Below.mono hb HBHa.out.size));have GK:Hid (∀ W,regs.bl wH W->∀ A8 c8,Row eW W A8 n.lk.l->Calls Tryz.prog 24 #[.agg (n.cs A8 c8).toArray,.agg (n.cs Ad cd).toArray] W fun e w'=>e=.returned (.bool true)∧Below W.heap.size W w'):=fun W hb A8 c8 h8=>alike_yes n A8 Ad c8 cd W h8 (Row.below HRD.out (HBHa.out.trans (Below.mono hb HBHa.out.size))) (by have:=HFT.out.len;omega)
    have GP:Hid (∀ W,regs.bl wH W->_):=fun W hb=>HPAR.out W (HBHa.out.trans (Below.mono hb HBHa.out.size));have GKD:Hid (∀ W,regs.bl wH W->_):=fun W hb=>HKID.out W (HBHa.out.trans (Below.mono hb HBHa.out.size));have hkb:=HKL.out
    refine wRn [113,114,115,116,117,118,119,120,121,122,123,124,125,126,127,128,129,130,131,132,133,134,135,136,137,138,139,140,141,142,143,144,145,146,147,148,149,150,151,152,153,154,155,156,157,158,159,160,161,162,163,164,165,166,167,168,169,170,171,172,173] (fun i=>match i with
     |0|3=>rT
     |1|2|4|5|6=>rV (.bool false)
     |7=>rV (.agg (n.cs An cn).toArray)
     | 8=>sayNd n
     |9=>rp w.heap.size 4
     |10=>rV (.map (some dm))
     |11|38|42|51=>rV (.int .i64 id)
     |12=>rV (.agg (n.cs Ad cd).toArray)
     |13=>rT
     |14|15|16|31|32|33|44|45|46=>rV (.bool false)
     |17=>rp k16 0
     |18=>rV (.int .i64 u.a)
     |19=>rp k16 1
     |20=>rV (.int .i64 u.b)
     |21=>rp k16 2
     |22=>rV (.int .i64 u.c)
     |23=>rp k16 3
     |24=>rV (.int .i64 u.d)
     |25=>rp k16 4
     |26=>rV (.int .i64 u.e)
     |27=>rp k16 5
     |28=>rV (.int .i64 u.f)
     |29|30=>rV (.agg (u.cs).toArray)
     |34|35|36|47|48|49=>rp g 0
     |37|50=>rV (.iface 109 (.pointer (some ⟨b,0,none⟩)))
     |39|43=>rV (.int .i64 pp)
     |40=>rp w.heap.size 3
     |41=>rV (.slice At x.t.length ct)
     | 52=>sayKn KL
     |53=>rV (.int .i64 (KL:Nat))
     |54=>rp w.heap.size 3
     |55=>rV (.slice At x.t.length ct)
     |56=>rV (.int .i64 id)
     | 57=>sayKn KL
     |58=>rV (.int .i64 (KL:Nat))
     |59|60=>rV (.bool false)
     | _=>ra) ⟨?_,?_,?_,?_,?_,?_,?_,?_,?_,?_,?_,?_,?_,?_,?_,?_,?_,?_,?_,?_,?_,?_,?_,?_,?_,?_,?_,?_,?_,?_,?_,?_,?_,?_,?_,?_,?_,?_,?_,?_,?_,?_,?_,?_,?_,?_,?_,?_,?_,?_,?_,?_,?_,?_,?_,?_,?_,?_,?_,?_,?_,trivial⟩ ?_
    ·refine zp fun L a w1 hh=>?_;have h15:=hh.o 15 (v:=.bool true) rfl;clear hh;go_simp;exact ⟨_,rfl,rB,rfl,trivial⟩
    ·refine zp fun L a w1 hh=>?_;have h113:=rq (hh.d 0 113);clear hh;go_simp;exact ⟨_,rfl,rB,rfl,trivial⟩
    ·refine zp fun L a w1 hh=>?_;have h114:=rq (hh.d 1 114);clear hh;go_simp;exact ⟨_,rfl,rB,rfl,trivial⟩
    ·refine sy rfl rfl fun L a w1 hh=>?_;have h17:=hh.o 17 (v:=.bool true) rfl;clear hh;go_simp;exact ⟨_,rfl,rB,rfl,trivial⟩
    ·refine sy rfl rfl fun L a w1 hh=>?_;have h116:=rq (hh.d 3 116);clear hh;go_simp;exact ⟨_,rfl,rB,rfl,trivial⟩
    ·refine zp fun L a w1 hh=>?_;have h115:=rq (hh.d 2 115);have h117:=rq (hh.d 4 117);clear hh;go_simp;exact ⟨_,rfl,rB,rfl,trivial⟩
    ·refine zp fun L a w1 hh=>?_;have h118:=rq (hh.d 5 118);clear hh;go_simp;exact ⟨_,rfl,rB,rfl,trivial⟩
    ·refine sy rfl rfl fun L a w1 hh=>?_;have h14:=hh.p 14 k14 0;have hB:=Hd ((GB.out _ hh.rel).1);have hJ:=Hd hh.st;exact wp_take 72 _ rfl k14 0 (by simpa [go_sem] using h14) _ hB.out (n.cs An cn) rfl _ Tryz.underlying72 rfl (by kernel_rfl) ⟨_,rfl,rB,rfl,hJ.out⟩
    ·refine sy rfl rfl fun L a w1 hh=>?_;have h120:=rq (hh.d 7 120);have hC:=Hd (GR.out _ hh.rel);have hJ:=hh.j;clear hh;go_simp;refine hC.out.mono ?_;rintro e w9 ⟨A9,c9,rfl,hr9,hb9⟩;exact ⟨_,rfl,hb9,⟨A9,c9,rfl,hr9⟩,hJ.out⟩
    ·refine sy rfl rfl fun L a w1 hh=>?_;have h3:=hh.p 3 w.heap.size 0;have i0:=(GA2.out _ hh.rel).inside;clear hh;go_simp;exact ⟨_,rfl,rB,rfl,trivial⟩
    ·refine sy rfl rfl fun L a w1 hh=>?_;have h122:=rq (hh.d 9 122);have hB:=Hd (GA2.out _ hh.rel);have c0:=hB.out.c 4 rfl;have i0:=hB.out.inside;clear hh;go_simp;exact ⟨_,rfl,rB,rfl,trivial⟩
    ·refine sy rfl rfl fun L a w1 hh=>?_;have h13:=hh.o 13 (v:=.int .i64 id) rfl;clear hh;go_simp;exact ⟨_,rfl,rB,rfl,trivial⟩
    ·refine sy rfl rfl fun L a w1 hh=>?_;have h123:=rq (hh.d 10 123);have h124:=rq (hh.d 11 124);have hlk:=GL.out _ hh.rel;clear hh;go_simp;exact ⟨_,rfl,rB,rfl,trivial⟩
    ·refine sy rfl rfl fun L a w1 hh=>?_;have h125:=rq (hh.d 12 125)
     obtain ⟨A8,c8,e8,hr8⟩:=(show ∃ A c,(a.tmps.getD 121 undef)=.agg (n.cs A c).toArray∧Row eW w1 A n.lk.l from hh.d 8 121)
     have h121:a.tmps[121]?.getD undef=.agg (n.cs A8 c8).toArray:=rq (e8);have hC:=Hd (GK.out w1 hh.rel A8 c8 hr8);have hJ:=Hd hh.st;clear hh e8 hr8;go_simp;refine hC.out.mono ?_;rintro e w9 ⟨rfl,hb9⟩;exact ⟨_,rfl,hb9,rfl,hJ.out⟩
    ·refine sy rfl rfl fun L a w1 hh=>?_;have h126:=rq (hh.d 13 126);clear hh;go_simp;exact ⟨_,rfl,rB,rfl,trivial⟩
    ·refine zp fun L a w1 hh=>?_;have h119:=rq (hh.d 6 119);have h127:=rq (hh.d 14 127);clear hh;go_simp;exact ⟨_,rfl,rB,rfl,trivial⟩
    ·refine zp fun L a w1 hh=>?_;have h128:=rq (hh.d 15 128);clear hh;go_simp;exact ⟨_,rfl,rB,rfl,trivial⟩
    ·refine sy rfl rfl fun L a w1 hh=>?_;have h16:=hh.p 16 k16 0;have i0:=((GB.out _ hh.rel).2.1).inside;clear hh;go_simp;exact ⟨_,rfl,rB,rfl,trivial⟩
    ·refine sy rfl rfl fun L a w1 hh=>?_;have h130:=rq (hh.d 17 130);have hB:=Hd ((GB.out _ hh.rel).2.1);have c0:=hB.out.c 0 rfl;have i0:=hB.out.inside;clear hh;go_simp;exact ⟨_,rfl,rB,rfl,trivial⟩
    ·refine sy rfl rfl fun L a w1 hh=>?_;have h16:=hh.p 16 k16 0;have i0:=((GB.out _ hh.rel).2.1).inside;clear hh;go_simp;exact ⟨_,rfl,rB,rfl,trivial⟩
    ·refine sy rfl rfl fun L a w1 hh=>?_;have h132:=rq (hh.d 19 132);have hB:=Hd ((GB.out _ hh.rel).2.1);have c0:=hB.out.c 1 rfl;have i0:=hB.out.inside;clear hh;go_simp;exact ⟨_,rfl,rB,rfl,trivial⟩
    ·refine sy rfl rfl fun L a w1 hh=>?_;have h16:=hh.p 16 k16 0;have i0:=((GB.out _ hh.rel).2.1).inside;clear hh;go_simp;exact ⟨_,rfl,rB,rfl,trivial⟩
    ·refine sy rfl rfl fun L a w1 hh=>?_;have h134:=rq (hh.d 21 134);have hB:=Hd ((GB.out _ hh.rel).2.1);have c0:=hB.out.c 2 rfl;have i0:=hB.out.inside;clear hh;go_simp;exact ⟨_,rfl,rB,rfl,trivial⟩
    ·refine sy rfl rfl fun L a w1 hh=>?_;have h16:=hh.p 16 k16 0;have i0:=((GB.out _ hh.rel).2.1).inside;clear hh;go_simp;exact ⟨_,rfl,rB,rfl,trivial⟩
    ·refine sy rfl rfl fun L a w1 hh=>?_;have h136:=rq (hh.d 23 136);have hB:=Hd ((GB.out _ hh.rel).2.1);have c0:=hB.out.c 3 rfl;have i0:=hB.out.inside;clear hh;go_simp;exact ⟨_,rfl,rB,rfl,trivial⟩
    ·refine sy rfl rfl fun L a w1 hh=>?_;have h16:=hh.p 16 k16 0;have i0:=((GB.out _ hh.rel).2.1).inside;clear hh;go_simp;exact ⟨_,rfl,rB,rfl,trivial⟩
    ·refine sy rfl rfl fun L a w1 hh=>?_;have h138:=rq (hh.d 25 138);have hB:=Hd ((GB.out _ hh.rel).2.1);have c0:=hB.out.c 4 rfl;have i0:=hB.out.inside;clear hh;go_simp;exact ⟨_,rfl,rB,rfl,trivial⟩
    ·refine sy rfl rfl fun L a w1 hh=>?_;have h16:=hh.p 16 k16 0;have i0:=((GB.out _ hh.rel).2.1).inside;clear hh;go_simp;exact ⟨_,rfl,rB,rfl,trivial⟩
    ·refine sy rfl rfl fun L a w1 hh=>?_;have h140:=rq (hh.d 27 140);have hB:=Hd ((GB.out _ hh.rel).2.1);have c0:=hB.out.c 5 rfl;have i0:=hB.out.inside;clear hh;go_simp;exact ⟨_,rfl,rB,rfl,trivial⟩
    ·refine sy rfl rfl fun L a w1 hh=>?_;have h131:=rq (hh.d 18 131);have h133:=rq (hh.d 20 133);have h135:=rq (hh.d 22 135);have h137:=rq (hh.d 24 137);have h139:=rq (hh.d 26 139);have h141:=rq (hh.d 28 141);have hJ:=Hd hh.st;exact wp_build _ _ rfl (by simp [go_sem,h131,h133,h135,h137,h139,h141]) (build_dm u w1) ⟨_,rfl,rB,rfl,hJ.out⟩
    ·refine sy rfl rfl fun L a w1 hh=>?_;have h18:=hh.p 18 k18 0;have hB:=Hd ((GB.out _ hh.rel).2.2);have hJ:=Hd hh.st;exact wp_take 50 _ rfl k18 0 (by simpa [go_sem] using h18) _ hB.out (u.cs) rfl _ Tryz.underlying50 rfl (by kernel_rfl) ⟨_,rfl,rB,rfl,hJ.out⟩
    ·refine sy rfl rfl fun L a w1 hh=>?_;have h142:=rq (hh.d 29 142);have h143:=rq (hh.d 30 143);have hnq:=dmp_eqi u w1;clear hh;go_simp;exact ⟨_,rfl,rB,rfl,trivial⟩
    ·refine zp fun L a w1 hh=>?_;have h129:=rq (hh.d 16 129);have h144:=rq (hh.d 31 144);clear hh;go_simp;exact ⟨_,rfl,rB,rfl,trivial⟩
    ·refine zp fun L a w1 hh=>?_;have h145:=rq (hh.d 32 145);clear hh;go_simp;exact ⟨_,rfl,rB,rfl,trivial⟩
    ·refine sy rfl rfl fun L a w1 hh=>?_;have h0:=hh.p 0 g 0;clear hh;go_simp;exact ⟨_,rfl,rB,rfl,trivial⟩
    ·refine sy rfl rfl fun L a w1 hh=>?_;have h147:=rq (hh.d 34 147);clear hh;go_simp;exact ⟨_,rfl,rB,rfl,trivial⟩
    ·refine sy rfl rfl fun L a w1 hh=>?_;have h148:=rq (hh.d 35 148);have i0:=((GA.out _ hh.rel).1.blk.blk).inside;clear hh;go_simp;exact ⟨_,rfl,rB,rfl,trivial⟩
    ·refine sy rfl rfl fun L a w1 hh=>?_;have h149:=rq (hh.d 36 149);have hB:=Hd ((GA.out _ hh.rel).1.blk.blk);have c0:=hB.out.c 0 rfl;have i0:=hB.out.inside;clear hh;go_simp;exact ⟨_,rfl,rB,rfl,trivial⟩
    ·refine sy rfl rfl fun L a w1 hh=>?_;have h13:=hh.o 13 (v:=.int .i64 id) rfl;clear hh;go_simp;exact ⟨_,rfl,rB,rfl,trivial⟩
    ·refine sy rfl rfl fun L a w1 hh=>?_;have h150:=rq (hh.d 37 150);have h151:=rq (hh.d 38 151);have hinv:=inv_parent (.pointer (some ⟨b,0,none⟩));have hC:=Hd (GP.out _ hh.rel).1;have hJ:=hh.j;clear hh;go_simp;refine hC.out.mono ?_;rintro e w9 ⟨rfl,hb9⟩;exact ⟨_,rfl,hb9,rfl,hJ.out⟩
    ·refine sy rfl rfl fun L a w1 hh=>?_;have h3:=hh.p 3 w.heap.size 0;have i0:=(GA2.out _ hh.rel).inside;clear hh;go_simp;exact ⟨_,rfl,rB,rfl,trivial⟩
    ·refine sy rfl rfl fun L a w1 hh=>?_;have h153:=rq (hh.d 40 153);have hB:=Hd (GA2.out _ hh.rel);have c0:=hB.out.c 3 rfl;have i0:=hB.out.inside;clear hh;go_simp;exact ⟨_,rfl,rB,rfl,trivial⟩
    ·refine sy rfl rfl fun L a w1 hh=>?_;have h13:=hh.o 13 (v:=.int .i64 id) rfl;clear hh;go_simp;exact ⟨_,rfl,rB,rfl,trivial⟩
    ·refine sy rfl rfl fun L a w1 hh=>?_;have h154:=rq (hh.d 41 154);have h155:=rq (hh.d 42 155);have hC:=Hd (GP.out _ hh.rel).2;have hJ:=hh.j;clear hh;go_simp;refine hC.out.mono ?_;rintro e w9 ⟨rfl,hb9⟩;exact ⟨_,rfl,hb9,rfl,hJ.out⟩
    ·refine sy rfl rfl fun L a w1 hh=>?_;have h152:=rq (hh.d 39 152);have h156:=rq (hh.d 43 156);clear hh;go_simp;exact ⟨_,rfl,rB,rfl,trivial⟩
    ·refine zp fun L a w1 hh=>?_;have h146:=rq (hh.d 33 146);have h157:=rq (hh.d 44 157);clear hh;go_simp;exact ⟨_,rfl,rB,rfl,trivial⟩
    ·refine zp fun L a w1 hh=>?_;have h158:=rq (hh.d 45 158);clear hh;go_simp;exact ⟨_,rfl,rB,rfl,trivial⟩
    ·refine sy rfl rfl fun L a w1 hh=>?_;have h0:=hh.p 0 g 0;clear hh;go_simp;exact ⟨_,rfl,rB,rfl,trivial⟩
    ·refine sy rfl rfl fun L a w1 hh=>?_;have h160:=rq (hh.d 47 160);clear hh;go_simp;exact ⟨_,rfl,rB,rfl,trivial⟩
    ·refine sy rfl rfl fun L a w1 hh=>?_;have h161:=rq (hh.d 48 161);have i0:=((GA.out _ hh.rel).1.blk.blk).inside;clear hh;go_simp;exact ⟨_,rfl,rB,rfl,trivial⟩
    ·refine sy rfl rfl fun L a w1 hh=>?_;have h162:=rq (hh.d 49 162);have hB:=Hd ((GA.out _ hh.rel).1.blk.blk);have c0:=hB.out.c 0 rfl;have i0:=hB.out.inside;clear hh;go_simp;exact ⟨_,rfl,rB,rfl,trivial⟩
    ·refine sy rfl rfl fun L a w1 hh=>?_;have h13:=hh.o 13 (v:=.int .i64 id) rfl;clear hh;go_simp;exact ⟨_,rfl,rB,rfl,trivial⟩
    ·refine sy rfl rfl fun L a w1 hh=>?_;have h163:=rq (hh.d 50 163);have h164:=rq (hh.d 51 164);have hinv:=inv_kids (.pointer (some ⟨b,0,none⟩));have hC:=Hd ((GKD.out _ hh.rel).1);have hJ:=hh.j;clear hh;go_simp;refine hC.out.mono ?_;rintro e w9 ⟨A9,c9,rfl,hb9⟩;exact ⟨_,rfl,hb9,⟨A9,c9,rfl⟩,hJ.out⟩
    ·refine sy rfl rfl fun L a w1 hh=>?_
     obtain ⟨A8,c8,e8⟩:=(show ∃ A c,(a.tmps.getD 165 undef)=.slice A KL c from hh.d 52 165)
     have h165:a.tmps[165]?.getD undef=.slice A8 KL c8:=rq (e8);clear hh;go_simp;exact ⟨_,rfl,rB,rfl,trivial⟩
    ·refine sy rfl rfl fun L a w1 hh=>?_;have h3:=hh.p 3 w.heap.size 0;have i0:=(GA2.out _ hh.rel).inside;clear hh;go_simp;exact ⟨_,rfl,rB,rfl,trivial⟩
    ·refine sy rfl rfl fun L a w1 hh=>?_;have h167:=rq (hh.d 54 167);have hB:=Hd (GA2.out _ hh.rel);have c0:=hB.out.c 3 rfl;have i0:=hB.out.inside;clear hh;go_simp;exact ⟨_,rfl,rB,rfl,trivial⟩
    ·refine sy rfl rfl fun L a w1 hh=>?_;have h13:=hh.o 13 (v:=.int .i64 id) rfl;clear hh;go_simp;exact ⟨_,rfl,rB,rfl,trivial⟩
    ·refine sy rfl rfl fun L a w1 hh=>?_;have h168:=rq (hh.d 55 168);have h169:=rq (hh.d 56 169);have hC:=Hd ((GKD.out _ hh.rel).2);have hJ:=hh.j;clear hh;go_simp;refine hC.out.mono ?_;rintro e w9 ⟨A9,c9,rfl,hb9⟩;exact ⟨_,rfl,hb9,⟨A9,c9,rfl⟩,hJ.out⟩
    ·refine sy rfl rfl fun L a w1 hh=>?_
     obtain ⟨A8,c8,e8⟩:=(show ∃ A c,(a.tmps.getD 170 undef)=.slice A KL c from hh.d 57 170)
     have h170:a.tmps[170]?.getD undef=.slice A8 KL c8:=rq (e8);clear hh;go_simp;exact ⟨_,rfl,rB,rfl,trivial⟩
    ·refine sy rfl rfl fun L a w1 hh=>?_;have h166:=rq (hh.d 53 166);have h171:=rq (hh.d 58 171);clear hh;go_simp;exact ⟨_,rfl,rB,rfl,trivial⟩
    ·refine zp fun L a w1 hh=>?_;have h159:=rq (hh.d 46 159);have h172:=rq (hh.d 59 172);clear hh;go_simp;exact ⟨_,rfl,rB,rfl,trivial⟩
    intro L w18 val hL hJ hR hv;have h173:val 173=.bool false:=hv 60 173 (by kernel_rfl);have HR18:=Hd hR;clear hv hL hJ hR;simp only [regs.putAll,List.map_cons,List.map_nil,h173];simp only [Act.put,List.setIfInBounds_toArray,List.set_cons_zero,List.set_cons_succ];clear h173
    generalize val 113=v113,val 114=v114,val 115=v115,val 116=v116,val 117=v117,val 118=v118,val 119=v119,val 120=v120,val 121=v121,val 122=v122,val 123=v123,val 124=v124,val 125=v125,val 126=v126,val 127=v127,val 128=v128,val 129=v129,val 130=v130,val 131=v131,val 132=v132,val 133=v133,val 134=v134,val 135=v135,val 136=v136,val 137=v137,val 138=v138,val 139=v139,val 140=v140,val 141=v141,val 142=v142,val 143=v143,val 144=v144,val 145=v145,val 146=v146,val 147=v147,val 148=v148,val 149=v149,val 150=v150,val 151=v151,val 152=v152,val 153=v153,val 154=v154,val 155=v155,val 156=v156,val 157=v157,val 158=v158,val 159=v159,val 160=v160,val 161=v161,val 162=v162,val 163=v163,val 164=v164,val 165=v165,val 166=v166,val 167=v167,val 168=v168,val 169=v169,val 170=v170,val 171=v171,val 172=v172 at *
    have HB18:Hid (Below wA.heap.size wA w18):=HBHa.out.trans (Below.mono HR18.out HBHa.out.size);clear GA GA2 GB GR GL GK GP GKD HPAR HKID HR18 HBHa;go_wp2_with (fail)
    go_roundw
    case rel=>exact ⟨j+1,HLT.out,by go_num,HB18⟩
    case measure=>have:=HLT.out;simp [intOf];omega
   ·obtain rfl:j=X.length:=by omega
    have t1:decide (X.length<X.length)=false:=by simp
    have HRB:Hid (BlkT wB (w.heap.size+1) [.bool false] 4):=(HALL.out wB (HKA.out wB HBR.out)).2.2.2.2.2.2;have HDB:=Hd (HDA.out wB HBR.out);have rc:=HRB.out.blk.cell 0;have rf:=HRB.out.blk.free 0;have ri:=HRB.out.inside;simp only [List.getElem?_cons_zero] at rc;have HBF:=Hd (HB0.out.trans ((HLOW.out wB (HKA.out wB HBR.out)).mono HB0.out.size));have HRR:Hid (w.heap.size+1<w0.heap.size):=HRIN.out;clear hlt hj;go_wp2_with (fail)
    have hd8:(wB.setCell ⟨w.heap.size+1,0,none⟩ (.bool true)).heap[D]?=some (.deferred (some [])):=(heap_setCell_other _ _ _ _ (show D≠w.heap.size+1 by have:=HD1.out;have:=HRR.out;omega)).trans HDB.out;refine postM_ret w.heap.size ⟨⟨D,rfl,by have:=HD1.out;have:=HRR.out;omega,hd8,by simp⟩,trivial⟩ fun w' hbk=>?_;have hx':BlkT w' (w.heap.size+1) [.bool true] 4:=hbk.keep (HRB.out.set 0 (.bool true)) rfl;refine ⟨_,results_cell_bool rfl _ _ rfl (hx'.blk.cell 0),rfl,?_⟩
    have h4:Below w.heap.size w (wB.setCell ⟨w.heap.size+1,0,none⟩ (.bool true)):=HBF.out.setCell (p:=⟨w.heap.size+1,0,none⟩) (by simp) _;exact h4.trans (hbk.below (Nat.le_refl _) h4.size)
end
section
open Go.RowKit Go.ChangeShapes Go.WideShapes Go.ChangeAt Go.Deep
theorem own:ownKnob Tryz.prog.godebug=none:=by kernel_rfl
theorem laidOut:laidOutB Tryz.prog=true:=by kernel_rfl
theorem add_none (b off j:Nat):(⟨b,off,none⟩:Addr).add j=⟨b,off+j,none⟩:=by unfold Addr.add;split<;>simp_all
theorem from_list {α:Type} {n:Nat} {p:Nat->α->Prop} (h:∀ i,i<n->∃ x,p i x):∃ l:List α,l.length=n∧∀ i (hi:i<l.length),p i l[i]:=by
 induction n with
 | zero=>exact ⟨[],rfl,fun i hi=>by simp at hi⟩
 | succ n ih=>
  obtain ⟨l,hl,hp⟩:=ih (fun i hi=>h i (by omega));obtain ⟨x,hx⟩:=h n (by omega);refine ⟨l++[x],by simp [hl],fun i hi=>?_⟩;rw [List.length_append,List.length_cons,List.length_nil] at hi;by_cases hin:i<l.length
  ·rw [List.getElem_append_left hin];exact hp i hin
  ·have:i=n:=by omega
   subst this
   have e:(l++[x])[i]'(by rw [List.length_append,List.length_cons,List.length_nil];omega)=x:=by
    rw [List.getElem_append_right (by omega)];simp [hl]
   rw [e];exact hx
end
end Go.Proofs.YthpifjcddgmjnaaGreat
