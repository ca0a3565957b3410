import Derived.Test.YthoildbfghfhpaaGreatYDcj
import Derived.Test.YthoildbfghfhpaaGreatRows
import Derived.ProofKit
import Derived.OpenShut
import Derived.ChangeOld
import Derived.Carry
import Derived.Deep.Fields
import Derived.Deep.Slices
import Derived.SizedLaws
set_option maxHeartbeats 16000000
set_option maxRecDepth 100000
namespace Go.Proofs.YthoildbfghfhpaaGreat
section
open Go.RowKit pxm imm trm Go.Maps itr Go.Shelf
attribute [local go_sem] Oper.semAt_some
theorem KX.below {x:Nat} {A W W':World} (h:KX x A W) (hb:Below A.heap.size W W'):KX x A W':=⟨hb.os.trans h.os,hb.tape.trans h.tape,hb.output.trans h.output,Nat.le_trans h.size hb.size,fun k hk hn=>(hb.block k hk).trans (h.same k hk hn)⟩
theorem KX.set {x:Nat} {A W:World} (h:KX x A W) (v:Value):KX x A (W.setCell ⟨x,0,none⟩ v):=⟨h.os,h.tape,h.output,by simpa [World.setCell] using h.size,fun k hk hn=>(heap_setCell_other _ _ _ _ hn).trans (h.same k hk hn)⟩
theorem KX.bk {x:Nat} {A W W':World} (h:KX x A W) (hb:Bk A.heap.size W W'):KX x A W':=h.below (hb.below nR h.size)
theorem prs_of {ib db x base:Nat} {v1 v2:Value} {l1 l2:List Int} {w:World} (hx:x<base) (h1:base<=ib) (h2:base<=db) (b1:BlkT w ib [v1] tInts) (b2:BlkT w db [v2] tInts) (o1:IOwn w base v1 l1) (o2:IOwn w base v2 l2) :
  ∃ A1 A2 c1 c2,∀ W,KX x w W->Prs ib db A1 A2 c1 c2 l1 l2 W:=by
 obtain ⟨A1,c1,e1,-,-,r1⟩:=IOwn.irow o1;obtain ⟨A2,c2,e2,-,-,r2⟩:=IOwn.irow o2;refine ⟨A1,A2,c1,c2,fun W hk=>?_⟩
 have o1':IOwn W base v1 l1:=SOwn.stays o1 fun k hk'=>by
  have:=SOwn.block o1 hk';exact hk.same k this.2 (by omega)
 have o2':IOwn W base v2 l2:=SOwn.stays o2 fun k hk'=>by
  have:=SOwn.block o2 hk';exact hk.same k this.2 (by omega)
 obtain ⟨A1',c1',e1',-,-,r1'⟩:=IOwn.irow o1';obtain ⟨A2',c2',e2',-,-,r2'⟩:=IOwn.irow o2';have f1:=e1.symm.trans e1';have f2:=e2.symm.trans e2'
 injection f1 with f1 _ _
 injection f2 with f2 _ _
 have q1:=(b1.stays (hk.same ib b1.inside (by omega))).blk.cell 0;have q2:=(b2.stays (hk.same db b2.inside (by omega))).blk.cell 0;rw [e1] at q1;rw [e2] at q2;exact ⟨q1,q2,by rw [f1];exact r1',by rw [f2];exact r2'⟩
theorem results_cell_bool {fn:Func} {p:Tmp} (h:fn.results=#[.cell p 4]) (tmps:Array Value) (w:World) {g:Nat} {v:Bool} (hp:tmps.getD p undef=.pointer (some ⟨g,0,none⟩)) (hc:w.cell? ⟨g,0,none⟩=some (.bool v)) :
  (results fn tmps).run Tryz.prog w=.ok (.bool v) w:=by
 have hp':tmps[p]?.getD undef=.pointer (some ⟨g,0,none⟩):=by simpa using hp
 simp [results,h,hp',asAddr,go_sem,hc]
theorem inv_walk (v:Value) (w:World):(invoke (.fn (.method "Walk") #[]) #[.iface 102 v]).run Tryz.prog w=.ok (.enter 215 #[v]) w:=by kernel_rfl
theorem build_dm (m:Mp) (w:World):(Instr.build 47 #[(0,.int .i64 m.a),(1,.int .i64 m.b),(2,.int .i64 m.c),(3,.int .i64 m.d),(4,.int .i64 m.e),(5,.int .i64 m.f)]).run Tryz.prog w=.ok (.agg m.cs.toArray) w:=by kernel_rfl
theorem wd_at {t:T} {j:Nat} (h:j<(wd t 0 0).length) (h2:j<(trm.walk t 0).length):(wd t 0 0)[j]=((trm.walk t 0)[j],depth t (trm.walk t 0)[j]):=by
 simp only [wd,List.getElem_map,depth_0];simp
def sayKn (n:Nat):regs.Say regs.bl:=⟨fun x _=>∃ A c,x=.slice A n c,fun _ _ _ h _=>h⟩
def sayNd (n:Nd):regs.Say regs.bl:=⟨fun x wv=>∃ A c,x=.agg (n.cs A c).toArray∧Row eW wv A n.lk.l,fun _ _ _ h hb=>by
 obtain ⟨A,c,e,hr⟩:=h
 exact ⟨A,c,e,Row.below hr hb⟩⟩
theorem is_any {w:World} {g b m:Nat} {s:Sh} {Z:ZZ} {x:PSc} (h:SceneAt w g b m s Z x) (hx:Sane x) (hn:x.t.length<=900) (v:Value) (hd:DocAt w v Z.1 Z.2.1 Z.2.2 x) :
  Calls Tryz.prog 18 #[.pointer (some ⟨g,0,none⟩),v] w fun e w'=>e=.returned (.bool true)∧Below w.heap.size w w':=by
 obtain ⟨At,ct,dm,rfl,hdt,hdm⟩:=hd.ex;have HS:=Hd h;have HX:=Hd hx;have HN:=Hd hn;have HDT:=Hd hdt;have HDM:=Hd hdm;clear h hx hn hd hdt hdm;have HB0:Hid (Below w.heap.size w ((w.alloc (.cells (Vc Z.1 Z.2.1 Z.2.2 At x.t.length ct dm).toArray 34)).alloc (.cells #[.bool false] 4))):=(bR.alloc nR _).alloc (by simp) _;have HKD:Hid (Blk ((w.alloc (.cells (Vc Z.1 Z.2.1 Z.2.2 At x.t.length ct dm).toArray 34)).alloc (.cells #[.bool false] 4)) w.heap.size (Vc Z.1 Z.2.1 Z.2.2 At x.t.length ct dm)):=(blk_new w (Vc Z.1 Z.2.1 Z.2.2 At x.t.length ct dm) _).alloc _
 have HKR:Hid (BlkT ((w.alloc (.cells (Vc Z.1 Z.2.1 Z.2.2 At x.t.length ct dm).toArray 34)).alloc (.cells #[.bool false] 4)) (w.heap.size+1) [.bool false] 4):=blkT_at (w.alloc _) _ (by simp) [.bool false] 4;refine calls_of_marks Tryz.func18 rfl ?_;simp only [Tryz.ntmps18,List.size_toArray,List.length_cons,List.length_nil,Nat.reduceAdd,Nat.reduceSub,Array.replicate_succ,Array.replicate_zero,List.push_toArray,List.append_toArray,List.nil_append,List.cons_append]
 go_upto_region 1 with (fail)
 generalize ((w.alloc (.cells (Vc Z.1 Z.2.1 Z.2.2 At x.t.length ct dm).toArray 34)).alloc (.cells #[.bool false] 4))=w0 at *;have d3:w0.cell? ⟨w.heap.size,3,none⟩=some (.slice At x.t.length ct):=HKD.out.cell 3;have di:=HKD.out.inside;go_wp2_with (fail);refine (dwalk At x.t ct HX.out.ok (by have:=HN.out;omega) (x.t.length+1) 0 w0 (DTree.srow (HDT.out.below HB0.out)) (.inl rfl) (by omega)).mono ?_;unfold KidsQ;rintro e w1 ⟨v1,rfl,hown,hb1⟩;obtain ⟨A1,c1,rfl,-,-,hrow⟩:=hown.irow;have HRW:=Hd hrow;have HB1:Hid (Below w0.heap.size w0 w1):=hb1
 have HXL:Hid ((trm.walk x.t 0).length=x.t.length+1):=walk_len HX.out.ok;have HXM:Hid (∀ i,i∈trm.walk x.t 0↔has x.t i=true):=fun i=>walk_all HX.out.ok
 have HXW:Hid (∀ j (h:j<(trm.walk x.t 0).length),(idsL x.t)[j]?.getD 0=(trm.walk x.t 0)[j]∧(depL x.t)[j]?.getD 0=(depth x.t (trm.walk x.t 0)[j]:Nat)):=fun j h=>by
  have hj2:j<(wd x.t 0 0).length:=by rw [wd_len];exact h
  have e:=wd_at hj2 h;rw [idsL,depL,List.getElem?_map,List.getElem?_map,List.getElem?_eq_getElem hj2,e];exact ⟨rfl,rfl⟩
 have HEL:Hid ((pairE (idsL x.t) (depL x.t)).length=(trm.walk x.t 0).length):=by show _=_;rw [pairE_len,idsL,List.length_map,wd_len]
 have HIL:Hid ((idsL x.t).length=(trm.walk x.t 0).length∧(depL x.t).length=(idsL x.t).length):=by show _∧_;rw [depL,idsL,List.length_map,List.length_map,wd_len];exact ⟨rfl,rfl⟩
 obtain ⟨X,hX⟩:∃ X,trm.walk x.t 0=X:=⟨_,rfl⟩
 rw [hX] at HRW HXL HXM HEL HIL ⊢;have HXW2:Hid (∀ j (h:j<X.length),(idsL x.t)[j]?.getD 0=X[j]∧(depL x.t)[j]?.getD 0=(depth x.t X[j]:Nat)):=by subst hX;exact HXW.out
 clear hown hrow hb1 d3 di HXW hX
 obtain ⟨ab,hab⟩:∃ ab,w1.heap.size=ab:=⟨_,rfl⟩
 have HAB:Hid (ab=w1.heap.size∧w0.heap.size<=ab):=⟨hab.symm,by rw [← hab];exact HB1.out.size⟩
 obtain ⟨w4,hw4⟩:∃ w4,w4=((w1.alloc (.cells #[.slice A1 X.length c1] 42)).alloc (.cells #[.int .i64 0] 3)):=⟨_,rfl⟩
 have HW4:=Hd hw4;have HB4:Hid (Below w1.heap.size w1 w4):=by show Below _ _ _;rw [hw4];exact (bR.alloc nR _).alloc (by simp) _
 have HXA:Hid (BlkT w4 ab [.slice A1 X.length c1] 42):=by
  show BlkT _ _ _ _;rw [hw4,← hab];exact (BlkT.new w1 [.slice A1 X.length c1] _).al _
 have HXN:Hid (BlkT w4 (ab+1) [.int .i64 0] 3):=by
  show BlkT _ _ _ _;rw [hw4,← hab];exact blkT_at (w1.alloc _) _ (by simp) [.int .i64 0] _
 have HB04:Hid (Below w0.heap.size w0 w4):=HB1.out.trans (HB4.out.mono HB1.out.size);have HBW4:=Hd (HB0.out.trans (HB04.out.mono HB0.out.size));have HTW:=Hd (twalk (HS.out.below HBW4.out).tree (by have:=HN.out;omega));have hg:=(HS.out.below HBW4.out).top;obtain ⟨⟨q0,-,-,-,-,-⟩,qi⟩:=hg;rw [hw4] at HTW q0 qi;have hinv:=inv_walk (.pointer (some ⟨b,0,none⟩));clear hw4 hab;go_wp2_with (fail);refine HTW.out.mono ?_;rintro e w5 ⟨ib,db,v1,v2,rfl,hi1,hi2,hx1,hx2,ho1,ho2,hb5⟩;rw [← HW4.out] at hi1 hi2 ho1 ho2 hb5;clear q0 qi HTW hinv;rw [← HAB.out.1]
 obtain ⟨nb,hnb⟩:∃ nb,ab+1=nb:=⟨_,rfl⟩
 have HNB:=Hd hnb;rw [hnb] at HXN ⊢;clear hnb;have hnn:nb<w4.heap.size:=HXN.out.inside;obtain ⟨B1,B2,d1,d2,hprs⟩:=prs_of (x:=nb) hnn hi1 hi2 hx1 hx2 ho1 ho2;have HPR:=Hd hprs;have HB45:Hid (Below w4.heap.size w4 w5):=hb5;have HN5:Hid (BlkT w5 nb [.int .i64 0] 3):=HXN.out.stays (hb5.block _ HXN.out.inside);have HB05:Hid (Below w0.heap.size w0 w5):=HB04.out.trans (hb5.mono HB04.out.size)
 have HNB0:Hid (w0.heap.size<nb∧ab<nb∧w0.heap.size<=ab):=by
  have h1:=HNB.out;have h2:=HAB.out.2;show _∧_;omega
 have HLOW:Hid (∀ W,KX nb w5 W->Below w0.heap.size w0 W):=fun W hk=>HB05.out.trans (hk.to_below (by have:=HNB0.out;omega) HB05.out.size);have HLOW1:Hid (∀ W,KX nb w5 W->Below w1.heap.size w1 W):=fun W hk=>(HB4.out.trans (HB45.out.mono HB4.out.size)).trans (hk.to_below (by have:=HNB0.out;have:=HAB.out.1;omega) (by have:=HB4.out.size;have:=HB45.out.size;omega))
 have HALL:Hid (∀ W,KX nb w5 W->SceneAt W g b m s Z x∧Blk W w.heap.size (Vc Z.1 Z.2.1 Z.2.2 At x.t.length ct dm)∧Blk W ab [.slice A1 X.length c1]∧Row eI W A1 X∧DTree W (.slice At x.t.length ct) x.t∧DMap W dm (has x.t) x.nd∧BlkT W (w.heap.size+1) [.bool false] 4):=fun W hk=>by
  have h0:=HLOW.out W hk;have hw:=HB0.out.trans (h0.mono HB0.out.size);have h5:ab<w5.heap.size:=by have:=HXA.out.inside;have:=HB45.out.size;omega
  exact ⟨HS.out.below hw,HKD.out.below' h0,((HXA.out.stays (HB45.out.block _ HXA.out.inside)).stays (hk.same ab h5 (by have:=HNB0.out;omega))).blk,Row.below HRW.out (HLOW1.out W hk),HDT.out.below hw,HDM.out.below hw,HKR.out.stays (h0.block _ HKR.out.inside)⟩
 have HRIN:Hid (w.heap.size+1<w0.heap.size):=HKR.out.inside;clear hi1 hi2 hx1 hx2 ho1 ho2 hb5 hprs hnn HW4 HXA HXN HB04 HBW4 HB4 HKD HKR HRW HDT HDM HS;go_wp2_with (fail)
 refine wp_range (gf:=217) (lb:=#[.pointer (some ⟨ib,0,none⟩),.pointer (some ⟨db,0,none⟩)]) rfl (enters_of Tryz.func217 (by kernel_rfl) rfl) (es:=pairE (idsL x.t) (depL x.t)) (R:=fun _=>Eq)
  (Kp:=fun A B=>Prs ib db B1 B2 d1 d2 (idsL x.t) (depL x.t) A->Prs ib db B1 B2 d1 d2 (idsL x.t) (depL x.t) B)
  (fun W1 hb=>pair_iter (by have h1:=HIL.out.1;have h2:=HXL.out;have:=HN.out;omega) HIL.out.2 (HPR.out W1 ((KX.refl _ _).bk hb))) (fun h k x=>k (h x)) (fun A B hb h=>h.cells fun a v=>cell_bk hb) (fun n A B e k o _ hk _=>e ▸ hk)
  (fun e he=>by obtain ⟨j,_,rfl⟩:=List.mem_map.1 he;rfl)
  (fun k W=>KX nb w5 W∧BlkT W nb [.int .i64 (k:Nat)] 3)
  (fun _ _ _=>False) (fun k A B h hr=>?hI) (fun _ _ _ _ h _=>h.elim) ⟨KX.refl _ _,HN5.out⟩ ?a1 ?assign ?body ?done (fun _ _ _ _ _ _ h _=>h.elim)
 case hI=>
  obtain ⟨hk,hx⟩:=h;rcases hr with ⟨n,hn,rfl⟩ | hb
  ·exact ⟨hk,hx⟩
  ·exact ⟨hk.bk hb,hx.bk hb⟩
 case assign=>
  intro l j hj W9 KK hKK;rw [pairE_at]
  gi_wp2
  exact hKK
 case body=>
  rintro l j hj W9 ⟨hk,hxn⟩;have hjX:j<X.length:=by rw [HEL.out] at hj;exact hj
  obtain ⟨h1,h2⟩:=HXW2.out j hjX;have HHI:Hid (has x.t X[j]=true):=(HXM.out _).1 (List.getElem_mem hjX);obtain ⟨hsc,hkd,hka,hrw,hdt,-,-⟩:=HALL.out W9 hk;obtain ⟨b2,o2,rfl,k1⟩:=hrw.at_ hjX;unfold eI at k1;have x3:W9.cell? ⟨w.heap.size,3,none⟩=some (.slice At x.t.length ct):=hkd.cell 3;have xi:=hkd.inside;have a0:W9.cell? ⟨ab,0,none⟩=some (.slice (some ⟨b2,o2,none⟩) X.length c1):=hka.cell 0;have ai:=hka.inside;have cb:=hxn.blk.cell 0;have zb:=hxn.inside;simp only [List.getElem?_cons_zero] at cb;have t2:decide (X.length<=j)=false:=decide_eq_false (by omega)
  have hjb:(j:Int)<=100000:=by have:=HXL.out;have:=HN.out;omega
  have hdb:((depth x.t X[j]:Nat):Int)<=100000:=by have:=depth_le HX.out.ok (has_iff.1 HHI.out);have:=HN.out;omega
  have HDP:=Hd (ddepth At x.t ct HX.out.ok (by have:=HN.out;omega) (depth x.t X[j]) X[j] W9 (DTree.srow hdt) (has_iff.1 HHI.out) nR);have HK9:=Hd hk;have HX9:=Hd hxn;rw [h1,h2];generalize hdx:depth x.t X[j]=dx at *;clear hdx;generalize X[j]=id at *;clear hk hxn hj h1 h2 hsc hkd hka hrw hdt HXW2
  gi_wp2_with (fail)
  refine ⟨trivial,rfl,CallsIn.inRound l ((callsIn_wide (n:=0)).2 (HDP.out.mono ?_))⟩;rintro e wB ⟨rfl,hbB⟩;have HBB:Hid (Below W9.heap.size W9 wB):=hbB;have HXB:Hid (BlkT wB nb [.int .i64 (j:Nat)] 3):=HX9.out.stays (hbB.block _ HX9.out.inside);have HKB:Hid (KX nb w5 wB):=HK9.out.trans (KX.of_below hbB);have cb2:=HXB.out.blk.cell 0;have fb2:=HXB.out.blk.free 0;have zb2:=HXB.out.inside;simp only [List.getElem?_cons_zero] at cb2
  have HF:Hid (KB W9 (wB.setCell ⟨nb,0,none⟩ (.int .i64 ((j:Int)+1)))∧(Prs ib db B1 B2 d1 d2 (idsL x.t) (depL x.t) W9->Prs ib db B1 B2 d1 d2 (idsL x.t) (depL x.t) (wB.setCell ⟨nb,0,none⟩ (.int .i64 ((j:Int)+1)))) ∧
    KX nb w5 (wB.setCell ⟨nb,0,none⟩ (.int .i64 ((j:Int)+1)))∧BlkT (wB.setCell ⟨nb,0,none⟩ (.int .i64 ((j:Int)+1))) nb [.int .i64 ((j+1:Nat):Int)] 3):=by
   have hk7:=HKB.out.set (.int .i64 ((j:Int)+1));exact ⟨(KB.below hbB).trans (KB.set (a:=⟨nb,0,none⟩) HXB.out rfl _),fun _=>HPR.out _ hk7,hk7,HXB.out.set 0 _⟩
  clear hbB HDP k1 x3 xi a0 ai cb zb
  gi_wp2_with (fail)
  exact HF.out
 case done=>
  rintro D W9 hD ⟨hk,hxn⟩ hdd;rw [HEL.out] at hxn;have HK9:=Hd hk;have HX9:=Hd hxn;have HD9:=Hd hdd;have HD1:Hid (w0.heap.size<=D):=Nat.le_trans HB05.out.size hD;have HSZ:=Hd (ssize_any (HALL.out W9 hk).1);have HLL:Hid ((X.length:Int)<=901):=by have:=HXL.out;have:=HN.out;show _<=_;omega
  clear hk hxn hdd hD;go_wp2_with (fail);refine HSZ.out.mono ?_;rintro e wA ⟨rfl,hbA⟩;have HBA:Hid (Below W9.heap.size W9 wA):=hbA;have HKA:Hid (∀ W,Below wA.heap.size wA W->KX nb w5 W):=fun W hb=>HK9.out.trans (KX.of_below (HBA.out.trans (hb.mono HBA.out.size)));have HNA:Hid (∀ W,Below wA.heap.size wA W->BlkT W nb [.int .i64 (X.length:Nat)] 3):=fun W hb=>(HX9.out.stays (HBA.out.block _ HX9.out.inside)).stays (hb.block _ (Nat.lt_of_lt_of_le HX9.out.inside HBA.out.size))
  have HDA:Hid (∀ W,Below wA.heap.size wA W->W.heap[D]?=some (.deferred (some []))):=fun W hb=>by
   have h1:=(Array.getElem?_eq_some_iff.1 HD9.out).1;exact (hb.block _ (Nat.lt_of_lt_of_le h1 HBA.out.size)).trans ((HBA.out.block _ h1).trans HD9.out)
  have FA:Hid (∀ W,regs.bl wA W->SceneAt W g b m s Z x∧Blk W w.heap.size (Vc Z.1 Z.2.1 Z.2.2 At x.t.length ct dm)∧Blk W ab [.slice A1 X.length c1]∧Blk W nb [.int .i64 (X.length:Nat)]):=fun W hb=>by
   obtain ⟨h1,h2,h3,-,-,-,-⟩:=HALL.out W (HKA.out W hb);exact ⟨h1,h2,h3,(HNA.out W hb).blk⟩
  have FL:Hid (∀ W,regs.bl wA W->Calls Tryz.prog 213 #[.pointer (some ⟨b,0,none⟩)] W fun e w'=>e=.returned (.int .i64 (X.length:Nat))∧Below W.heap.size W w'):=fun W hb=>by
   have h1:=tlen (FA.out W hb).1.tree;rw [← HXL.out] at h1;exact h1
  clear hbA HSZ
  go_upto_region 10 with (fail)
  refine wRn [58,59,60,61,62,63,64,65,66,67,68,69,70,71,72,73,74,75,76,77,78,79,80,81,82,83,84,85,86,87,88] (fun i=>match i with
   |0|2|9|10=>rV (.int .i64 (X.length:Nat))
   |1=>rV (.slice A1 X.length c1)
   |3|4|11|12|13|17|18|19|23|24|25|29|30=>rV (.bool false)
   |5|6|7=>rp g 0
   |8=>rV (.iface 102 (.pointer (some ⟨b,0,none⟩)))
   |14|16=>rV (.int .i64 Z.1)
   |15=>rp w.heap.size 0
   |20|22=>rV (.int .i64 Z.2.1)
   |21=>rp w.heap.size 1
   |26|28=>rV (.int .i64 Z.2.2)
   |27=>rp w.heap.size 2
   | _=>ra) ⟨?_,?_,?_,?_,?_,?_,?_,?_,?_,?_,?_,?_,?_,?_,?_,?_,?_,?_,?_,?_,?_,?_,?_,?_,?_,?_,?_,?_,?_,?_,?_,trivial⟩ ?_
  any_goals (first|refine zp fun L a w1 hh=>?_|fail)
  any_goals (first|refine sy rfl rfl fun L a w1 hh=>?_|fail)
  have h6:=hh.p 6 nb 0;have ⟨c0,i0⟩:=((FA.out _ hh.rel).2.2.2).ci 0 rfl;rotate_left;have h5:=hh.p 5 ab 0;have ⟨c0,i0⟩:=((FA.out _ hh.rel).2.2.1).ci 0 rfl;rotate_left;have h59:=rq (hh.d 1 59);rotate_left;have h58:=rq (hh.d 0 58);have h60:=rq (hh.d 2 60);rotate_left;have h61:=rq (hh.d 3 61);rotate_left;have h0:=hh.p 0 g 0;rotate_left;have h63:=rq (hh.d 5 63);rotate_left;have h64:=rq (hh.d 6 64);have i0:=((FA.out _ hh.rel).1.blk.blk).inside;rotate_left;have h65:=rq (hh.d 7 65);have ⟨c0,i0⟩:=((FA.out _ hh.rel).1.blk.blk).ci 0 rfl;rotate_left
  ·have h66:=rq (hh.d 8 66);have hinv:=inv_len (.pointer (some ⟨b,0,none⟩));have hC:=Hd (FL.out _ hh.rel);have hJ:=hh.j;clear hh;go_simp;refine hC.out.mono ?_;rintro e w9 ⟨rfl,hb9⟩;exact ⟨_,rfl,hb9,rfl,hJ.out⟩
  have h6:=hh.p 6 nb 0;have ⟨c0,i0⟩:=((FA.out _ hh.rel).2.2.2).ci 0 rfl;rotate_left;have h67:=rq (hh.d 9 67);have h68:=rq (hh.d 10 68);rotate_left;have h62:=rq (hh.d 4 62);have h69:=rq (hh.d 11 69);rotate_left;have h70:=rq (hh.d 12 70);rotate_left;have h9:=hh.o 9 (v:=.int .i64 Z.1) rfl;rotate_left;have h3:=hh.p 3 w.heap.size 0;have i0:=((FA.out _ hh.rel).2.1).inside;rotate_left;have h73:=rq (hh.d 15 73);have ⟨c0,i0⟩:=((FA.out _ hh.rel).2.1).ci 0 rfl;rotate_left;have h72:=rq (hh.d 14 72);have h74:=rq (hh.d 16 74);rotate_left;have h71:=rq (hh.d 13 71);have h75:=rq (hh.d 17 75);rotate_left
  have h76:=rq (hh.d 18 76);rotate_left;have h10:=hh.o 10 (v:=.int .i64 Z.2.1) rfl;rotate_left;have h3:=hh.p 3 w.heap.size 0;have i0:=((FA.out _ hh.rel).2.1).inside;rotate_left;have h79:=rq (hh.d 21 79);have ⟨c0,i0⟩:=((FA.out _ hh.rel).2.1).ci 1 rfl;rotate_left;have h78:=rq (hh.d 20 78);have h80:=rq (hh.d 22 80);rotate_left;have h77:=rq (hh.d 19 77);have h81:=rq (hh.d 23 81);rotate_left;have h82:=rq (hh.d 24 82);rotate_left;have h11:=hh.o 11 (v:=.int .i64 Z.2.2) rfl;rotate_left;have h3:=hh.p 3 w.heap.size 0;have i0:=((FA.out _ hh.rel).2.1).inside;rotate_left;have h85:=rq (hh.d 27 85)
  have ⟨c0,i0⟩:=((FA.out _ hh.rel).2.1).ci 2 rfl;rotate_left;have h84:=rq (hh.d 26 84);have h86:=rq (hh.d 28 86);rotate_left;have h83:=rq (hh.d 25 83);have h87:=rq (hh.d 29 87);rotate_left
  any_goals (clear hh;go_simp;exact ⟨_,rfl,rB,rfl,trivial⟩)
  intro L w10 val hL hJ hR hv;have h88:val 88=.bool false:=hv 30 88 (by kernel_rfl);have HR10:=Hd hR;clear hv hL hJ hR;simp only [regs.putAll,List.map_cons,List.map_nil,h88];simp only [Act.put,List.setIfInBounds_toArray,List.set_cons_zero,List.set_cons_succ];clear h88
  skip
  have HB10:Hid (Below wA.heap.size wA w10):=HR10.out;have hlb:=HLL.out;obtain ⟨-,-,a3,-⟩:=FA.out w10 HB10.out;have ac:=a3.cell 0;have ai:=a3.inside;simp only [List.getElem?_cons_zero] at ac;clear a3 FL HR10
  go_upto_region 13 with (fail)
  clear ac ai
  go_loopw [91] (fun x91 wr=>∃ j:Nat,j<=X.length∧x91=.int .i64 j∧Hid (Below wA.heap.size wA wr)) (fun x91 _=>X.length - (intOf x91).toNat)
  case atStart=>exact ⟨0,Nat.zero_le _,rfl,HB10.out⟩
  case round=>
   obtain ⟨j,hj,rfl,HBR⟩:=hrel;generalize wr=wB at *;by_cases hlt:j<X.length
   ·have t1:decide (j<X.length)=true:=decide_eq_true hlt;have HLT:=Hd hlt;have HHI:Hid (has x.t X[j]=true):=(HXM.out _).1 (List.getElem_mem hlt);obtain ⟨sc0,-,-,hrw,-,-,-⟩:=HALL.out wB (HKA.out wB HBR.out);obtain ⟨-,-,-,-,-,hdm0,-⟩:=HALL.out wA (HKA.out wA bR);obtain ⟨b2,o2,rfl,k1⟩:=hrw.at_ hlt;unfold eI at k1;have ki:=World.block_lt_of_cell? wB _ k1;generalize X[j]=id at *;have HI64:Hid (I64 id):=has_64 HX.out.ok HHI.out;have hnd:ndAt x id=x.nd id:=if_pos HHI.out;have hws:wsAt x id=x.ws id:=if_pos HHI.out;have HNC:=Hd (node_any sc0 HX.out.fit id HI64.out)
    have HHB:Hid (has x.t id=true):=HHI.out;rw [hnd,HHB.out] at HNC
    have hwv:worldV x.t x.nd id=(x.ws id,true):=by
     have h1:=HX.out.set id HHI.out (fun _ _ h=>h) (fun h=>h);rw [worldV_of HX.out.ok HX.out.good.m (has_iff.1 HHI.out)] at h1
     obtain ⟨p1,p2⟩:∃ q,worldV x.t x.nd id=q:=⟨_,rfl⟩
     rw [p2] at h1 ⊢;obtain ⟨q1,q2⟩:=p1;cases q2 with
     | false=>simp at h1
     | true=>simp at h1;rw [h1]
    obtain ⟨Ad,cd,hrd,hlk⟩:=hdm0.look HI64.out HHI.out;have HRD:=Hd hrd.row;have HLK:=Hd hlk;have HFT:Hid (Fit (x.nd id)):=HX.out.fit id
    have HWC:Hid (∀ W,Below wA.heap.size wA W->Calls Tryz.prog 34 #[.pointer (some ⟨g,0,none⟩),.int .i64 id] W fun e w'=>e=.returned (.tuple #[.agg (x.ws id).cs.toArray,.bool true])∧Below W.heap.size W w'):=fun W hb=>by
     have h1:=world_any (HALL.out W (HKA.out W hb)).1 id HI64.out;rw [hws,HHB.out] at h1;exact h1
    have HDW:Hid (∀ W,Below wA.heap.size wA W->Calls Tryz.prog 49 #[.agg (Vc Z.1 Z.2.1 Z.2.2 At x.t.length ct dm).toArray,.int .i64 id] W fun e w'=>e=.returned (.tuple #[.agg (x.ws id).cs.toArray,.bool true])∧Below W.heap.size W w'):=fun W hb=>by
     obtain ⟨-,-,-,-,h1,h2,-⟩:=HALL.out W (HKA.out W hb);have h3:=dworld_any Z.1 Z.2.1 Z.2.2 (.slice At x.t.length ct) x.t dm x.nd HX.out.ok (by have:=HN.out;omega) (depth x.t id) id W h1 h2 HHI.out nR;rw [hwv] at h3;exact h3
    have HPAR:Hid (∀ W,Below wA.heap.size wA W->Calls Tryz.prog 214 #[.pointer (some ⟨b,0,none⟩),.int .i64 id] W (fun e w'=>e=.returned (.int .i64 (par x.t id))∧Below W.heap.size W w')∧Calls Tryz.prog 16 #[.slice At x.t.length ct,.int .i64 id] W fun e w'=>e=.returned (.int .i64 (par x.t id))∧Below W.heap.size W w'):=fun W hb=>by
     obtain ⟨h0,-,-,-,h1,-,-⟩:=HALL.out W (HKA.out W hb);exact ⟨tparent h0.tree id HI64.out,dpar At x.t ct id W h1.srow (by have:=HN.out;omega)⟩
    have HKID:Hid (∀ W,Below wA.heap.size wA W->Calls Tryz.prog 212 #[.pointer (some ⟨b,0,none⟩),.int .i64 id] W (fun e w'=>∃ A c,e=.returned (.slice A (kids x.t id).length c)∧Below W.heap.size W w')∧Calls Tryz.prog 46 #[.slice At x.t.length ct,.int .i64 id] W fun e w'=>∃ A c,e=.returned (.slice A (kids x.t id).length c)∧Below W.heap.size W w'):=fun W hb=>by
     obtain ⟨h0,-,-,-,h1,-,-⟩:=HALL.out W (HKA.out W hb);refine ⟨(tkids h0.tree (by have:=HN.out;omega) id HI64.out).mono ?_,(dkids At x.t ct id W h1.srow (by have:=HN.out;omega)).mono ?_⟩
     all_goals
      unfold KidsQ;rintro e w' ⟨v,rfl,ho,hb⟩;obtain ⟨A,c,rfl,-⟩:=ho.irow;exact ⟨A,c,rfl,hb⟩
    have hjb:(j:Int)<=901:=by have:=HLL.out;omega
    obtain ⟨n,hnn⟩:∃ n,x.nd id=n:=⟨_,rfl⟩
    obtain ⟨u,huu⟩:∃ u,x.ws id=u:=⟨_,rfl⟩
    obtain ⟨pp,hpp⟩:∃ pp,par x.t id=pp:=⟨_,rfl⟩
    obtain ⟨KL,hKL⟩:∃ KL,(kids x.t id).length=KL:=⟨_,rfl⟩
    have HKL:Hid ((KL:Int)<=100000):=by
     have h1:=kids_le (t:=x.t) id;show _<=_;have:=HN.out;omega
    rw [hnn] at HNC HRD HLK HFT;rw [huu] at HWC HDW;rw [hpp] at HPAR;rw [hKL] at HKID;clear hrw hlt hj sc0 hdm0 hrd hlk hnd hws hwv hnn huu hpp hKL;go_wp2_with (fail);refine HNC.out.mono ?_;rintro e wC ⟨An,cn,rfl,hbC,hoC⟩;have HBC:Hid (Below wA.heap.size wA wC):=HBR.out.trans (hbC.mono HBR.out.size);have HRC:=Hd hoC.1.row;clear hbC hoC k1 ki HNC;have HZ14:Hid (Blk (wC.alloc (.cells Va.toArray 93)) wC.heap.size Va):=blk_new wC Va _;have HBz:Hid (Below wC.heap.size wC (wC.alloc (.cells Va.toArray 93))):=bR.alloc nR _
    go_upto_region 16 with (first | (with_reducible refine gS ?_;first | (refine wpl_stow 93 _ _ rfl rfl rfl _ 0 rfl (n.cs An cn) rfl (Va) HZ14.out (n.cs An cn) rfl (nE rfl) (by kernel_rfl) (Nd.one _ _ _) ?_;intro wD HWD HKD2)))
    obtain ⟨k14,hk14⟩:∃ k14,wC.heap.size=k14:=⟨_,rfl⟩
    have HBE:Hid (Below wC.heap.size wC wD):=HWD.out.below HBz.out nR;have HRE:=Hd (Row.below HRC.out HBE.out);rw [hk14] at HKD2 HBE ⊢;have HBD:Hid (Below wA.heap.size wA wD):=HBC.out.trans (HBE.out.mono (by rw [← hk14];exact HBC.out.size));clear HZ14 HBz HWD HBE HBC HRC hk14;have HWC2:=Hd (HWC.out wD HBD.out);go_wp2_with (fail);refine HWC2.out.mono ?_;rintro e wE ⟨rfl,hbE⟩;have HBEa:Hid (Below wA.heap.size wA wE):=HBD.out.trans (hbE.mono HBD.out.size);have HRF:=Hd (Row.below HRE.out hbE);have HKE:=Hd (HKD2.out.below' hbE);clear hbE HWC2 HWC HBD HRE HKD2
    have HZ16:Hid (Blk (wE.alloc (.cells Vd.toArray 65)) wE.heap.size Vd):=blk_new wE Vd _;have HBz:Hid (Below wE.heap.size wE (wE.alloc (.cells Vd.toArray 65))):=bR.alloc nR _
    go_upto_region 17 with (first | (with_reducible refine gS ?_;first | (refine wpl_stow 65 _ _ rfl rfl rfl _ 0 rfl (u.cs) rfl (Vd) HZ16.out (u.cs) rfl (nE rfl) (by kernel_rfl) (Mp.one1 _) ?_;intro wF HWF HKF)))
    obtain ⟨k16,hk16⟩:∃ k16,wE.heap.size=k16:=⟨_,rfl⟩
    have HBF:Hid (Below wE.heap.size wE wF):=HWF.out.below HBz.out nR;have HRG:=Hd (Row.below HRF.out HBF.out);have HKF1:=Hd (HKE.out.below' HBF.out);rw [hk16] at HKF HBF ⊢;have HBFa:Hid (Below wA.heap.size wA wF):=HBEa.out.trans (HBF.out.mono (by rw [← hk16];exact HBEa.out.size));clear HZ16 HBz HWF HBF HBEa HRF HKE hk16;have HDW2:=Hd (HDW.out wF HBFa.out);obtain ⟨-,dk,-⟩:=HALL.out wF (HKA.out wF HBFa.out);have HDK:=Hd dk;clear dk
    go_wp2_with (first | (with_reducible refine gL ?_;first | (refine wt 34 0 rfl rfl rfl HDK.out ((Vc Z.1 Z.2.1 Z.2.2 At x.t.length ct dm)) rfl Tryz.underlying34 rfl ?_)));refine HDW2.out.mono ?_;rintro e wG ⟨rfl,hbG⟩;have HBGa:Hid (Below wA.heap.size wA wG):=HBFa.out.trans (hbG.mono HBFa.out.size);have HRH:=Hd (Row.below HRG.out hbG);have HKG1:=Hd (HKF1.out.below' hbG);have HKG2:=Hd (HKF.out.below' hbG);clear hbG HDW2 HDW HBFa HRG HKF1 HKF HDK;have HZ18:Hid (Blk (wG.alloc (.cells Vd.toArray 47)) wG.heap.size Vd):=blk_new wG Vd _
    have HBz:Hid (Below wG.heap.size wG (wG.alloc (.cells Vd.toArray 47))):=bR.alloc nR _
    go_upto_region 18 with (first | (with_reducible refine gS ?_;first | (refine wpl_stow 47 _ _ rfl rfl rfl _ 0 rfl (u.cs) rfl (Vd) HZ18.out (u.cs) rfl (nE rfl) (by kernel_rfl) (Mp.one1 _) ?_;intro wH HWH HKH)))
    obtain ⟨k18,hk18⟩:∃ k18,wG.heap.size=k18:=⟨_,rfl⟩
    have HBH:Hid (Below wG.heap.size wG wH):=HWH.out.below HBz.out nR;have HRI:=Hd (Row.below HRH.out HBH.out);have HKH1:=Hd (HKG1.out.below' HBH.out);have HKH2:=Hd (HKG2.out.below' HBH.out);rw [hk18] at HKH HBH ⊢;have HBHa:Hid (Below wA.heap.size wA wH):=HBGa.out.trans (HBH.out.mono (by rw [← hk18];exact HBGa.out.size));clear HZ18 HBz HWH HBH HBGa HRH HKG1 HKG2 hk18
    have GA:Hid (∀ W,regs.bl wH W->SceneAt W g b m s Z x∧Blk W w.heap.size (Vc Z.1 Z.2.1 Z.2.2 At x.t.length ct dm)):=fun W hb=>by
     obtain ⟨h1,h2,-⟩:=HALL.out W (HKA.out W (HBHa.out.trans (Below.mono hb HBHa.out.size)));exact ⟨h1,h2⟩
    have GA2:Hid (∀ W,regs.bl wH W->Blk W w.heap.size (Vc Z.1 Z.2.1 Z.2.2 At x.t.length ct dm)):=fun W hb=>(GA.out W hb).2
    have GB:Hid (∀ W,regs.bl wH W->Blk W k14 (n.cs An cn)∧Blk W k16 u.cs∧Blk W k18 u.cs):=fun W hb=>⟨HKH1.out.below' hb,HKH2.out.below' hb,HKH.out.below' hb⟩
    have GR:Hid (∀ W,regs.bl wH W->Calls Tryz.prog 50 #[.agg (n.cs An cn).toArray] W fun e w'=>∃ A9 c9,e=.returned (.agg (n.cs A9 c9).toArray)∧Row eW w' A9 n.lk.l∧Below W.heap.size W w'):=fun W hb=>by
     refine (ref_any n.m n.op n.hi n.cl n.r n.lk.k n.lk.W n.lk.H n.lk.p n.lk.iw n.lk.ih An n.lk.l cn W (Row.below HRI.out hb) (by have:=HFT.out.len;omega)).mono ?_;rintro e w' ⟨A9,c9,h1,h2,-,-,h3⟩;exact ⟨A9,c9,h1,h2,h3⟩
    have GL:Hid (∀ W,regs.bl wH W->(Instr.lookup tDNs (.map (some dm)) (.int .i64 id) false).run Tryz.prog W=.ok (.agg (n.cs Ad cd).toArray) W):=fun W hb=>HLK.out W (HBHa.out.trans (Below.mono hb HBHa.out.size));have GK:Hid (∀ W,regs.bl wH W->∀ A8 c8,Row eW W A8 n.lk.l->Calls Tryz.prog 17 #[.agg (n.cs A8 c8).toArray,.agg (n.cs Ad cd).toArray] W fun e w'=>e=.returned (.bool true)∧Below W.heap.size W w'):=fun W hb A8 c8 h8=>alike_yes n A8 Ad c8 cd W h8 (Row.below HRD.out (HBHa.out.trans (Below.mono hb HBHa.out.size))) (by have:=HFT.out.len;omega)
    have GP:Hid (∀ W,regs.bl wH W->_):=fun W hb=>HPAR.out W (HBHa.out.trans (Below.mono hb HBHa.out.size));have GKD:Hid (∀ W,regs.bl wH W->_):=fun W hb=>HKID.out W (HBHa.out.trans (Below.mono hb HBHa.out.size));have hkb:=HKL.out
    refine wRn [113,114,115,116,117,118,119,120,121,122,123,124,125,126,127,128,129,130,131,132,133,134,135,136,137,138,139,140,141,142,143,144,145,146,147,148,149,150,151,152,153,154,155,156,157,158,159,160,161,162,163,164,165,166,167,168,169,170,171,172,173] (fun i=>match i with
     |0|3=>rT
     |1|2|4|5|6=>rV (.bool false)
     |7=>rV (.agg (n.cs An cn).toArray)
     | 8=>sayNd n
     |9=>rp w.heap.size 4
     |10=>rV (.map (some dm))
     |11|38|42|51=>rV (.int .i64 id)
     |12=>rV (.agg (n.cs Ad cd).toArray)
     |13=>rT
     |14|15|16|31|32|33|44|45|46=>rV (.bool false)
     |17=>rp k16 0
     |18=>rV (.int .i64 u.a)
     |19=>rp k16 1
     |20=>rV (.int .i64 u.b)
     |21=>rp k16 2
     |22=>rV (.int .i64 u.c)
     |23=>rp k16 3
     |24=>rV (.int .i64 u.d)
     |25=>rp k16 4
     |26=>rV (.int .i64 u.e)
     |27=>rp k16 5
     |28=>rV (.int .i64 u.f)
     |29|30=>rV (.agg (u.cs).toArray)
     |34|35|36|47|48|49=>rp g 0
     |37|50=>rV (.iface 102 (.pointer (some ⟨b,0,none⟩)))
     |39|43=>rV (.int .i64 pp)
     |40=>rp w.heap.size 3
     |41=>rV (.slice At x.t.length ct)
     | 52=>sayKn KL
     |53=>rV (.int .i64 (KL:Nat))
     |54=>rp w.heap.size 3
     |55=>rV (.slice At x.t.length ct)
     |56=>rV (.int .i64 id)
     | 57=>sayKn KL
     |58=>rV (.int .i64 (KL:Nat))
     |59|60=>rV (.bool false)
     | _=>ra) ⟨?_,?_,?_,?_,?_,?_,?_,?_,?_,?_,?_,?_,?_,?_,?_,?_,?_,?_,?_,?_,?_,?_,?_,?_,?_,?_,?_,?_,?_,?_,?_,?_,?_,?_,?_,?_,?_,?_,?_,?_,?_,?_,?_,?_,?_,?_,?_,?_,?_,?_,?_,?_,?_,?_,?_,?_,?_,?_,?_,?_,?_,trivial⟩ ?_
    any_goals (first|refine zp fun L a w1 hh=>?_|fail)
    any_goals (first|refine sy rfl rfl fun L a w1 hh=>?_|fail)
    have h15:=hh.o 15 (v:=.bool true) rfl;rotate_left;have h113:=rq (hh.d 0 113);rotate_left;have h114:=rq (hh.d 1 114);rotate_left;have h17:=hh.o 17 (v:=.bool true) rfl;rotate_left;have h116:=rq (hh.d 3 116);rotate_left;have h115:=rq (hh.d 2 115);have h117:=rq (hh.d 4 117);rotate_left;have h118:=rq (hh.d 5 118);rotate_left
    ·have h14:=hh.p 14 k14 0;have hB:=Hd ((GB.out _ hh.rel).1);have hJ:=Hd hh.st;exact wp_take 93 _ rfl k14 0 (by simpa [go_sem] using h14) _ hB.out (n.cs An cn) rfl _ Tryz.underlying93 rfl (by kernel_rfl) ⟨_,rfl,rB,rfl,hJ.out⟩
    ·have h120:=rq (hh.d 7 120);have hC:=Hd (GR.out _ hh.rel);have hJ:=hh.j;clear hh;go_simp;refine hC.out.mono ?_;rintro e w9 ⟨A9,c9,rfl,hr9,hb9⟩;exact ⟨_,rfl,hb9,⟨A9,c9,rfl,hr9⟩,hJ.out⟩
    have h3:=hh.p 3 w.heap.size 0;have i0:=(GA2.out _ hh.rel).inside;rotate_left;have h122:=rq (hh.d 9 122);have ⟨c0,i0⟩:=(GA2.out _ hh.rel).ci 4 rfl;rotate_left;have h13:=hh.o 13 (v:=.int .i64 id) rfl;rotate_left;have h123:=rq (hh.d 10 123);have h124:=rq (hh.d 11 124);have hlk:=GL.out _ hh.rel;rotate_left
    ·have h125:=rq (hh.d 12 125)
     obtain ⟨A8,c8,e8,hr8⟩:=(show ∃ A c,(a.tmps.getD 121 undef)=.agg (n.cs A c).toArray∧Row eW w1 A n.lk.l from hh.d 8 121)
     have h121:a.tmps[121]?.getD undef=.agg (n.cs A8 c8).toArray:=rq (e8);have hC:=Hd (GK.out w1 hh.rel A8 c8 hr8);have hJ:=Hd hh.st;clear hh e8 hr8;go_simp;refine hC.out.mono ?_;rintro e w9 ⟨rfl,hb9⟩;exact ⟨_,rfl,hb9,rfl,hJ.out⟩
    have h126:=rq (hh.d 13 126);rotate_left;have h119:=rq (hh.d 6 119);have h127:=rq (hh.d 14 127);rotate_left;have h128:=rq (hh.d 15 128);rotate_left;have h16:=hh.p 16 k16 0;have i0:=((GB.out _ hh.rel).2.1).inside;rotate_left;have h130:=rq (hh.d 17 130);have ⟨c0,i0⟩:=((GB.out _ hh.rel).2.1).ci 0 rfl;rotate_left;have h16:=hh.p 16 k16 0;have i0:=((GB.out _ hh.rel).2.1).inside;rotate_left;have h132:=rq (hh.d 19 132);have ⟨c0,i0⟩:=((GB.out _ hh.rel).2.1).ci 1 rfl;rotate_left;have h16:=hh.p 16 k16 0;have i0:=((GB.out _ hh.rel).2.1).inside;rotate_left;have h134:=rq (hh.d 21 134)
    have ⟨c0,i0⟩:=((GB.out _ hh.rel).2.1).ci 2 rfl;rotate_left;have h16:=hh.p 16 k16 0;have i0:=((GB.out _ hh.rel).2.1).inside;rotate_left;have h136:=rq (hh.d 23 136);have ⟨c0,i0⟩:=((GB.out _ hh.rel).2.1).ci 3 rfl;rotate_left;have h16:=hh.p 16 k16 0;have i0:=((GB.out _ hh.rel).2.1).inside;rotate_left;have h138:=rq (hh.d 25 138);have ⟨c0,i0⟩:=((GB.out _ hh.rel).2.1).ci 4 rfl;rotate_left;have h16:=hh.p 16 k16 0;have i0:=((GB.out _ hh.rel).2.1).inside;rotate_left;have h140:=rq (hh.d 27 140);have ⟨c0,i0⟩:=((GB.out _ hh.rel).2.1).ci 5 rfl;rotate_left
    ·have h131:=rq (hh.d 18 131);have h133:=rq (hh.d 20 133);have h135:=rq (hh.d 22 135);have h137:=rq (hh.d 24 137);have h139:=rq (hh.d 26 139);have h141:=rq (hh.d 28 141);have hJ:=Hd hh.st;exact wp_build _ _ rfl (by simp [go_sem,h131,h133,h135,h137,h139,h141]) (build_dm u w1) ⟨_,rfl,rB,rfl,hJ.out⟩
    ·have h18:=hh.p 18 k18 0;have hB:=Hd ((GB.out _ hh.rel).2.2);have hJ:=Hd hh.st;exact wp_take 47 _ rfl k18 0 (by simpa [go_sem] using h18) _ hB.out (u.cs) rfl _ Tryz.underlying47 rfl (by kernel_rfl) ⟨_,rfl,rB,rfl,hJ.out⟩
    have h142:=rq (hh.d 29 142);have h143:=rq (hh.d 30 143);have hnq:=dmp_eqi u w1;rotate_left;have h129:=rq (hh.d 16 129);have h144:=rq (hh.d 31 144);rotate_left;have h145:=rq (hh.d 32 145);rotate_left;have h0:=hh.p 0 g 0;rotate_left;have h147:=rq (hh.d 34 147);rotate_left;have h148:=rq (hh.d 35 148);have i0:=((GA.out _ hh.rel).1.blk.blk).inside;rotate_left;have h149:=rq (hh.d 36 149);have ⟨c0,i0⟩:=((GA.out _ hh.rel).1.blk.blk).ci 0 rfl;rotate_left;have h13:=hh.o 13 (v:=.int .i64 id) rfl;rotate_left
    ·have h150:=rq (hh.d 37 150);have h151:=rq (hh.d 38 151);have hinv:=inv_parent (.pointer (some ⟨b,0,none⟩));have hC:=Hd (GP.out _ hh.rel).1;have hJ:=hh.j;clear hh;go_simp;refine hC.out.mono ?_;rintro e w9 ⟨rfl,hb9⟩;exact ⟨_,rfl,hb9,rfl,hJ.out⟩
    have h3:=hh.p 3 w.heap.size 0;have i0:=(GA2.out _ hh.rel).inside;rotate_left;have h153:=rq (hh.d 40 153);have ⟨c0,i0⟩:=(GA2.out _ hh.rel).ci 3 rfl;rotate_left;have h13:=hh.o 13 (v:=.int .i64 id) rfl;rotate_left
    ·have h154:=rq (hh.d 41 154);have h155:=rq (hh.d 42 155);have hC:=Hd (GP.out _ hh.rel).2;have hJ:=hh.j;clear hh;go_simp;refine hC.out.mono ?_;rintro e w9 ⟨rfl,hb9⟩;exact ⟨_,rfl,hb9,rfl,hJ.out⟩
    have h152:=rq (hh.d 39 152);have h156:=rq (hh.d 43 156);rotate_left;have h146:=rq (hh.d 33 146);have h157:=rq (hh.d 44 157);rotate_left;have h158:=rq (hh.d 45 158);rotate_left;have h0:=hh.p 0 g 0;rotate_left;have h160:=rq (hh.d 47 160);rotate_left;have h161:=rq (hh.d 48 161);have i0:=((GA.out _ hh.rel).1.blk.blk).inside;rotate_left;have h162:=rq (hh.d 49 162);have ⟨c0,i0⟩:=((GA.out _ hh.rel).1.blk.blk).ci 0 rfl;rotate_left;have h13:=hh.o 13 (v:=.int .i64 id) rfl;rotate_left
    ·have h163:=rq (hh.d 50 163);have h164:=rq (hh.d 51 164);have hinv:=inv_kids (.pointer (some ⟨b,0,none⟩));have hC:=Hd ((GKD.out _ hh.rel).1);have hJ:=hh.j;clear hh;go_simp;refine hC.out.mono ?_;rintro e w9 ⟨A9,c9,rfl,hb9⟩;exact ⟨_,rfl,hb9,⟨A9,c9,rfl⟩,hJ.out⟩
    ·obtain ⟨A8,c8,e8⟩:=(show ∃ A c,(a.tmps.getD 165 undef)=.slice A KL c from hh.d 52 165)
     have h165:a.tmps[165]?.getD undef=.slice A8 KL c8:=rq (e8);clear hh;go_simp;exact ⟨_,rfl,rB,rfl,trivial⟩
    have h3:=hh.p 3 w.heap.size 0;have i0:=(GA2.out _ hh.rel).inside;rotate_left;have h167:=rq (hh.d 54 167);have ⟨c0,i0⟩:=(GA2.out _ hh.rel).ci 3 rfl;rotate_left;have h13:=hh.o 13 (v:=.int .i64 id) rfl;rotate_left
    ·have h168:=rq (hh.d 55 168);have h169:=rq (hh.d 56 169);have hC:=Hd ((GKD.out _ hh.rel).2);have hJ:=hh.j;clear hh;go_simp;refine hC.out.mono ?_;rintro e w9 ⟨A9,c9,rfl,hb9⟩;exact ⟨_,rfl,hb9,⟨A9,c9,rfl⟩,hJ.out⟩
    ·obtain ⟨A8,c8,e8⟩:=(show ∃ A c,(a.tmps.getD 170 undef)=.slice A KL c from hh.d 57 170)
     have h170:a.tmps[170]?.getD undef=.slice A8 KL c8:=rq (e8);clear hh;go_simp;exact ⟨_,rfl,rB,rfl,trivial⟩
    have h166:=rq (hh.d 53 166);have h171:=rq (hh.d 58 171);rotate_left;have h159:=rq (hh.d 46 159);have h172:=rq (hh.d 59 172);rotate_left
    any_goals (clear hh;go_simp;exact ⟨_,rfl,rB,rfl,trivial⟩)
    intro L w18 val hL hJ hR hv;have h173:val 173=.bool false:=hv 60 173 (by kernel_rfl);have HR18:=Hd hR;clear hv hL hJ hR;simp only [regs.putAll,List.map_cons,List.map_nil,h173];simp only [Act.put,List.setIfInBounds_toArray,List.set_cons_zero,List.set_cons_succ];clear h173
    skip
    have HB18:Hid (Below wA.heap.size wA w18):=HBHa.out.trans (Below.mono HR18.out HBHa.out.size);clear GA GA2 GB GR GL GK GP GKD HPAR HKID HR18 HBHa;go_wp2_with (fail)
    go_roundw
    case rel=>exact ⟨j+1,HLT.out,by go_num,HB18⟩
    case measure=>have:=HLT.out;simp [intOf];omega
   ·obtain rfl:j=X.length:=by omega
    have t1:decide (X.length<X.length)=false:=by simp
    have HRB:Hid (BlkT wB (w.heap.size+1) [.bool false] 4):=(HALL.out wB (HKA.out wB HBR.out)).2.2.2.2.2.2;have HDB:=Hd (HDA.out wB HBR.out);have rc:=HRB.out.blk.cell 0;have rf:=HRB.out.blk.free 0;have ri:=HRB.out.inside;simp only [List.getElem?_cons_zero] at rc;have HBF:=Hd (HB0.out.trans ((HLOW.out wB (HKA.out wB HBR.out)).mono HB0.out.size));have HRR:Hid (w.heap.size+1<w0.heap.size):=HRIN.out;clear hlt hj;go_wp2_with (fail)
    have hd8:(wB.setCell ⟨w.heap.size+1,0,none⟩ (.bool true)).heap[D]?=some (.deferred (some [])):=(heap_setCell_other _ _ _ _ (show D≠w.heap.size+1 by have:=HD1.out;have:=HRR.out;omega)).trans HDB.out;refine postM_ret w.heap.size ⟨⟨D,rfl,by have:=HD1.out;have:=HRR.out;omega,hd8,by simp⟩,trivial⟩ fun w' hbk=>?_;have hx':BlkT w' (w.heap.size+1) [.bool true] 4:=hbk.keep (HRB.out.set 0 (.bool true)) rfl;refine ⟨_,results_cell_bool rfl _ _ rfl (hx'.blk.cell 0),rfl,?_⟩
    have h4:Below w.heap.size w (wB.setCell ⟨w.heap.size+1,0,none⟩ (.bool true)):=HBF.out.setCell (p:=⟨w.heap.size+1,0,none⟩) (by simp) _;exact h4.trans (hbk.below nR h4.size)
end
section
open Go.RowKit pxm imm trm Go.Maps
theorem dmp_ne (m1 m2:Mp) (h:m1≠m2) (w:World):(Op.equalIn 10000 47 (.agg m1.cs.toArray) (.agg m2.cs.toArray)).run Tryz.prog w=.ok false w:=by
 obtain ⟨a0,a1,a2,a3,a4,a5⟩:=m1;obtain ⟨b0,b1,b2,b3,b4,b5⟩:=m2;unfold Mp.cs;obtain ⟨i,hi⟩:=Option.isSome_iff_exists.1 (show (Tryz.prog.info? 2).isSome=true by kernel_rfl);have hc:Tryz.prog.cellsOf 2=1:=by kernel_rfl
 have e:=run_equalIn_array (P:=Tryz.prog) w 9999 (Vf a0 a1 a2 a3 a4 a5).toArray (Vf b0 b1 b2 b3 b4 b5).toArray Tryz.underlying47 hi;rw [hc] at e;rw [e];by_cases h0:¬ a0=b0
 ·simp [Op.eqItems,List.range,List.range.loop,part,go_sem,h0]
 obtain rfl:a0=b0:=Classical.byContradiction h0;by_cases h1:¬ a1=b1
 ·simp [Op.eqItems,List.range,List.range.loop,part,go_sem,h1]
 obtain rfl:a1=b1:=Classical.byContradiction h1;by_cases h2:¬ a2=b2
 ·simp [Op.eqItems,List.range,List.range.loop,part,go_sem,h2]
 obtain rfl:a2=b2:=Classical.byContradiction h2;by_cases h3:¬ a3=b3
 ·simp [Op.eqItems,List.range,List.range.loop,part,go_sem,h3]
 obtain rfl:a3=b3:=Classical.byContradiction h3;by_cases h4:¬ a4=b4
 ·simp [Op.eqItems,List.range,List.range.loop,part,go_sem,h4]
 obtain rfl:a4=b4:=Classical.byContradiction h4;by_cases h5:¬ a5=b5
 ·simp [Op.eqItems,List.range,List.range.loop,part,go_sem,h5]
 obtain rfl:a5=b5:=Classical.byContradiction h5;exact absurd rfl h
theorem d4_ne (r1 r2:Bx) (h:r1≠r2) (w:World):(Op.equalIn 10000 48 (.agg r1.cs4.toArray) (.agg r2.cs4.toArray)).run Tryz.prog w=.ok false w:=by
 obtain ⟨a0,a1,a2,a3⟩:=r1;obtain ⟨b0,b1,b2,b3⟩:=r2;unfold Bx.cs4;obtain ⟨i,hi⟩:=Option.isSome_iff_exists.1 (show (Tryz.prog.info? 3).isSome=true by kernel_rfl);have hc:Tryz.prog.cellsOf 3=1:=by kernel_rfl
 have e:=run_equalIn_array (P:=Tryz.prog) w 9999 (Vk a0 a1 a2 a3).toArray (Vk b0 b1 b2 b3).toArray Tryz.underlying48 hi;rw [hc] at e;rw [e];by_cases h0:¬ a0=b0
 ·simp [Op.eqItems,List.range,List.range.loop,part,go_sem,h0]
 obtain rfl:a0=b0:=Classical.byContradiction h0;by_cases h1:¬ a1=b1
 ·simp [Op.eqItems,List.range,List.range.loop,part,go_sem,h1]
 obtain rfl:a1=b1:=Classical.byContradiction h1;by_cases h2:¬ a2=b2
 ·simp [Op.eqItems,List.range,List.range.loop,part,go_sem,h2]
 obtain rfl:a2=b2:=Classical.byContradiction h2;by_cases h3:¬ a3=b3
 ·simp [Op.eqItems,List.range,List.range.loop,part,go_sem,h3]
 obtain rfl:a3=b3:=Classical.byContradiction h3;exact absurd rfl h
theorem nd_eq {n1 n2:Nd} (g0:n1.m=n2.m) (g1:n1.op=n2.op) (g2:n1.hi=n2.hi) (g3:n1.cl=n2.cl) (g4:n1.r=n2.r) (g5:n1.lk.k=n2.lk.k) (g6:n1.lk.W=n2.lk.W) (g7:n1.lk.H=n2.lk.H) (g8:n1.lk.p=n2.lk.p) (g9:n1.lk.iw=n2.lk.iw) (g10:n1.lk.ih=n2.lk.ih) (g11:n1.lk.l=n2.lk.l):n1=n2:=by
 obtain ⟨m1,o1,u1,v1,r1,⟨k1,W1,H1,p1,x1,y1,l1⟩⟩:=n1;obtain ⟨m2,o2,u2,v2,r2,⟨k2,W2,H2,p2,x2,y2,l2⟩⟩:=n2
 dsimp only at g0 g1 g2 g3 g4 g5 g6 g7 g8 g9 g10 g11
 rw [g0,g1,g2,g3,g4,g5,g6,g7,g8,g9,g10,g11]
theorem eqi_m {m1 m2:Mp} (h:m1=m2) (w:World):(Op.equalIn 10000 47 (.agg m1.cs.toArray) (.agg m2.cs.toArray)).run Tryz.prog w=.ok true w:=by rw [h];exact dmp_eqi m2 w
theorem eqi_r {r1 r2:Bx} (h:r1=r2) (w:World):(Op.equalIn 10000 48 (.agg r1.cs4.toArray) (.agg r2.cs4.toArray)).run Tryz.prog w=.ok true w:=by rw [h];exact d4_eqi r2 w
theorem alike_no (n1 n2:Nd) (A1 A2:Option Addr) (c1 c2:Nat) (w:World) (h1:Row eW w A1 n1.lk.l) (h2:Row eW w A2 n2.lk.l) (hn:n1.lk.l.length<=1000000∧n2.lk.l.length<=1000000) (hne:n1≠n2) :
  Calls Tryz.prog 17 #[.agg (n1.cs A1 c1).toArray,.agg (n2.cs A2 c2).toArray] w fun e w'=>e=.returned (.bool false)∧Below w.heap.size w w':=by
 have HRa:=Hd h1;have HRb:=Hd h2;have HN:=Hd hn;have HB0:Hid (Below w.heap.size w ((w.alloc (.cells (n1.cs A1 c1).toArray 54)).alloc (.cells (n2.cs A2 c2).toArray 54))):=(bR.alloc nR _).alloc (by simp) _;have HK1:Hid (Blk ((w.alloc (.cells (n1.cs A1 c1).toArray 54)).alloc (.cells (n2.cs A2 c2).toArray 54)) w.heap.size (n1.cs A1 c1)):=(blk_new w (n1.cs A1 c1) _).alloc _;have HK2:Hid (Blk ((w.alloc (.cells (n1.cs A1 c1).toArray 54)).alloc (.cells (n2.cs A2 c2).toArray 54)) (w.heap.size+1) (n2.cs A2 c2)):=blk_at (w.alloc _) _ (by simp) (n2.cs A2 c2) _;have HNE:=Hd hne
 clear h1 h2 hn hne;go_enter Tryz.func17,Tryz.ntmps17
 go_upto_region 1 with (fail)
 generalize ((w.alloc (.cells (n1.cs A1 c1).toArray 54)).alloc (.cells (n2.cs A2 c2).toArray 54))=w0 at *;have F1:Hid (∀ W,regs.bl w0 W->Blk W w.heap.size (n1.cs A1 c1)):=fun W hb=>HK1.out.below' hb;have F2:Hid (∀ W,regs.bl w0 W->Blk W (w.heap.size+1) (n2.cs A2 c2)):=fun W hb=>HK2.out.below' hb
 refine wRn [8,9,10,11,12,13,5,6] (fun i=>match i with
  |0=>rp w.heap.size 17
  |1=>rp w.heap.size 19
  |2|6=>rV (.slice A1 n1.lk.l.length c1)
  |3=>rp (w.heap.size+1) 17
  |4=>rp (w.heap.size+1) 19
  |5|7=>rV (.slice A2 n2.lk.l.length c2)
  | _=>ra) ⟨?_,?_,?_,?_,?_,?_,?_,?_,trivial⟩ ?_
 any_goals (first|refine zp fun L a w1 hh=>?_|fail)
 have h2:=hh.p 2 w.heap.size 0;have i0:=(F1.out _ hh.rel).inside;rotate_left;have h8:=rq (hh.d 0 8);have i0:=(F1.out _ hh.rel).inside;rotate_left;have h9:=rq (hh.d 1 9);have ⟨c0,i0⟩:=(F1.out _ hh.rel).ci 19 rfl;rotate_left;have h3:=hh.p 3 ((w.heap.size+1)) 0;have i0:=(F2.out _ hh.rel).inside;rotate_left;have h11:=rq (hh.d 3 11);have i0:=(F2.out _ hh.rel).inside;rotate_left;have h12:=rq (hh.d 4 12);have ⟨c0,i0⟩:=(F2.out _ hh.rel).ci 19 rfl;rotate_left;have h10:=rq (hh.d 2 10);rotate_left;have h13:=rq (hh.d 5 13);rotate_left
 any_goals (clear hh;go_simp;exact ⟨_,rfl,rB,rfl,trivial⟩)
 intro L w2 val hL hJ hR hv;have h5:val 5=.slice A1 n1.lk.l.length c1:=hv 6 5 (by kernel_rfl);have h6:val 6=.slice A2 n2.lk.l.length c2:=hv 7 6 (by kernel_rfl);have HR2:=Hd hR;clear hv hL hJ hR;simp only [regs.putAll,List.map_cons,List.map_nil,h5,h6];simp only [Act.put,List.setIfInBounds_toArray,List.set_cons_zero,List.set_cons_succ];clear h5 h6
 skip
 have hnb:(n1.lk.l.length:Int)<=1000000:=by have:=HN.out.1;omega
 have hnb2:(n2.lk.l.length:Int)<=1000000:=by have:=HN.out.2;omega
 have HB2:=Hd (HB0.out.trans (HR2.out.mono HB0.out.size));clear F1 F2;by_cases hlen:¬ n1.lk.l.length=n2.lk.l.length
 ·have t0:decide (n1.lk.l.length=n2.lk.l.length)=false:=decide_eq_false hlen;have t9:((n1.lk.l.length:Int)==(n2.lk.l.length:Int))=false:=by simp;omega
  have t8:(n1.lk.l.length==n2.lk.l.length)=false:=by simpa using hlen
  clear hlen;go_wp2_with (fail);go_ret;exact ⟨rfl,HB2.out⟩
 have hlen:n1.lk.l.length=n2.lk.l.length:=Classical.byContradiction hlen;have t0:decide (n1.lk.l.length=n2.lk.l.length)=true:=decide_eq_true hlen;have t9:((n1.lk.l.length:Int)==(n2.lk.l.length:Int))=true:=by simp;omega
 have t8:(n1.lk.l.length==n2.lk.l.length)=true:=by simpa using hlen
 have HLE:=Hd hlen;clear hlen
 go_upto_region 5 with (fail)
 clear t0 t9 t8
 go_loopw [21] (fun x21 wr=>∃ k:Nat,k<=n1.lk.l.length∧x21=.int .i64 k∧Hid (n1.lk.l.take k=n2.lk.l.take k)∧Hid (Below w2.heap.size w2 wr)) (fun x21 _=>n1.lk.l.length - (intOf x21).toNat)
 case atStart=>exact ⟨0,Nat.zero_le _,rfl,rfl,bR⟩
 case round=>
  obtain ⟨k,hk,rfl,HTQ,HBW⟩:=hrel;generalize wr=wA at *;by_cases hlt:k<n1.lk.l.length
  ·have t1:decide (k<n1.lk.l.length)=true:=decide_eq_true hlt;have hlt2:k<n2.lk.l.length:=by have:=HLE.out;omega
   have HLT:=Hd hlt;have HLT2:=Hd hlt2;have HBB:=Hd (HB2.out.trans (HBW.out.mono HB2.out.size));obtain ⟨b1,o1,e1,k1⟩:=Row.at_ (Row.below HRa.out HBB.out) hlt;obtain ⟨b2,o2,e2,k2⟩:=Row.at_ (Row.below HRb.out HBB.out) hlt2;subst e1;subst e2
   obtain ⟨z1,hz1⟩:∃ z,z=n1.lk.l[k]'hlt:=⟨_,rfl⟩
   obtain ⟨z2,hz2⟩:∃ z,z=n2.lk.l[k]'hlt2:=⟨_,rfl⟩
   have HT1:Hid (n1.lk.l.take (k+1)=n1.lk.l.take k++[z1]):=by rw [hz1];exact List.take_succ_eq_append_getElem hlt
   have HT2:Hid (n2.lk.l.take (k+1)=n2.lk.l.take k++[z2]):=by rw [hz2];exact List.take_succ_eq_append_getElem hlt2
   unfold eW at k1 k2;rw [← hz1] at k1;rw [← hz2] at k2;have hkb:(k:Int)<=1000000:=by have:=HN.out.1;omega
   have FP:Hid (∀ W,regs.bl wA W->(W.cell? ⟨b1,o1+k,none⟩=some (.int .u32 (z1:Nat))∧b1<W.heap.size)∧(W.cell? ⟨b2,o2+k,none⟩=some (.int .u32 (z2:Nat))∧b2<W.heap.size)):=fun W hb=>by
    have l1:=World.block_lt_of_cell? wA _ k1;have l2:=World.block_lt_of_cell? wA _ k2;exact ⟨⟨(Below.cell hb (p:=⟨b1,_,none⟩) l1).trans k1,Nat.lt_of_lt_of_le l1 hb.size⟩,⟨(Below.cell hb (p:=⟨b2,_,none⟩) l2).trans k2,Nat.lt_of_lt_of_le l2 hb.size⟩⟩
   clear k1 k2 hz1 hz2 hlt hlt2 hk;by_cases hzz:z1=z2
   ·subst hzz
    go_upto_region 7 with (fail)
    refine wRn [24,25,26,27,28,29,30,31,32] (fun i=>match i with
     |0=>rV (.slice (some ⟨b1,o1,none⟩) n1.lk.l.length c1)
     |1|5=>rV (.int .i64 (k:Nat))
     |2=>rV (.pointer (some ⟨b1,(o1+k),none⟩))
     |3|7=>rV (.int .u32 (z1:Nat))
     |4=>rV (.slice (some ⟨b2,o2,none⟩) n2.lk.l.length c2)
     |6=>rV (.pointer (some ⟨b2,(o2+k),none⟩))
     |8=>rV (.bool false)
     | _=>ra) ⟨?_,?_,?_,?_,?_,?_,?_,?_,?_,trivial⟩ ?_
    any_goals (first|refine zp fun L a w1 hh=>?_|fail)
    have h5:=hh.o 5 (v:=.slice (some ⟨b1,o1,none⟩) n1.lk.l.length c1) rfl;rotate_left;have h7:=hh.o 7 (v:=.int .i64 (k:Nat)) rfl;rotate_left
    ·have h24:=rq (hh.d 0 24);have h25:=rq (hh.d 1 25);obtain ⟨-,li⟩:=(FP.out _ hh.rel).1;have hlt:=HLT.out;clear hh;go_simp;exact ⟨_,rfl,rB,rfl,trivial⟩
    ·have h26:=rq (hh.d 2 26);obtain ⟨c0,li⟩:=(FP.out _ hh.rel).1;clear hh;go_simp;exact ⟨_,rfl,rB,rfl,trivial⟩
    have h6:=hh.o 6 (v:=.slice (some ⟨b2,o2,none⟩) n2.lk.l.length c2) rfl;rotate_left;have h7:=hh.o 7 (v:=.int .i64 (k:Nat)) rfl;rotate_left
    ·have h28:=rq (hh.d 4 28);have h29:=rq (hh.d 5 29);obtain ⟨-,li⟩:=(FP.out _ hh.rel).2;have hlt:=HLT2.out;clear hh;go_simp;exact ⟨_,rfl,rB,rfl,trivial⟩
    ·have h30:=rq (hh.d 6 30);obtain ⟨c0,li⟩:=(FP.out _ hh.rel).2;clear hh;go_simp;exact ⟨_,rfl,rB,rfl,trivial⟩
    have h27:=rq (hh.d 3 27);have h31:=rq (hh.d 7 31);rotate_left
    any_goals (clear hh;go_simp;exact ⟨_,rfl,rB,rfl,trivial⟩)
    intro L w4 val hL hJ hR hv;have h32:val 32=.bool false:=hv 8 32 (by kernel_rfl);have HR4:=Hd hR;clear hv hL hJ hR;simp only [regs.putAll,List.map_cons,List.map_nil,h32];simp only [Act.put,List.setIfInBounds_toArray,List.set_cons_zero,List.set_cons_succ];clear h32;generalize val 24=v24,val 25=v25,val 26=v26,val 27=v27,val 28=v28,val 29=v29,val 30=v30,val 31=v31 at *;have HB4:Hid (Below w2.heap.size w2 w4):=HBW.out.trans (Below.mono HR4.out HBW.out.size);clear FP HR4 HBB;go_wp2_with (fail)
    go_roundw
    case rel=>exact ⟨k+1,HLT.out,by go_num,(by show _=_;rw [HT1.out,HT2.out,HTQ.out]),HB4⟩
    case measure=>have:=HLT.out;simp [intOf];omega
   ·have HZZ:Hid (((z1:Int) != (z2:Int))=true):=by show _=_;simp;omega
    clear hzz
    go_upto_region 7 with (fail)
    refine wRn [24,25,26,27,28,29,30,31,32] (fun i=>match i with
     |0=>rV (.slice (some ⟨b1,o1,none⟩) n1.lk.l.length c1)
     |1|5=>rV (.int .i64 (k:Nat))
     |2=>rV (.pointer (some ⟨b1,(o1+k),none⟩))
     |3=>rV (.int .u32 (z1:Nat))
     |4=>rV (.slice (some ⟨b2,o2,none⟩) n2.lk.l.length c2)
     |6=>rV (.pointer (some ⟨b2,(o2+k),none⟩))
     |7=>rV (.int .u32 (z2:Nat))
     |8=>rT
     | _=>ra) ⟨?_,?_,?_,?_,?_,?_,?_,?_,?_,trivial⟩ ?_
    any_goals (first|refine zp fun L a w1 hh=>?_|fail)
    have h5:=hh.o 5 (v:=.slice (some ⟨b1,o1,none⟩) n1.lk.l.length c1) rfl;rotate_left;have h7:=hh.o 7 (v:=.int .i64 (k:Nat)) rfl;rotate_left
    ·have h24:=rq (hh.d 0 24);have h25:=rq (hh.d 1 25);obtain ⟨-,li⟩:=(FP.out _ hh.rel).1;have hlt:=HLT.out;clear hh;go_simp;exact ⟨_,rfl,rB,rfl,trivial⟩
    ·have h26:=rq (hh.d 2 26);obtain ⟨c0,li⟩:=(FP.out _ hh.rel).1;clear hh;go_simp;exact ⟨_,rfl,rB,rfl,trivial⟩
    have h6:=hh.o 6 (v:=.slice (some ⟨b2,o2,none⟩) n2.lk.l.length c2) rfl;rotate_left;have h7:=hh.o 7 (v:=.int .i64 (k:Nat)) rfl;rotate_left
    ·have h28:=rq (hh.d 4 28);have h29:=rq (hh.d 5 29);obtain ⟨-,li⟩:=(FP.out _ hh.rel).2;have hlt:=HLT2.out;clear hh;go_simp;exact ⟨_,rfl,rB,rfl,trivial⟩
    ·have h30:=rq (hh.d 6 30);obtain ⟨c0,li⟩:=(FP.out _ hh.rel).2;clear hh;go_simp;exact ⟨_,rfl,rB,rfl,trivial⟩
    have h27:=rq (hh.d 3 27);have h31:=rq (hh.d 7 31);have hzz:=HZZ.out;rotate_left
    any_goals (clear hh;go_simp;exact ⟨_,rfl,rB,rfl,trivial⟩)
    intro L w4 val hL hJ hR hv;have h32:val 32=.bool true:=hv 8 32 (by kernel_rfl);have HR4:=Hd hR;clear hv hL hJ hR;simp only [regs.putAll,List.map_cons,List.map_nil,h32];simp only [Act.put,List.setIfInBounds_toArray,List.set_cons_zero,List.set_cons_succ];clear h32
    skip
    have HB4:=Hd (HBB.out.trans (Below.mono HR4.out HBB.out.size));clear FP HR4 HBB;go_wp2_with (fail);go_ret;exact ⟨rfl,HB4.out⟩
  ·obtain rfl:k=n1.lk.l.length:=by omega
   have t1:decide (n1.lk.l.length<n1.lk.l.length)=false:=by simp
   have HLQ:Hid (n1.lk.l=n2.lk.l):=by
    have h:=HTQ.out;rw [List.take_length] at h;have h2:=HLE.out;rw [h2,List.take_length] at h;exact h
   have HBB:Hid (Below w0.heap.size w0 wA):=HR2.out.trans (HBW.out.mono HR2.out.size);have HG1:Hid (Blk wA w.heap.size (n1.cs A1 c1)):=HK1.out.below' HBB.out;have HG2:Hid (Blk wA (w.heap.size+1) (n2.cs A2 c2)):=HK2.out.below' HBB.out
   go_upto_region 10 with (fail)
   have c0:=HG1.out.c 0 rfl;have c1:=HG1.out.c 1 rfl;have c2:=HG1.out.c 2 rfl;have c3:=HG1.out.c 3 rfl;have c4:=HG1.out.c 4 rfl;have c5:=HG1.out.c 5 rfl;have c6:=HG1.out.c 6 rfl;have c7:=HG1.out.c 7 rfl;have c8:=HG1.out.c 8 rfl;have c9:=HG1.out.c 9 rfl;have c10:=HG1.out.c 10 rfl;have c11:=HG1.out.c 11 rfl;have c12:=HG1.out.c 12 rfl;have c13:=HG1.out.c 13 rfl;have c14:=HG1.out.c 14 rfl;have c15:=HG1.out.c 15 rfl;have c16:=HG1.out.c 16 rfl;have c17:=HG1.out.c 17 rfl;have c18:=HG1.out.c 18 rfl;have d0:wA.cell? ⟨w.heap.size+1,0,none⟩=some (.int .i64 n2.m.a):=HG2.out.cell 0
   have d1:wA.cell? ⟨w.heap.size+1,1,none⟩=some (.int .i64 n2.m.b):=HG2.out.cell 1;have d2:wA.cell? ⟨w.heap.size+1,2,none⟩=some (.int .i64 n2.m.c):=HG2.out.cell 2;have d3:wA.cell? ⟨w.heap.size+1,3,none⟩=some (.int .i64 n2.m.d):=HG2.out.cell 3;have d4:wA.cell? ⟨w.heap.size+1,4,none⟩=some (.int .i64 n2.m.e):=HG2.out.cell 4;have d5:wA.cell? ⟨w.heap.size+1,5,none⟩=some (.int .i64 n2.m.f):=HG2.out.cell 5;have d6:wA.cell? ⟨w.heap.size+1,6,none⟩=some (.int .i64 n2.op):=HG2.out.cell 6;have d7:wA.cell? ⟨w.heap.size+1,7,none⟩=some (.bool n2.hi):=HG2.out.cell 7
   have d8:wA.cell? ⟨w.heap.size+1,8,none⟩=some (.bool n2.cl):=HG2.out.cell 8;have d9:wA.cell? ⟨w.heap.size+1,9,none⟩=some (.int .i64 n2.r.a):=HG2.out.cell 9;have d10:wA.cell? ⟨w.heap.size+1,10,none⟩=some (.int .i64 n2.r.b):=HG2.out.cell 10;have d11:wA.cell? ⟨w.heap.size+1,11,none⟩=some (.int .i64 n2.r.c):=HG2.out.cell 11;have d12:wA.cell? ⟨w.heap.size+1,12,none⟩=some (.int .i64 n2.r.d):=HG2.out.cell 12;have d13:wA.cell? ⟨w.heap.size+1,13,none⟩=some (.int .i64 n2.lk.k):=HG2.out.cell 13;have d14:wA.cell? ⟨w.heap.size+1,14,none⟩=some (.int .i64 n2.lk.W):=HG2.out.cell 14
   have d15:wA.cell? ⟨w.heap.size+1,15,none⟩=some (.int .i64 n2.lk.H):=HG2.out.cell 15;have d16:wA.cell? ⟨w.heap.size+1,16,none⟩=some (.int .u32 (n2.lk.p:Nat)):=HG2.out.cell 16;have d17:wA.cell? ⟨w.heap.size+1,17,none⟩=some (.int .i64 n2.lk.iw):=HG2.out.cell 17;have d18:wA.cell? ⟨w.heap.size+1,18,none⟩=some (.int .i64 n2.lk.ih):=HG2.out.cell 18;have i1:=HG1.out.inside;have i2:=HG2.out.inside;clear hlt hk HTQ;by_cases g0:¬ n1.m=n2.m
   ·skip
    have q0:(Op.equalIn 10000 47 (.agg (Vf n1.m.a n1.m.b n1.m.c n1.m.d n1.m.e n1.m.f).toArray) (.agg (Vf n2.m.a n2.m.b n2.m.c n2.m.d n2.m.e n2.m.f).toArray)).run Tryz.prog wA=.ok false wA:=dmp_ne n1.m n2.m g0 wA;clear g0;go_wp2_with (fail);go_ret;exact ⟨rfl,HB0.out.trans (HBB.out.mono HB0.out.size)⟩
   have g0:n1.m=n2.m:=Classical.byContradiction g0;by_cases g1:¬ n1.op=n2.op
   ·skip
    have q0:(Op.equalIn 10000 47 (.agg (Vf n1.m.a n1.m.b n1.m.c n1.m.d n1.m.e n1.m.f).toArray) (.agg (Vf n2.m.a n2.m.b n2.m.c n2.m.d n2.m.e n2.m.f).toArray)).run Tryz.prog wA=.ok true wA:=eqi_m g0 wA;have q1:(n1.op==n2.op)=false:=by simpa using g1
    clear g0 g1;go_wp2_with (fail);go_ret;exact ⟨rfl,HB0.out.trans (HBB.out.mono HB0.out.size)⟩
   have g1:n1.op=n2.op:=Classical.byContradiction g1;by_cases g2:¬ n1.hi=n2.hi
   ·skip
    have q0:(Op.equalIn 10000 47 (.agg (Vf n1.m.a n1.m.b n1.m.c n1.m.d n1.m.e n1.m.f).toArray) (.agg (Vf n2.m.a n2.m.b n2.m.c n2.m.d n2.m.e n2.m.f).toArray)).run Tryz.prog wA=.ok true wA:=eqi_m g0 wA;have q1:(n1.op==n2.op)=true:=by rw [g1];simp
    have q2:(n1.hi==n2.hi)=false:=by simpa using g2
    clear g0 g1 g2;go_wp2_with (fail);go_ret;exact ⟨rfl,HB0.out.trans (HBB.out.mono HB0.out.size)⟩
   have g2:n1.hi=n2.hi:=Classical.byContradiction g2;by_cases g3:¬ n1.cl=n2.cl
   ·skip
    have q0:(Op.equalIn 10000 47 (.agg (Vf n1.m.a n1.m.b n1.m.c n1.m.d n1.m.e n1.m.f).toArray) (.agg (Vf n2.m.a n2.m.b n2.m.c n2.m.d n2.m.e n2.m.f).toArray)).run Tryz.prog wA=.ok true wA:=eqi_m g0 wA;have q1:(n1.op==n2.op)=true:=by rw [g1];simp
    have q2:(n1.hi==n2.hi)=true:=by rw [g2];simp
    have q3:(n1.cl==n2.cl)=false:=by simpa using g3
    clear g0 g1 g2 g3;go_wp2_with (fail);go_ret;exact ⟨rfl,HB0.out.trans (HBB.out.mono HB0.out.size)⟩
   have g3:n1.cl=n2.cl:=Classical.byContradiction g3;by_cases g4:¬ n1.r=n2.r
   ·skip
    have q0:(Op.equalIn 10000 47 (.agg (Vf n1.m.a n1.m.b n1.m.c n1.m.d n1.m.e n1.m.f).toArray) (.agg (Vf n2.m.a n2.m.b n2.m.c n2.m.d n2.m.e n2.m.f).toArray)).run Tryz.prog wA=.ok true wA:=eqi_m g0 wA;have q1:(n1.op==n2.op)=true:=by rw [g1];simp
    have q2:(n1.hi==n2.hi)=true:=by rw [g2];simp
    have q3:(n1.cl==n2.cl)=true:=by rw [g3];simp
    have q4:(Op.equalIn 10000 48 (.agg (Vk n1.r.a n1.r.b n1.r.c n1.r.d).toArray) (.agg (Vk n2.r.a n2.r.b n2.r.c n2.r.d).toArray)).run Tryz.prog wA=.ok false wA:=d4_ne n1.r n2.r g4 wA;clear g0 g1 g2 g3 g4;go_wp2_with (fail);go_ret;exact ⟨rfl,HB0.out.trans (HBB.out.mono HB0.out.size)⟩
   have g4:n1.r=n2.r:=Classical.byContradiction g4;by_cases g5:¬ n1.lk.k=n2.lk.k
   ·skip
    have q0:(Op.equalIn 10000 47 (.agg (Vf n1.m.a n1.m.b n1.m.c n1.m.d n1.m.e n1.m.f).toArray) (.agg (Vf n2.m.a n2.m.b n2.m.c n2.m.d n2.m.e n2.m.f).toArray)).run Tryz.prog wA=.ok true wA:=eqi_m g0 wA;have q1:(n1.op==n2.op)=true:=by rw [g1];simp
    have q2:(n1.hi==n2.hi)=true:=by rw [g2];simp
    have q3:(n1.cl==n2.cl)=true:=by rw [g3];simp
    have q4:(Op.equalIn 10000 48 (.agg (Vk n1.r.a n1.r.b n1.r.c n1.r.d).toArray) (.agg (Vk n2.r.a n2.r.b n2.r.c n2.r.d).toArray)).run Tryz.prog wA=.ok true wA:=eqi_r g4 wA;have q5:(n1.lk.k==n2.lk.k)=false:=by simpa using g5
    clear g0 g1 g2 g3 g4 g5;go_wp2_with (fail);go_ret;exact ⟨rfl,HB0.out.trans (HBB.out.mono HB0.out.size)⟩
   have g5:n1.lk.k=n2.lk.k:=Classical.byContradiction g5;by_cases g6:¬ n1.lk.W=n2.lk.W
   ·skip
    have q0:(Op.equalIn 10000 47 (.agg (Vf n1.m.a n1.m.b n1.m.c n1.m.d n1.m.e n1.m.f).toArray) (.agg (Vf n2.m.a n2.m.b n2.m.c n2.m.d n2.m.e n2.m.f).toArray)).run Tryz.prog wA=.ok true wA:=eqi_m g0 wA;have q1:(n1.op==n2.op)=true:=by rw [g1];simp
    have q2:(n1.hi==n2.hi)=true:=by rw [g2];simp
    have q3:(n1.cl==n2.cl)=true:=by rw [g3];simp
    have q4:(Op.equalIn 10000 48 (.agg (Vk n1.r.a n1.r.b n1.r.c n1.r.d).toArray) (.agg (Vk n2.r.a n2.r.b n2.r.c n2.r.d).toArray)).run Tryz.prog wA=.ok true wA:=eqi_r g4 wA;have q5:(n1.lk.k==n2.lk.k)=true:=by rw [g5];simp
    have q6:(n1.lk.W==n2.lk.W)=false:=by simpa using g6
    clear g0 g1 g2 g3 g4 g5 g6;go_wp2_with (fail);go_ret;exact ⟨rfl,HB0.out.trans (HBB.out.mono HB0.out.size)⟩
   have g6:n1.lk.W=n2.lk.W:=Classical.byContradiction g6;by_cases g7:¬ n1.lk.H=n2.lk.H
   ·skip
    have q0:(Op.equalIn 10000 47 (.agg (Vf n1.m.a n1.m.b n1.m.c n1.m.d n1.m.e n1.m.f).toArray) (.agg (Vf n2.m.a n2.m.b n2.m.c n2.m.d n2.m.e n2.m.f).toArray)).run Tryz.prog wA=.ok true wA:=eqi_m g0 wA;have q1:(n1.op==n2.op)=true:=by rw [g1];simp
    have q2:(n1.hi==n2.hi)=true:=by rw [g2];simp
    have q3:(n1.cl==n2.cl)=true:=by rw [g3];simp
    have q4:(Op.equalIn 10000 48 (.agg (Vk n1.r.a n1.r.b n1.r.c n1.r.d).toArray) (.agg (Vk n2.r.a n2.r.b n2.r.c n2.r.d).toArray)).run Tryz.prog wA=.ok true wA:=eqi_r g4 wA;have q5:(n1.lk.k==n2.lk.k)=true:=by rw [g5];simp
    have q6:(n1.lk.W==n2.lk.W)=true:=by rw [g6];simp
    have q7:(n1.lk.H==n2.lk.H)=false:=by simpa using g7
    clear g0 g1 g2 g3 g4 g5 g6 g7;go_wp2_with (fail);go_ret;exact ⟨rfl,HB0.out.trans (HBB.out.mono HB0.out.size)⟩
   have g7:n1.lk.H=n2.lk.H:=Classical.byContradiction g7;by_cases g8:¬ n1.lk.p=n2.lk.p
   ·skip
    have q0:(Op.equalIn 10000 47 (.agg (Vf n1.m.a n1.m.b n1.m.c n1.m.d n1.m.e n1.m.f).toArray) (.agg (Vf n2.m.a n2.m.b n2.m.c n2.m.d n2.m.e n2.m.f).toArray)).run Tryz.prog wA=.ok true wA:=eqi_m g0 wA;have q1:(n1.op==n2.op)=true:=by rw [g1];simp
    have q2:(n1.hi==n2.hi)=true:=by rw [g2];simp
    have q3:(n1.cl==n2.cl)=true:=by rw [g3];simp
    have q4:(Op.equalIn 10000 48 (.agg (Vk n1.r.a n1.r.b n1.r.c n1.r.d).toArray) (.agg (Vk n2.r.a n2.r.b n2.r.c n2.r.d).toArray)).run Tryz.prog wA=.ok true wA:=eqi_r g4 wA;have q5:(n1.lk.k==n2.lk.k)=true:=by rw [g5];simp
    have q6:(n1.lk.W==n2.lk.W)=true:=by rw [g6];simp
    have q7:(n1.lk.H==n2.lk.H)=true:=by rw [g7];simp
    have q8:((n1.lk.p:Int)==(n2.lk.p:Int))=false:=by have:=g8;simp;omega
    clear g0 g1 g2 g3 g4 g5 g6 g7 g8;go_wp2_with (fail);go_ret;exact ⟨rfl,HB0.out.trans (HBB.out.mono HB0.out.size)⟩
   have g8:n1.lk.p=n2.lk.p:=Classical.byContradiction g8;by_cases g9:¬ n1.lk.iw=n2.lk.iw
   ·skip
    have q0:(Op.equalIn 10000 47 (.agg (Vf n1.m.a n1.m.b n1.m.c n1.m.d n1.m.e n1.m.f).toArray) (.agg (Vf n2.m.a n2.m.b n2.m.c n2.m.d n2.m.e n2.m.f).toArray)).run Tryz.prog wA=.ok true wA:=eqi_m g0 wA;have q1:(n1.op==n2.op)=true:=by rw [g1];simp
    have q2:(n1.hi==n2.hi)=true:=by rw [g2];simp
    have q3:(n1.cl==n2.cl)=true:=by rw [g3];simp
    have q4:(Op.equalIn 10000 48 (.agg (Vk n1.r.a n1.r.b n1.r.c n1.r.d).toArray) (.agg (Vk n2.r.a n2.r.b n2.r.c n2.r.d).toArray)).run Tryz.prog wA=.ok true wA:=eqi_r g4 wA;have q5:(n1.lk.k==n2.lk.k)=true:=by rw [g5];simp
    have q6:(n1.lk.W==n2.lk.W)=true:=by rw [g6];simp
    have q7:(n1.lk.H==n2.lk.H)=true:=by rw [g7];simp
    have q8:((n1.lk.p:Int)==(n2.lk.p:Int))=true:=by rw [g8];simp
    have q9:(n1.lk.iw==n2.lk.iw)=false:=by simpa using g9
    clear g0 g1 g2 g3 g4 g5 g6 g7 g8 g9;go_wp2_with (fail);go_ret;exact ⟨rfl,HB0.out.trans (HBB.out.mono HB0.out.size)⟩
   have g9:n1.lk.iw=n2.lk.iw:=Classical.byContradiction g9;by_cases g10:¬ n1.lk.ih=n2.lk.ih
   ·skip
    have q0:(Op.equalIn 10000 47 (.agg (Vf n1.m.a n1.m.b n1.m.c n1.m.d n1.m.e n1.m.f).toArray) (.agg (Vf n2.m.a n2.m.b n2.m.c n2.m.d n2.m.e n2.m.f).toArray)).run Tryz.prog wA=.ok true wA:=eqi_m g0 wA;have q1:(n1.op==n2.op)=true:=by rw [g1];simp
    have q2:(n1.hi==n2.hi)=true:=by rw [g2];simp
    have q3:(n1.cl==n2.cl)=true:=by rw [g3];simp
    have q4:(Op.equalIn 10000 48 (.agg (Vk n1.r.a n1.r.b n1.r.c n1.r.d).toArray) (.agg (Vk n2.r.a n2.r.b n2.r.c n2.r.d).toArray)).run Tryz.prog wA=.ok true wA:=eqi_r g4 wA;have q5:(n1.lk.k==n2.lk.k)=true:=by rw [g5];simp
    have q6:(n1.lk.W==n2.lk.W)=true:=by rw [g6];simp
    have q7:(n1.lk.H==n2.lk.H)=true:=by rw [g7];simp
    have q8:((n1.lk.p:Int)==(n2.lk.p:Int))=true:=by rw [g8];simp
    have q9:(n1.lk.iw==n2.lk.iw)=true:=by rw [g9];simp
    have q10:(n1.lk.ih==n2.lk.ih)=false:=by simpa using g10
    clear g0 g1 g2 g3 g4 g5 g6 g7 g8 g9 g10;go_wp2_with (fail);go_ret;exact ⟨rfl,HB0.out.trans (HBB.out.mono HB0.out.size)⟩
   have g10:n1.lk.ih=n2.lk.ih:=Classical.byContradiction g10;exact absurd (nd_eq g0 g1 g2 g3 g4 g5 g6 g7 g8 g9 g10 HLQ.out) HNE.out
theorem alike_any (n1 n2:Nd) (A1 A2:Option Addr) (c1 c2:Nat) (w:World) (h1:Row eW w A1 n1.lk.l) (h2:Row eW w A2 n2.lk.l) (hn:n1.lk.l.length<=1000000∧n2.lk.l.length<=1000000) :
  Calls Tryz.prog 17 #[.agg (n1.cs A1 c1).toArray,.agg (n2.cs A2 c2).toArray] w fun e w'=>e=.returned (.bool (eqN n1 n2))∧Below w.heap.size w w':=by
 by_cases h:n1=n2
 ·subst h;rw [eqN_self];exact alike_yes n1 A1 A2 c1 c2 w h1 h2 hn.1
 ·have e:eqN n1 n2=false:=by rw [← Bool.not_eq_true,eqN_iff];exact h
  rw [e];exact alike_no n1 n2 A1 A2 c1 c2 w h1 h2 hn h
end
section
open Go.RowKit Go.ChangeShapes Go.WideShapes Go.ChangeAt Go.Deep
theorem own:ownKnob Tryz.prog.godebug=none:=by kernel_rfl
theorem laidOut:laidOutB Tryz.prog=true:=by kernel_rfl
theorem add_none (b off j:Nat):(⟨b,off,none⟩:Addr).add j=⟨b,off+j,none⟩:=by unfold Addr.add;split<;>simp_all
theorem from_list {α:Type} {n:Nat} {p:Nat->α->Prop} (h:∀ i,i<n->∃ x,p i x):∃ l:List α,l.length=n∧∀ i (hi:i<l.length),p i l[i]:=by
 induction n with
 | zero=>exact ⟨[],rfl,fun i hi=>by simp at hi⟩
 | succ n ih=>
  obtain ⟨l,hl,hp⟩:=ih (fun i hi=>h i (by omega));obtain ⟨x,hx⟩:=h n (by omega);refine ⟨l++[x],by simp [hl],fun i hi=>?_⟩;rw [List.length_append,List.length_cons,List.length_nil] at hi;by_cases hin:i<l.length
  ·rw [List.getElem_append_left hin];exact hp i hin
  ·have:i=n:=by omega
   subst this
   have e:(l++[x])[i]'(by rw [List.length_append,List.length_cons,List.length_nil];omega)=x:=by
    rw [List.getElem_append_right (by omega)];simp [hl]
   rw [e];exact hx
end
section
open Go.RowKit Go.ChangeShapes Go.WideShapes Go.ChangeAt Go.Deep pxm imm
section
variable {H:Type} {enc:TypeId×Value->H} {w:World} {base:Nat} {held:Bool} {k:Nat}
theorem px_cell {x:Value} {y:DataW H×List MemPlace} (h:DataW.trod enc Tryz.prog w base (fun _=>true) held k 70 [x]=some y):∃ (A:Option Addr) (l:List Nat) (c:Nat),x=.slice A l.length c∧Row eW w A l∧l.length<=c∧c<=maxLen∧∀ z∈l,z<4294967296:=by
 rcases open_ints Tryz.underlying70 Tryz.underlying69 (by kernel_rfl) h with ⟨hcs,_⟩ | ⟨a,l,c,zs,hcs,_,hl,hm,hz,_,hcell,hwz⟩
 ·obtain rfl:=List.singleton_inj.1 hcs;exact ⟨none,[],0,rfl,Row.none_ rfl,nR,by unfold maxLen;omega,fun z hz=>by cases hz⟩
 ·obtain rfl:=List.singleton_inj.1 hcs;have hzl:zs.length=c:=by simpa using hz
  have hb:∀ z∈zs,0<=z∧z<=4294967295:=fun z hz=>bounds_u32 (hwz z hz);have hll:((zs.take l).map Int.toNat).length=l:=by simp;omega
  refine ⟨some a,(zs.take l).map Int.toNat,c,by rw [hll],fun hn=>?_,by rw [hll];exact hl,hm,fun z hz=>?_⟩
  ·rw [hll] at hn;obtain ⟨b,off,spot⟩:=a;have h0:=hcell 0 (by omega);have hspot:spot=none:=by simpa [Addr.add] using World.cell?_spot h0
   subst hspot;refine ⟨b,off,rfl,fun j hj=>?_⟩;rw [hll] at hj;have hc:=hcell j (by omega);rw [add_none] at hc;rw [hc];have hj':j<zs.length:=by omega
   have h3:=hb zs[j] (List.getElem_mem hj');simp only [List.getElem_map,List.getElem_take,List.getD_eq_getElem?_getD,List.getElem?_eq_getElem hj',Option.getD_some,eW,Option.some.injEq,Value.int.injEq,true_and];omega
  ·simp only [List.mem_map] at hz;obtain ⟨y,hy,rfl⟩:=hz;have:=hb y (List.mem_of_mem_take hy);omega
theorem map_cells {cs:List Value} {y:DataW H×List MemPlace} (hc:cs.length=6) (h:DataW.trod enc Tryz.prog w base (fun _=>true) held k 65 cs=some y):∃ m:Mp,cs=m.cs:=by
 obtain ⟨c0,c1,c2,c3,c4,c5,rfl⟩:∃ c0 c1 c2 c3 c4 c5,cs=[c0,c1,c2,c3,c4,c5]:=by
  match cs,hc with
  | [c0,c1,c2,c3,c4,c5],_=>exact ⟨_,_,_,_,_,_,rfl⟩
 obtain ⟨d,p⟩:=y;obtain ⟨ys,n',_,hy,hlen,hyl,hfl⟩:=DataW.trod_struct Tryz.underlying65 h;have hyl2:ys.length=6:=hyl;have z0:Tryz.prog.cellsOf 2=1:=by kernel_rfl
 have g0:DataW.trod enc Tryz.prog w base (fun _=>true) held n' 2 ((([c0,c1,c2,c3,c4,c5]:List Value).drop 0).take (Tryz.prog.cellsOf 2))=ys[0]?:=hfl 0 _ rfl;rw [z0] at g0;try simp only [List.drop_zero,List.take_succ_cons,List.take_zero] at g0
 rw [List.getElem?_eq_getElem (by omega)] at g0;have z1:Tryz.prog.cellsOf 2=1:=by kernel_rfl
 have g1:DataW.trod enc Tryz.prog w base (fun _=>true) held n' 2 ((([c0,c1,c2,c3,c4,c5]:List Value).drop 1).take (Tryz.prog.cellsOf 2))=ys[1]?:=hfl 1 _ rfl;rw [z1] at g1;try simp only [List.drop_succ_cons,List.drop_zero,List.take_succ_cons,List.take_zero] at g1
 rw [List.getElem?_eq_getElem (by omega)] at g1;have z2:Tryz.prog.cellsOf 2=1:=by kernel_rfl
 have g2:DataW.trod enc Tryz.prog w base (fun _=>true) held n' 2 ((([c0,c1,c2,c3,c4,c5]:List Value).drop 2).take (Tryz.prog.cellsOf 2))=ys[2]?:=hfl 2 _ rfl;rw [z2] at g2;try simp only [List.drop_succ_cons,List.drop_zero,List.take_succ_cons,List.take_zero] at g2
 rw [List.getElem?_eq_getElem (by omega)] at g2;have z3:Tryz.prog.cellsOf 2=1:=by kernel_rfl
 have g3:DataW.trod enc Tryz.prog w base (fun _=>true) held n' 2 ((([c0,c1,c2,c3,c4,c5]:List Value).drop 3).take (Tryz.prog.cellsOf 2))=ys[3]?:=hfl 3 _ rfl;rw [z3] at g3;try simp only [List.drop_succ_cons,List.drop_zero,List.take_succ_cons,List.take_zero] at g3
 rw [List.getElem?_eq_getElem (by omega)] at g3;have z4:Tryz.prog.cellsOf 2=1:=by kernel_rfl
 have g4:DataW.trod enc Tryz.prog w base (fun _=>true) held n' 2 ((([c0,c1,c2,c3,c4,c5]:List Value).drop 4).take (Tryz.prog.cellsOf 2))=ys[4]?:=hfl 4 _ rfl;rw [z4] at g4;try simp only [List.drop_succ_cons,List.drop_zero,List.take_succ_cons,List.take_zero] at g4
 rw [List.getElem?_eq_getElem (by omega)] at g4;have z5:Tryz.prog.cellsOf 2=1:=by kernel_rfl
 have g5:DataW.trod enc Tryz.prog w base (fun _=>true) held n' 2 ((([c0,c1,c2,c3,c4,c5]:List Value).drop 5).take (Tryz.prog.cellsOf 2))=ys[5]?:=hfl 5 _ rfl;rw [z5] at g5;try simp only [List.drop_succ_cons,List.drop_zero,List.take_succ_cons,List.take_zero] at g5
 rw [List.getElem?_eq_getElem (by omega)] at g5;obtain ⟨x0,e0,-,w0⟩:=DataW.trod_int Tryz.underlying2 g0;obtain rfl:=List.singleton_inj.1 e0;obtain ⟨x1,e1,-,w1⟩:=DataW.trod_int Tryz.underlying2 g1;obtain rfl:=List.singleton_inj.1 e1;obtain ⟨x2,e2,-,w2⟩:=DataW.trod_int Tryz.underlying2 g2;obtain rfl:=List.singleton_inj.1 e2;obtain ⟨x3,e3,-,w3⟩:=DataW.trod_int Tryz.underlying2 g3;obtain rfl:=List.singleton_inj.1 e3;obtain ⟨x4,e4,-,w4⟩:=DataW.trod_int Tryz.underlying2 g4;obtain rfl:=List.singleton_inj.1 e4;obtain ⟨x5,e5,-,w5⟩:=DataW.trod_int Tryz.underlying2 g5;obtain rfl:=List.singleton_inj.1 e5
 exact ⟨⟨x0,x1,x2,x3,x4,x5⟩,rfl⟩
theorem rect_cells {cs:List Value} {y:DataW H×List MemPlace} (hc:cs.length=4) (h:DataW.trod enc Tryz.prog w base (fun _=>true) held k 91 cs=some y):∃ m:Bx,cs=m.cs:=by
 obtain ⟨c0,c1,c2,c3,rfl⟩:∃ c0 c1 c2 c3,cs=[c0,c1,c2,c3]:=by
  match cs,hc with
  | [c0,c1,c2,c3],_=>exact ⟨_,_,_,_,rfl⟩
 obtain ⟨d,p⟩:=y;obtain ⟨ys,n',_,hy,hlen,hyl,hfl⟩:=DataW.trod_struct Tryz.underlying91 h;have hyl2:ys.length=4:=hyl;have z0:Tryz.prog.cellsOf 3=1:=by kernel_rfl
 have g0:DataW.trod enc Tryz.prog w base (fun _=>true) held n' 3 ((([c0,c1,c2,c3]:List Value).drop 0).take (Tryz.prog.cellsOf 3))=ys[0]?:=hfl 0 _ rfl;rw [z0] at g0;try simp only [List.drop_zero,List.take_succ_cons,List.take_zero] at g0
 rw [List.getElem?_eq_getElem (by omega)] at g0;have z1:Tryz.prog.cellsOf 3=1:=by kernel_rfl
 have g1:DataW.trod enc Tryz.prog w base (fun _=>true) held n' 3 ((([c0,c1,c2,c3]:List Value).drop 1).take (Tryz.prog.cellsOf 3))=ys[1]?:=hfl 1 _ rfl;rw [z1] at g1;try simp only [List.drop_succ_cons,List.drop_zero,List.take_succ_cons,List.take_zero] at g1
 rw [List.getElem?_eq_getElem (by omega)] at g1;have z2:Tryz.prog.cellsOf 3=1:=by kernel_rfl
 have g2:DataW.trod enc Tryz.prog w base (fun _=>true) held n' 3 ((([c0,c1,c2,c3]:List Value).drop 2).take (Tryz.prog.cellsOf 3))=ys[2]?:=hfl 2 _ rfl;rw [z2] at g2;try simp only [List.drop_succ_cons,List.drop_zero,List.take_succ_cons,List.take_zero] at g2
 rw [List.getElem?_eq_getElem (by omega)] at g2;have z3:Tryz.prog.cellsOf 3=1:=by kernel_rfl
 have g3:DataW.trod enc Tryz.prog w base (fun _=>true) held n' 3 ((([c0,c1,c2,c3]:List Value).drop 3).take (Tryz.prog.cellsOf 3))=ys[3]?:=hfl 3 _ rfl;rw [z3] at g3;try simp only [List.drop_succ_cons,List.drop_zero,List.take_succ_cons,List.take_zero] at g3
 rw [List.getElem?_eq_getElem (by omega)] at g3;obtain ⟨x0,e0,-,w0⟩:=DataW.trod_int Tryz.underlying3 g0;obtain rfl:=List.singleton_inj.1 e0;obtain ⟨x1,e1,-,w1⟩:=DataW.trod_int Tryz.underlying3 g1;obtain rfl:=List.singleton_inj.1 e1;obtain ⟨x2,e2,-,w2⟩:=DataW.trod_int Tryz.underlying3 g2;obtain rfl:=List.singleton_inj.1 e2;obtain ⟨x3,e3,-,w3⟩:=DataW.trod_int Tryz.underlying3 g3;obtain rfl:=List.singleton_inj.1 e3;exact ⟨⟨x0,x1,x2,x3⟩,rfl⟩
theorem image_cells {cs:List Value} {y:DataW H×List MemPlace} (hc:cs.length=3) (h:DataW.trod enc Tryz.prog w base (fun _=>true) held k 72 cs=some y):∃ (iw ih:Int) (A:Option Addr) (l:List Nat) (c:Nat),cs=(Vp iw ih A l.length c)∧Row eW w A l∧l.length<=c∧c<=maxLen∧∀ z∈l,z<4294967296:=by
 obtain ⟨c0,c1,c2,rfl⟩:∃ c0 c1 c2,cs=[c0,c1,c2]:=by
  match cs,hc with
  | [c0,c1,c2],_=>exact ⟨_,_,_,rfl⟩
 obtain ⟨d,p⟩:=y;obtain ⟨ys,n',_,hy,hlen,hyl,hfl⟩:=DataW.trod_struct Tryz.underlying72 h;have hyl2:ys.length=3:=hyl;have z0:Tryz.prog.cellsOf 3=1:=by kernel_rfl
 have g0:DataW.trod enc Tryz.prog w base (fun _=>true) held n' 3 ((([c0,c1,c2]:List Value).drop 0).take (Tryz.prog.cellsOf 3))=ys[0]?:=hfl 0 _ rfl;rw [z0] at g0;try simp only [List.drop_zero,List.take_succ_cons,List.take_zero] at g0
 rw [List.getElem?_eq_getElem (by omega)] at g0;have z1:Tryz.prog.cellsOf 3=1:=by kernel_rfl
 have g1:DataW.trod enc Tryz.prog w base (fun _=>true) held n' 3 ((([c0,c1,c2]:List Value).drop 1).take (Tryz.prog.cellsOf 3))=ys[1]?:=hfl 1 _ rfl;rw [z1] at g1;try simp only [List.drop_succ_cons,List.drop_zero,List.take_succ_cons,List.take_zero] at g1
 rw [List.getElem?_eq_getElem (by omega)] at g1;have z2:Tryz.prog.cellsOf 70=1:=by kernel_rfl
 have g2:DataW.trod enc Tryz.prog w base (fun _=>true) held n' 70 ((([c0,c1,c2]:List Value).drop 2).take (Tryz.prog.cellsOf 70))=ys[2]?:=hfl 2 _ rfl;rw [z2] at g2;try simp only [List.drop_succ_cons,List.drop_zero,List.take_succ_cons,List.take_zero] at g2
 rw [List.getElem?_eq_getElem (by omega)] at g2;obtain ⟨x0,e0,-,w0⟩:=DataW.trod_int Tryz.underlying3 g0;obtain rfl:=List.singleton_inj.1 e0;obtain ⟨x1,e1,-,w1⟩:=DataW.trod_int Tryz.underlying3 g1;obtain rfl:=List.singleton_inj.1 e1;obtain ⟨A,l,c,rfl,r1,r2,r3,r4⟩:=px_cell g2;exact ⟨x0,x1,A,l,c,rfl,r1,r2,r3,r4⟩
theorem look_cells {cs:List Value} {y:DataW H×List MemPlace} (hc:cs.length=7) (h:DataW.trod enc Tryz.prog w base (fun _=>true) held k 74 cs=some y):∃ (kk WW HH:Int) (pp:Nat) (iw ih:Int) (A:Option Addr) (l:List Nat) (c:Nat),cs=(Vj kk WW HH pp iw ih A l.length c)∧pp<4294967296∧Row eW w A l∧l.length<=c∧c<=maxLen∧∀ z∈l,z<4294967296:=by
 obtain ⟨c0,c1,c2,c3,c4,c5,c6,rfl⟩:∃ c0 c1 c2 c3 c4 c5 c6,cs=[c0,c1,c2,c3,c4,c5,c6]:=by
  match cs,hc with
  | [c0,c1,c2,c3,c4,c5,c6],_=>exact ⟨_,_,_,_,_,_,_,rfl⟩
 obtain ⟨d,p⟩:=y;obtain ⟨ys,n',_,hy,hlen,hyl,hfl⟩:=DataW.trod_struct Tryz.underlying74 h;have hyl2:ys.length=5:=hyl;have z0:Tryz.prog.cellsOf 3=1:=by kernel_rfl
 have g0:DataW.trod enc Tryz.prog w base (fun _=>true) held n' 3 ((([c0,c1,c2,c3,c4,c5,c6]:List Value).drop 0).take (Tryz.prog.cellsOf 3))=ys[0]?:=hfl 0 _ rfl;rw [z0] at g0;try simp only [List.drop_zero,List.take_succ_cons,List.take_zero] at g0
 rw [List.getElem?_eq_getElem (by omega)] at g0;have z1:Tryz.prog.cellsOf 3=1:=by kernel_rfl
 have g1:DataW.trod enc Tryz.prog w base (fun _=>true) held n' 3 ((([c0,c1,c2,c3,c4,c5,c6]:List Value).drop 1).take (Tryz.prog.cellsOf 3))=ys[1]?:=hfl 1 _ rfl;rw [z1] at g1;try simp only [List.drop_succ_cons,List.drop_zero,List.take_succ_cons,List.take_zero] at g1
 rw [List.getElem?_eq_getElem (by omega)] at g1;have z2:Tryz.prog.cellsOf 3=1:=by kernel_rfl
 have g2:DataW.trod enc Tryz.prog w base (fun _=>true) held n' 3 ((([c0,c1,c2,c3,c4,c5,c6]:List Value).drop 2).take (Tryz.prog.cellsOf 3))=ys[2]?:=hfl 2 _ rfl;rw [z2] at g2;try simp only [List.drop_succ_cons,List.drop_zero,List.take_succ_cons,List.take_zero] at g2
 rw [List.getElem?_eq_getElem (by omega)] at g2;have z3:Tryz.prog.cellsOf 69=1:=by kernel_rfl
 have g3:DataW.trod enc Tryz.prog w base (fun _=>true) held n' 69 ((([c0,c1,c2,c3,c4,c5,c6]:List Value).drop 3).take (Tryz.prog.cellsOf 69))=ys[3]?:=hfl 3 _ rfl;rw [z3] at g3;try simp only [List.drop_succ_cons,List.drop_zero,List.take_succ_cons,List.take_zero] at g3
 rw [List.getElem?_eq_getElem (by omega)] at g3;have z4:Tryz.prog.cellsOf 72=3:=by kernel_rfl
 have g4:DataW.trod enc Tryz.prog w base (fun _=>true) held n' 72 ((([c0,c1,c2,c3,c4,c5,c6]:List Value).drop 4).take (Tryz.prog.cellsOf 72))=ys[4]?:=hfl 4 _ rfl;rw [z4] at g4;try simp only [List.drop_succ_cons,List.drop_zero,List.take_succ_cons,List.take_zero] at g4
 rw [List.getElem?_eq_getElem (by omega)] at g4;obtain ⟨x0,e0,-,w0⟩:=DataW.trod_int Tryz.underlying3 g0;obtain rfl:=List.singleton_inj.1 e0;obtain ⟨x1,e1,-,w1⟩:=DataW.trod_int Tryz.underlying3 g1;obtain rfl:=List.singleton_inj.1 e1;obtain ⟨x2,e2,-,w2⟩:=DataW.trod_int Tryz.underlying3 g2;obtain rfl:=List.singleton_inj.1 e2;obtain ⟨x3,e3,-,w3⟩:=DataW.trod_int Tryz.underlying69 g3;obtain rfl:=List.singleton_inj.1 e3;have b3:=bounds_u32 w3;obtain ⟨iw,ih,A,l,c,ei,r1,r2,r3,r4⟩:=image_cells rfl g4;simp only [List.cons.injEq,and_true] at ei;obtain ⟨rfl,rfl,rfl⟩:=ei
 obtain ⟨pp,rfl⟩:∃ pp:Nat,x3=(pp:Nat):=⟨x3.toNat,by omega⟩
 exact ⟨x0,x1,x2,pp,iw,ih,A,l,c,rfl,by omega,r1,r2,r3,r4⟩
theorem op_cells {cs:List Value} {y:DataW H×List MemPlace} (hc:cs.length=23) (h:DataW.trod enc Tryz.prog w base (fun _=>true) held k 99 cs=some y):∃ q:OpR,cs=q.cs∧Row eW w q.A q.o.lk.l∧OpRaw q.o:=by
 obtain ⟨c0,c1,c2,c3,c4,c5,c6,c7,c8,c9,c10,c11,c12,c13,c14,c15,c16,c17,c18,c19,c20,c21,c22,rfl⟩:∃ c0 c1 c2 c3 c4 c5 c6 c7 c8 c9 c10 c11 c12 c13 c14 c15 c16 c17 c18 c19 c20 c21 c22,cs=[c0,c1,c2,c3,c4,c5,c6,c7,c8,c9,c10,c11,c12,c13,c14,c15,c16,c17,c18,c19,c20,c21,c22]:=by
  match cs,hc with
  | [c0,c1,c2,c3,c4,c5,c6,c7,c8,c9,c10,c11,c12,c13,c14,c15,c16,c17,c18,c19,c20,c21,c22],_=>exact ⟨_,_,_,_,_,_,_,_,_,_,_,_,_,_,_,_,_,_,_,_,_,_,_,rfl⟩
 obtain ⟨d,p⟩:=y;obtain ⟨ys,n',_,hy,hlen,hyl,hfl⟩:=DataW.trod_struct Tryz.underlying99 h;have hyl2:ys.length=9:=hyl;have z0:Tryz.prog.cellsOf 3=1:=by kernel_rfl
 have g0:DataW.trod enc Tryz.prog w base (fun _=>true) held n' 3 ((([c0,c1,c2,c3,c4,c5,c6,c7,c8,c9,c10,c11,c12,c13,c14,c15,c16,c17,c18,c19,c20,c21,c22]:List Value).drop 0).take (Tryz.prog.cellsOf 3))=ys[0]?:=hfl 0 _ rfl;rw [z0] at g0;try simp only [List.drop_zero,List.take_succ_cons,List.take_zero] at g0
 rw [List.getElem?_eq_getElem (by omega)] at g0;have z1:Tryz.prog.cellsOf 3=1:=by kernel_rfl
 have g1:DataW.trod enc Tryz.prog w base (fun _=>true) held n' 3 ((([c0,c1,c2,c3,c4,c5,c6,c7,c8,c9,c10,c11,c12,c13,c14,c15,c16,c17,c18,c19,c20,c21,c22]:List Value).drop 1).take (Tryz.prog.cellsOf 3))=ys[1]?:=hfl 1 _ rfl;rw [z1] at g1;try simp only [List.drop_succ_cons,List.drop_zero,List.take_succ_cons,List.take_zero] at g1
 rw [List.getElem?_eq_getElem (by omega)] at g1;have z2:Tryz.prog.cellsOf 3=1:=by kernel_rfl
 have g2:DataW.trod enc Tryz.prog w base (fun _=>true) held n' 3 ((([c0,c1,c2,c3,c4,c5,c6,c7,c8,c9,c10,c11,c12,c13,c14,c15,c16,c17,c18,c19,c20,c21,c22]:List Value).drop 2).take (Tryz.prog.cellsOf 3))=ys[2]?:=hfl 2 _ rfl;rw [z2] at g2;try simp only [List.drop_succ_cons,List.drop_zero,List.take_succ_cons,List.take_zero] at g2
 rw [List.getElem?_eq_getElem (by omega)] at g2;have z3:Tryz.prog.cellsOf 3=1:=by kernel_rfl
 have g3:DataW.trod enc Tryz.prog w base (fun _=>true) held n' 3 ((([c0,c1,c2,c3,c4,c5,c6,c7,c8,c9,c10,c11,c12,c13,c14,c15,c16,c17,c18,c19,c20,c21,c22]:List Value).drop 3).take (Tryz.prog.cellsOf 3))=ys[3]?:=hfl 3 _ rfl;rw [z3] at g3;try simp only [List.drop_succ_cons,List.drop_zero,List.take_succ_cons,List.take_zero] at g3
 rw [List.getElem?_eq_getElem (by omega)] at g3;have z4:Tryz.prog.cellsOf 65=6:=by kernel_rfl
 have g4:DataW.trod enc Tryz.prog w base (fun _=>true) held n' 65 ((([c0,c1,c2,c3,c4,c5,c6,c7,c8,c9,c10,c11,c12,c13,c14,c15,c16,c17,c18,c19,c20,c21,c22]:List Value).drop 4).take (Tryz.prog.cellsOf 65))=ys[4]?:=hfl 4 _ rfl;rw [z4] at g4;try simp only [List.drop_succ_cons,List.drop_zero,List.take_succ_cons,List.take_zero] at g4
 rw [List.getElem?_eq_getElem (by omega)] at g4;have z5:Tryz.prog.cellsOf 91=4:=by kernel_rfl
 have g5:DataW.trod enc Tryz.prog w base (fun _=>true) held n' 91 ((([c0,c1,c2,c3,c4,c5,c6,c7,c8,c9,c10,c11,c12,c13,c14,c15,c16,c17,c18,c19,c20,c21,c22]:List Value).drop 10).take (Tryz.prog.cellsOf 91))=ys[5]?:=hfl 5 _ rfl;rw [z5] at g5;try simp only [List.drop_succ_cons,List.drop_zero,List.take_succ_cons,List.take_zero] at g5
 rw [List.getElem?_eq_getElem (by omega)] at g5;have z6:Tryz.prog.cellsOf 4=1:=by kernel_rfl
 have g6:DataW.trod enc Tryz.prog w base (fun _=>true) held n' 4 ((([c0,c1,c2,c3,c4,c5,c6,c7,c8,c9,c10,c11,c12,c13,c14,c15,c16,c17,c18,c19,c20,c21,c22]:List Value).drop 14).take (Tryz.prog.cellsOf 4))=ys[6]?:=hfl 6 _ rfl;rw [z6] at g6;try simp only [List.drop_succ_cons,List.drop_zero,List.take_succ_cons,List.take_zero] at g6
 rw [List.getElem?_eq_getElem (by omega)] at g6;have z7:Tryz.prog.cellsOf 3=1:=by kernel_rfl
 have g7:DataW.trod enc Tryz.prog w base (fun _=>true) held n' 3 ((([c0,c1,c2,c3,c4,c5,c6,c7,c8,c9,c10,c11,c12,c13,c14,c15,c16,c17,c18,c19,c20,c21,c22]:List Value).drop 15).take (Tryz.prog.cellsOf 3))=ys[7]?:=hfl 7 _ rfl;rw [z7] at g7;try simp only [List.drop_succ_cons,List.drop_zero,List.take_succ_cons,List.take_zero] at g7
 rw [List.getElem?_eq_getElem (by omega)] at g7;have z8:Tryz.prog.cellsOf 74=7:=by kernel_rfl
 have g8:DataW.trod enc Tryz.prog w base (fun _=>true) held n' 74 ((([c0,c1,c2,c3,c4,c5,c6,c7,c8,c9,c10,c11,c12,c13,c14,c15,c16,c17,c18,c19,c20,c21,c22]:List Value).drop 16).take (Tryz.prog.cellsOf 74))=ys[8]?:=hfl 8 _ rfl;rw [z8] at g8;try simp only [List.drop_succ_cons,List.drop_zero,List.take_succ_cons,List.take_zero] at g8
 rw [List.getElem?_eq_getElem (by omega)] at g8;obtain ⟨x0,e0,-,w0⟩:=DataW.trod_int Tryz.underlying3 g0;obtain rfl:=List.singleton_inj.1 e0;obtain ⟨x1,e1,-,w1⟩:=DataW.trod_int Tryz.underlying3 g1;obtain rfl:=List.singleton_inj.1 e1;obtain ⟨x2,e2,-,w2⟩:=DataW.trod_int Tryz.underlying3 g2;obtain rfl:=List.singleton_inj.1 e2;obtain ⟨x3,e3,-,w3⟩:=DataW.trod_int Tryz.underlying3 g3;obtain rfl:=List.singleton_inj.1 e3;obtain ⟨x7,e7,-,w7⟩:=DataW.trod_int Tryz.underlying3 g7;obtain rfl:=List.singleton_inj.1 e7;obtain ⟨m,em⟩:=map_cells rfl g4;obtain ⟨r,er⟩:=rect_cells rfl g5
 obtain ⟨x6,e6,-⟩:=DataW.trod_bool Tryz.underlying4 g6;obtain rfl:=List.singleton_inj.1 e6;obtain ⟨kk,WW,HH,pp,iw,ih,A,l,c,el,hp,r1,r2,r3,r4⟩:=look_cells rfl g8;unfold Mp.cs at em;unfold Bx.cs at er;simp only [List.cons.injEq,and_true] at em er el;obtain ⟨rfl,rfl,rfl,rfl,rfl,rfl⟩:=em;obtain ⟨rfl,rfl,rfl,rfl⟩:=er;obtain ⟨rfl,rfl,rfl,rfl,rfl,rfl,rfl⟩:=el;exact ⟨⟨⟨x0,x1,x2,x3,m,r,x6,x7,⟨kk,WW,HH,pp,iw,ih,l⟩⟩,A,c⟩,rfl,r1,⟨bounds_i64 w1,bounds_i64 w2,hp,r4,Nat.le_trans r2 r3⟩⟩
def Held (d:DataW H) (n:Nat):Prop:=n=0∨∃ e s,d=.slice e s∧n<=e.length+s.length
theorem sops_cell {x:Value} {y:DataW H×List MemPlace} (h:DataW.trod enc Tryz.prog w base (fun _=>true) held k 38 [x]=some y):∃ (A:Option Addr) (l:List OpR) (cc:Nat),x=.slice A l.length cc∧OpsR w A l∧l.length<=maxLen∧Held y.1 l.length:=by
 rcases open_slice Tryz.underlying38 h with ⟨hcs,_⟩ | ⟨⟨b,off,spot⟩,n,c,m,k',D,Pl,hcs,_,hl,hm,hmm,hy,hi⟩
 ·obtain rfl:=List.singleton_inj.1 hcs;exact ⟨none,[],0,rfl,⟨fun h=>absurd h (by simp),fun z hz=>by cases hz⟩,by simp,.inl rfl⟩
 ·obtain rfl:=List.singleton_inj.1 hcs;simp only [if_true] at hmm;subst hmm;have hC:Tryz.prog.cellsOf 99=23:=by kernel_rfl
  have hsp:0<n->spot=none:=fun h0=>by
   obtain ⟨cs',hc,_⟩:=hi 0 (by omega);rw [hC] at hc;obtain ⟨_,hcl,hat⟩:=World.cells?_some hc;have a0:=hat 0 (by omega);rw [List.getElem?_eq_getElem (by omega)] at a0
   simpa [Addr.add] using World.cell?_spot a0
  have one:∀ i,i<n->∃ q:OpR,(∀ j v,q.cs[j]?=some v->w.cell? ⟨b,off+i*23+j,none⟩=some v)∧Row eW w q.A q.o.lk.l∧OpRaw q.o:=fun i hin=>by
   obtain ⟨cs',hc,ht⟩:=hi i (by omega);rw [hC] at hc;obtain ⟨_,hcl,hat⟩:=World.cells?_some hc;obtain ⟨q,rfl,hr,ho⟩:=op_cells hcl ht;have hspot:spot=none:=hsp (by omega);subst hspot;refine ⟨q,fun j v hj=>?_,hr,ho⟩
   have hlt:j<23:=by
    have:=(List.getElem?_eq_some_iff.1 hj).1
    rwa [OpR.cs_len] at this
   have a0:=hat j hlt;rw [hj,add_none,add_none] at a0;exact a0
  obtain ⟨xs,hxl,hxs⟩:=from_list one;refine ⟨some ⟨b,off,spot⟩,xs,m,by rw [hxl],⟨fun hn=>⟨b,off,by rw [hsp (by omega)],fun j hj i v hv=>(hxs j hj).1 i v hv⟩,fun q hq=>?_⟩,by omega,.inr ⟨_,_,by rw [hy],by simp;omega⟩⟩;obtain ⟨j,hj,rfl⟩:=List.mem_iff_getElem.1 hq;exact (hxs j hj).2
structure TrRaw (w:World) (A:Option Addr) (L:List OpL):Prop where
 row:SRow 1 OpL.cs w A L
 ops:∀ q∈L,OpsR w q.A q.l
theorem sopss_cell {x:Value} {y:DataW H×List MemPlace} (h:DataW.trod enc Tryz.prog w base (fun _=>true) held k 22 [x]=some y):∃ (A:Option Addr) (L:List OpL) (cc:Nat),x=.slice A L.length cc∧TrRaw w A L∧L.length<=maxLen ∧
  (L=[]∨∃ e s,y.1=.slice e s∧L.length<=e.length+s.length∧∀ q∈L,∃ d∈e,Held d q.l.length):=by
 rcases open_slice Tryz.underlying22 h with ⟨hcs,_⟩ | ⟨⟨b,off,spot⟩,n,c,m,k',D,Pl,hcs,_,hl,hm,hmm,hy,hi⟩
 ·obtain rfl:=List.singleton_inj.1 hcs;exact ⟨none,[],0,rfl,⟨fun h=>absurd h (by simp),fun z hz=>by cases hz⟩,by simp,.inl rfl⟩
 ·obtain rfl:=List.singleton_inj.1 hcs;simp only [if_true] at hmm;subst hmm;have hC:Tryz.prog.cellsOf 38=1:=by kernel_rfl
  have hsp:0<n->spot=none:=fun h0=>by
   obtain ⟨cs',hc,_⟩:=hi 0 (by omega);rw [hC] at hc;obtain ⟨_,hcl,hat⟩:=World.cells?_some hc;have a0:=hat 0 (by omega);rw [List.getElem?_eq_getElem (by omega)] at a0
   simpa [Addr.add] using World.cell?_spot a0
  have one:∀ i,i<n->∃ q:OpL,w.cell? ⟨b,off+i,none⟩=some (.slice q.A q.l.length q.c)∧OpsR w q.A q.l∧Held (D i) q.l.length:=fun i hin=>by
   obtain ⟨cs',hc,ht⟩:=hi i (by omega);rw [hC] at hc;obtain ⟨_,hcl,hat⟩:=World.cells?_some hc
   obtain ⟨c0,rfl⟩:∃ c0,cs'=[c0]:=by
    match cs',hcl with
    | [c0],_=>exact ⟨_,rfl⟩
   obtain ⟨A,l,cc,rfl,ho,_,hh⟩:=sops_cell ht;have hspot:spot=none:=hsp (by omega);subst hspot;have a0:=hat 0 (by omega);rw [add_none,add_none] at a0;simp only [Nat.add_zero,Nat.mul_one] at a0;exact ⟨⟨A,cc,l⟩,a0,ho,hh⟩
  obtain ⟨xs,hxl,hxs⟩:=from_list one;refine ⟨some ⟨b,off,spot⟩,xs,m,by rw [hxl],⟨fun hn=>⟨b,off,by rw [hsp (by omega)],fun j hj i v hv=>?_⟩,fun q hq=>?_⟩,by omega,.inr ⟨_,_,by rw [hy],by simp;omega,fun q hq=>?_⟩⟩
  ·have hi0:i=0:=by
    have:=(List.getElem?_eq_some_iff.1 hv).1;rw [OpL.cs_len] at this;omega
   subst hi0
   have e:(.slice xs[j].A xs[j].l.length xs[j].c:Value)=v:=by
    have h2:=hv;unfold OpL.cs at h2
    simpa using h2
   rw [← e]
   simpa using (hxs j hj).1
  ·obtain ⟨j,hj,rfl⟩:=List.mem_iff_getElem.1 hq;exact (hxs j hj).2.1
  ·obtain ⟨j,hj,rfl⟩:=List.mem_iff_getElem.1 hq;exact ⟨D j,List.mem_map.2 ⟨j,by simp;omega,rfl⟩,(hxs j hj).2.2⟩
end
section
variable {H:Type} {enc:TypeId×Value->H} {w:World} {base:Nat} {held:Bool} {a:Option Addr} {n c:Nat} {d:DataW H} {p:List MemPlace}
theorem sopss_of (h:DataW.Trod enc Tryz.prog w base (fun _=>true) held 22 (.slice a n c) d p):∃ L:List OpL,n=L.length∧TrRaw w a L∧L.length<=maxLen ∧
  (L=[]∨∃ e s,d=.slice e s∧L.length<=e.length+s.length∧∀ q∈L,∃ d'∈e,Held d' q.l.length):=by
 obtain ⟨fuel,hf⟩:=h;obtain ⟨A,l,cc,e,h1,h2,h3⟩:=sopss_cell hf
 injection e with e1 e2 e3
 subst e1;exact ⟨l,e2,h1,h2,h3⟩
end
section
variable {H:Type} {enc:TypeId×Value->H} {w:World} {base b0:Nat} {held:Bool} {r:Reach} {v:Value} {d:DataW H} {p:List MemPlace}
end
section
variable {H:Type} {ts:List TypeId} {ds:List (DataW H)}
theorem weightsAll_mem {e:TypeId}:∀ {l:List (DataW H)} {d:DataW H},d∈l->∀ n∈d.weights Tryz.prog e,n∈DataW.weightsAll Tryz.prog e l
 | d'::r,d,hd,n,hn=>by
  simp only [DataW.weightsAll,List.mem_append];rcases List.mem_cons.1 hd with rfl | h
  ·exact Or.inl hn
  ·exact Or.inr (weightsAll_mem h n hn)
theorem sopss_few (h:(DataW.weightsEach Tryz.prog ts ds).all (·<=reachBytes)=true) {j:Nat} {d:DataW H} {w:World} {A:Option Addr} {L:List OpL} (ht:ts[j]?=some 22) (hd:ds[j]?=some d) (hr:TrRaw w A L) (hm:L.length<=maxLen)
  (hh:L=[]∨∃ e s,d=.slice e s∧L.length<=e.length+s.length∧∀ q∈L,∃ d'∈e,Held d' q.l.length):TrAt w A L∧L.length*24<=140737488351232:=by
 have hm2:L.length<=9223372036854775807:=by unfold maxLen at hm;omega
 rcases hh with rfl | ⟨e,s,rfl,hle,hq⟩
 ·exact ⟨⟨hr.row,hr.ops,(fun q hq=>by cases hq),hm2⟩,by simp⟩
 have h1:=sized_slice h ht hd Tryz.underlying22;rw [show Tryz.prog.bytesOf 38=24 from by kernel_rfl,show reachBytes=140737488351232 from rfl] at h1;refine ⟨⟨hr.row,hr.ops,fun q hq'=>?_,hm2⟩,by omega⟩;obtain ⟨d',hd',hh⟩:=hq q hq';rcases hh with h0 | ⟨e',s',rfl,hle'⟩
 ·omega
 have h2:(e'.length+s'.length)*Tryz.prog.bytesOf 99<=reachBytes:=by
  refine of_decide_eq_true (List.all_eq_true.1 h _ (DataW.weights_mem_each ht hd _ ?_));simp only [DataW.weights,Tryz.underlying22,List.mem_cons,List.mem_append];exact Or.inr (Or.inl (weightsAll_mem hd' _ (by simp [DataW.weights,Tryz.underlying38])))
 rw [show Tryz.prog.bytesOf 99=200 from by kernel_rfl,show reachBytes=140737488351232 from rfl] at h2;omega
end
end
section
open Go.RowKit pxm imm trm Go.Maps
theorem build_pl (g:Nat) (a b M:Int) (A:Option Addr) (n c m:Nat) (w:World):(Instr.build tPl #[(0,.pointer (some ⟨g,0,none⟩)),(1,.agg (Vc a b M A n c m).toArray)]).run Tryz.prog w=.ok (.agg (Vm g a b M A n c m).toArray) w:=by kernel_rfl
structure QJ (w0:World) (p g b m:Nat) (za zb zc:Int) (s:Sh) (x y:PSc) (d l:Bool) (v:Value) (w:World):Prop where
 no:d=false->PlS w0 p g b m s za zb zc x w
 yes:d=true->∃ s',PlS w0 p g b m s' za zb zc y w
 ld:l=true->DocAt w v za zb zc y
section
variable {w0 w w':World} {p g b m:Nat} {za zb zc:Int} {s:Sh} {x y:PSc} {d l:Bool} {v u:Value}
theorem QJ.below (h:QJ w0 p g b m za zb zc s x y d l v w) (hb:Below w.heap.size w w'):QJ w0 p g b m za zb zc s x y d l v w':=
 ⟨fun e=>(h.no e).below hb,fun e=>by
  obtain ⟨s',h1⟩:=h.yes e
  exact ⟨s',h1.below hb⟩,fun e=>(h.ld e).below hb⟩
theorem QJ.slots (h:QJ w0 p g b m za zb zc s x y d l v w) (e:u=v):QJ w0 p g b m za zb zc s x y d l u w:=by rw [e];exact h
theorem QJ.cells (h:QJ w0 p g b m za zb zc s x y d l v w) (hd:d=true):∃ A c dm,BlkT w p (Vm g za zb zc A y.t.length c dm) tPl∧DocAt w (.agg (Vc za zb zc A y.t.length c dm).toArray) za zb zc y:=by
 obtain ⟨s',h1⟩:=h.yes hd;obtain ⟨A,c,dm,h2,h3,h4⟩:=h1.blk;exact ⟨A,c,dm,h2,DBlk.doc h3 h4⟩
theorem QJ.load (h:QJ w0 p g b m za zb zc s x y d false v w) (hd:DocAt w u za zb zc y):QJ w0 p g b m za zb zc s x y d true u w:=⟨h.no,h.yes,fun _=>hd⟩
end
theorem PlS.bel {w0 w:World} {p g b m:Nat} {s:Sh} {za zb zc:Int} {x:PSc} (h:PlS w0 p g b m s za zb zc x w):Below w0.heap.size w0 w:=h.my.bel
end
end Go.Proofs.YthoildbfghfhpaaGreat
