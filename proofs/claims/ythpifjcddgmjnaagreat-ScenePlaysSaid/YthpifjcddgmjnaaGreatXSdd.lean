import Derived.Test.YthpifjcddgmjnaaGreatXScj
set_option maxHeartbeats 16000000
set_option maxRecDepth 100000
namespace Go.Proofs.YthpifjcddgmjnaaGreat
section
open Go.RowKit pxm imm trm Go.Maps
theorem es_ge {es:LV} {t:T} (ok:Ok t) (h:∀ i,has t i=true->omap.look es i≠none):t.length+1<=es.length:=by
 have hn:(0::ids t).Nodup:=List.nodup_cons.2 ⟨fun e=>ok.ne0 e rfl,ok.nd⟩
 have:=len_of_sub (m:=es.map (·.1)) hn fun i hi=>by
  have hh:has t i=true:=has_iff.2 (by rcases List.mem_cons.1 hi with e | e;exact .inl e;exact .inr e);cases hl:omap.look es i with
  | none=>exact absurd hl (h i hh)
  | some v=>exact List.mem_map.2 ⟨(i,v),omap.look_mem hl,rfl⟩
 rwa [List.length_cons,ids_len,List.length_map] at this
theorem SceneAt.es_len {es:LV} {t:T} (ok:Ok t) (hr:omap.Rises lt es) (h1:∀ i,omap.look es i≠none->has t i=true) (h2:∀ i,has t i=true->∃ v,omap.look es i=some v):es.length=t.length+1:=
 Nat.le_antisymm (es_le hr h1) (es_ge ok fun i hi=>by obtain ⟨v,e⟩:=h2 i hi;rw [e];simp)
section
variable {w:World} {g b m:Nat} {s:Sh} {Z:ZZ} {x:PSc} {g2 b2 m2:Nat} {s2:Sh} {Z2:ZZ} {y:PSc}
theorem mequal (h:SceneAt w g b m s Z x) (h2:SceneAt w g2 b2 m2 s2 Z2 y) (hfx:∀ i,Fit (x.nd i)) (hfy:∀ i,Fit (y.nd i)) (hal:∀ q,kids x.t q=kids y.t q) :
  Calls Tryz.prog 68 #[.map (some m),.map (some m2),.func (.func 69) #[] #[]] w fun e w'=>∃ r,e=.returned (.bool r)∧(r=true↔∀ i,has x.t i=true->eqN (x.nd i) (y.nd i)=true)∧Below w.heap.size w w':=by
 obtain ⟨es,hm,h11,h12⟩:=h.map;obtain ⟨fs,hm2,h21,h22⟩:=h2.map
 have hlen:fs.length=es.length:=by
  rw [SceneAt.es_len h.tree.ok hm.rises h11 (fun i hi=>(h12 i hi).imp fun v h=>h.1),SceneAt.es_len h2.tree.ok hm2.rises h21 (fun i hi=>(h22 i hi).imp fun v h=>h.1),alike_len h.tree.ok h2.tree.ok hal]
 have HS:=Hd h;have HS2:=Hd h2;have HFX:=Hd hfx;have HFY:=Hd hfy;have HAL:=Hd hal;have HM:=Hd (And.intro hm (And.intro h11 h12));have HM2:=Hd hm2;have hl1:=fun ty=>hm.len und_places ty;have hl2:=fun ty=>hm2.len und_places ty;rw [hlen] at hl2;have hown:=hm.own;have hsm:∀ args w,(callFunc 69 args).run Tryz.prog w=.ok (.enter 69 args) w:=enters_of Tryz.func69 (by kernel_rfl) rfl;clear h h2 hfx hfy hal hm hm2 h11 h12 h21 h22 hlen;go_enter Tryz.func68,Tryz.ntmps68
 go_wp2_with (at_range;refine wpList_range_own _ rfl _ tPlaces rfl 3 tPlaced keyedI und_places anyE m es.length (mapV es) rfl hown ?_;intro w0 hrg0 hg0 hs0)
 go_frame
 have hb0:Below w.heap.size w w0:=⟨hg0.os,hg0.tape,hg0.output,hg0.size,fun k hk=>hg0.block k hk (by simp)⟩
 have HB0:=Hd hb0;have HRG:=Hd hrg0;clear hrg0 hg0 hs0 hb0 hl1 hl2 hown
 go_loopw [] (fun wr=>∃ (left:Lit->Bool) (cnt:Nat),Hid (wr.ranges Tryz.prog 3 anyE m w.heap.size es.length (mapV es) left cnt)∧Hid (Below w.heap.size w wr)∧Hid (∀ i,has x.t i=true->left (.int .i64 i)=false->eqN (x.nd i) (y.nd i)=true)) (fun wr=>wr.rangeLeft m w.heap.size)
 case atStart=>
  refine ⟨_,_,HRG.out,HB0.out,fun i hi hf=>?_⟩;obtain ⟨v,hv,-⟩:=HM.out.2.2 i hi;rw [has_mapV_of hv] at hf;cases hf
 case round=>
  obtain ⟨left,cnt,hrg,hbw,hso⟩:=hrel;generalize wr=wA at *;clear HRG HB0;go_wp2_with (at_next;refine wpList_next_ranges _ rfl _ rfl 3 keyedI anyE (Value.int .i64) id (fun key kl hk=>by obtain ⟨x,hx,_⟩:=Maps.keyOf_int_inv Tryz.underlying3 hk;exact ⟨x,hx⟩) (fun v y hv=>⟨v,rfl⟩) m w.heap.size es.length (mapV es) left cnt rfl hrg.out ?_ ?_)
  ·intro _ hl0;have HL0:=Hd hl0;clear hl0;go_wp2_with (fail);go_ret;exact ⟨true,rfl,⟨fun _ i hi=>hso.out i hi (HL0.out _),fun _=>rfl⟩,hbw.out⟩
  ·intro x2 c2 kl yd yp w2 cnt1 hkey hlk hv hat hrg1 hlt hg1 hs1 hen;obtain ⟨rfl,hx64,hlb⟩:=cameV hkey hv hat;have hhx:has x.t x2=true:=HM.out.2.1 x2 (by rw [hlb];simp);have hhy:has y.t x2=true:=by rw [← alike_has HAL.out];exact hhx
   obtain ⟨n1,A1,c1,u1,hc2,hr1,hn1⟩:∃ n1 A1 c1 u1,c2=.agg (plcs n1 A1 c1 u1).toArray∧Row eW w A1 n1.lk.l∧x.nd x2=n1:=by
    obtain ⟨v,e,A,c,e2,hv2⟩:=HM.out.2.2 x2 hhx;rw [hlb] at e;exact ⟨x.nd x2,A,c,x.ws x2,(Option.some.inj e).trans e2,hv2.1,rfl⟩
   subst hc2;have hb1:Below w.heap.size w w2:=hbw.out.trans ⟨hg1.os,hg1.tape,hg1.output,hg1.size,fun k hk=>hg1.block k (by have:=hbw.out.size;omega) (fun e=>by have:=Option.some.inj e;omega)⟩;obtain ⟨A2,d2,hlk2⟩:=HS2.out.look_b hx64 hhy
   obtain ⟨n2,hn2⟩:∃ n2,y.nd x2=n2:=⟨_,rfl⟩
   obtain ⟨u2,hu2⟩:∃ u2,y.ws x2=u2:=⟨_,rfl⟩
   rw [hn2,hu2] at hlk2;have HLK2:=Hd hlk2;have HF1:Hid (n1.lk.l.length<=300):=by rw [← hn1];exact (HFX.out x2).len
   have HF2:Hid (n2.lk.l.length<=300):=by rw [← hn2];exact (HFY.out x2).len
   have HR1:=Hd hr1;have HNN:=Hd (And.intro hn1 hn2);have HHX:=Hd hhx;have HB1:=Hd hb1;have HRG1:=Hd hrg1;have HME:Hid (w2.rangeLeft m w.heap.size<wA.rangeLeft m w.heap.size):=by show _<_;rw [hrg1.left_eq,hrg.out.left_eq];exact hlt
   have HZ1:Hid (Blk (w2.alloc (.cells Ve.toArray 143)) w2.heap.size Ve):=blk_new w2 Ve _;have HBa:Hid (Below w2.heap.size w2 (w2.alloc (.cells Ve.toArray 143))):=(Below.refl _ _).alloc (Nat.le_refl _) _;clear hkey hlk hv hat hrg1 hlt hg1 hs1 hlb hx64 hhx hhy hr1 hn1 hn2 hu2 hb1 hlk2
   go_upto_region 6 with (first | (with_reducible refine gS ?_;first | (refine wpl_stow 143 _ _ rfl rfl rfl _ 0 rfl (plcs n1 A1 c1 u1) rfl (Ve) HZ1.out (plcs n1 A1 c1 u1) rfl (Nat.le_of_ble_eq_true rfl) (by kernel_rfl) (plcs_one _ _ _ _) ?_;intro w3 HW3 HK3)))
   have HB3:Hid (Below w2.heap.size w2 w3):=HW3.out.below HBa.out (Nat.le_refl _);have HB03:=Hd (HB1.out.trans (HB3.out.mono HB1.out.size));have hlk2:=(HLK2.out w3 HB03.out).2.1;have HZ3:Hid (Blk (w3.alloc (.cells Ve.toArray 143)) w3.heap.size Ve):=blk_new w3 Ve _;have HBb:Hid (Below w3.heap.size w3 (w3.alloc (.cells Ve.toArray 143))):=(Below.refl _ _).alloc (Nat.le_refl _) _
   obtain ⟨k8,hk8⟩:∃ k8,w2.heap.size=k8:=⟨_,rfl⟩
   rw [hk8] at HK3 ⊢;clear HZ1 HBa HW3 hen hk8
   go_upto_region 7 with (first | (with_reducible refine gS ?_;first | (refine wpl_stow 143 _ _ rfl rfl rfl _ 0 rfl (plcs n2 A2 d2 u2) rfl (Ve) HZ3.out (plcs n2 A2 d2 u2) rfl (Nat.le_of_ble_eq_true rfl) (by kernel_rfl) (plcs_one _ _ _ _) ?_;intro w4 HW4 HK4)))
   have HB4:Hid (Below w3.heap.size w3 w4):=HW4.out.below HBb.out (Nat.le_refl _);have HB04:=Hd (HB03.out.trans (HB4.out.mono HB03.out.size));have HK3b:Hid (Blk w4 k8 (plcs n1 A1 c1 u1)):=HK3.out.below' HB4.out;have HB24:Hid (Below w2.heap.size w2 w4):=HB3.out.trans (HB4.out.mono HB3.out.size);have HSN:=Hd (same_node n1 n2 A1 A2 c1 d2 u1 u2 HF1.out HF2.out w4 (Row.below HR1.out HB04.out) (HLK2.out w4 HB04.out).2.2.1);unfold plv at HSN
   obtain ⟨k9,hk9⟩:∃ k9,w3.heap.size=k9:=⟨_,rfl⟩
   rw [hk9] at HK4 ⊢;clear HZ3 HBb HW4 hlk2 hk9 HK3 HB3 HB4 HB03 HLK2 HR1;go_wp2_with (first | (with_reducible refine gL ?_;first | (refine wt 143 0 rfl rfl rfl HK3b.out (plcs n1 A1 c1 u1) rfl Tryz.underlying143 rfl ?_) | (refine wt 143 0 rfl rfl rfl HK4.out (plcs n2 A2 d2 u2) rfl Tryz.underlying143 rfl ?_)));refine HSN.out.mono ?_;rintro e w5 ⟨rfl,hb5⟩;have HB5:=Hd (HB04.out.trans (hb5.mono HB04.out.size))
   have HRG5:Hid (w5.ranges Tryz.prog 3 anyE m w.heap.size es.length (mapV es) (fun z=>left z && !z.sameKey (.int .i64 x2)) cnt1):=HRG1.out.kept (below_grown (HB24.out.trans (hb5.mono HB24.out.size))) (by simp) (by simp);have HME5:Hid (w5.rangeLeft m w.heap.size<wA.rangeLeft m w.heap.size):=by show _<_;rw [HRG5.out.left_eq,← HRG1.out.left_eq];exact HME.out
   clear hb5 HSN HK3b HK4 HB24 HB04;cases hq:eqN n1 n2 with
   | true=>
    have HSO5:Hid (∀ i,has x.t i=true->(left (.int .i64 i) && !(Lit.int .i64 i).sameKey (.int .i64 x2))=false->eqN (x.nd i) (y.nd i)=true):=fun i hi hl=>by
     by_cases e:i=x2
     ·rw [e,HNN.out.1,HNN.out.2];exact hq
     ·have:(Lit.int .i64 i).sameKey (.int .i64 x2)=false:=by simp [Lit.sameKey,e]
      rw [this] at hl;exact hso.out i hi (by simpa using hl)
    clear hq;go_wp2_with (fail)
    go_roundw
    case rel=>exact ⟨_,_,HRG5,HB5,HSO5⟩
    case measure=>exact HME5.out
   | false=>
    have HNE:Hid (¬ ∀ i,has x.t i=true->eqN (x.nd i) (y.nd i)=true):=fun e=>by
     have:=e x2 HHX.out;rw [HNN.out.1,HNN.out.2,hq] at this;cases this
    clear hq;go_wp2_with (fail);go_ret;exact ⟨false,rfl,⟨nofun,fun e=>absurd e HNE.out⟩,HB5.out⟩
end
end
section
open Go.RowKit pxm imm trm Go.Maps
theorem size_same (a b c:Int) (w:World):(binOp .eql tSize (.agg (Vm a b c).toArray) (.agg (Vm a b c).toArray)).run Tryz.prog w=.ok (.bool true) w:=by
 go_simp
def same (x y:PSc):Prop:=(∀ q,kids x.t q=kids y.t q)∧∀ i,has x.t i=true->eqN (x.nd i) (y.nd i)=true
def EqQ (x y:PSc) (w:World) (e:Ending) (w':World):Prop:=∃ r,e=.returned (.bool r)∧(r=true↔same x y)∧Below w.heap.size w w'
section
variable {w:World} {g b m:Nat} {s:Sh} {Z:ZZ} {x:PSc} {g2 b2 m2:Nat} {s2:Sh} {Z2:ZZ} {y:PSc}
theorem sequal (h:SceneAt w g b m s Z x) (h2:SceneAt w g2 b2 m2 s2 Z2 y) (hfx:∀ i,Fit (x.nd i)) (hfy:∀ i,Fit (y.nd i)) (hn:x.t.length<=1000) (hn2:y.t.length<=1000) (hz:Z2.1=Z.1∧Z2.2=Z.2) :
  Calls Tryz.prog 21 #[.pointer (some ⟨g,0,none⟩),.pointer (some ⟨g2,0,none⟩)] w (EqQ x y w):=by
 obtain ⟨za,zr,zE⟩:=Z2;obtain ⟨rfl,rfl⟩:=hz;have HFS:Hid (∀ W,regs.bl w W->SceneAt W g b m s Z x):=fun W hb=>h.below hb;have HFT:Hid (∀ W,regs.bl w W->SceneAt W g2 b2 m2 s2 ⟨Z.1,Z.2,zE⟩ y):=fun W hb=>h2.below hb;have HTS:Hid (∀ W,regs.bl w W->Calls Tryz.prog 67 #[.pointer (some ⟨b,0,none⟩),.pointer (some ⟨b2,0,none⟩)] W fun e w'=>∃ r,e=.returned (.bool r)∧(r=true↔∀ q,kids x.t q=kids y.t q)∧Below W.heap.size W w'):=fun W hb=>tsame (h.below hb).tree (h2.below hb).tree hn hn2
 have HME:Hid (∀ W,regs.bl w W->(∀ q,kids x.t q=kids y.t q)->Calls Tryz.prog 68 #[.map (some m),.map (some m2),.func (.func 69) #[] #[]] W fun e w'=>∃ r,e=.returned (.bool r)∧(r=true↔∀ i,has x.t i=true->eqN (x.nd i) (y.nd i)=true)∧Below W.heap.size W w'):=fun W hb hal=>mequal (h.below hb) (h2.below hb) hfx hfy hal;clear h h2 hfx hfy hn hn2;have hse:=fun W=>size_same Z.1 Z.2.1 Z.2.2 W;go_enter Tryz.func21,Tryz.ntmps21
 go_upto_region 1 with (fail)
 by_cases hal:¬ ∀ q,kids x.t q=kids y.t q
 ·have HN:=Hd hal
  have HTS1:Hid (∀ W,regs.bl w W->Calls Tryz.prog 67 #[.pointer (some ⟨b,0,none⟩),.pointer (some ⟨b2,0,none⟩)] W fun e w'=>e=.returned (.bool false)∧Below W.heap.size W w'):=fun W hb=>(HTS.out W hb).mono fun e w' ⟨r,h1,h2,h3⟩=>⟨by rw [h1,show r=false from (by cases r with | false=>rfl | true=>exact absurd (h2.1 rfl) hal)],h3⟩
  clear HME HTS hal
  refine wRn [5,6,7,8,9,10,11,12,13,14,15,16,17,18,19,20,21,22,23,24,25,26,27,28,29,30,31,32,33,34,35,4] (fun i=>match i with
   |0|1|10|11=>rp g 0
   |2=>rp g 2
   |3|7=>rV (.agg ((Vm Z.1 Z.2.1 Z.2.2)).toArray)
   |4|5|14|15=>rp g2 0
   |6=>rp g2 2
   |8|9=>rT
   |12=>rp g 1
   |13=>rp b 0
   |16=>rp g2 1
   |17=>rp b2 0
   |18|19|20|30|31=>rV (.bool false)
   |21|22|23|24|25|26|27|28|29=>rV (undef)
   | _=>ra) ⟨?_,?_,?_,?_,?_,?_,?_,?_,?_,?_,?_,?_,?_,?_,?_,?_,?_,?_,?_,?_,?_,?_,?_,?_,?_,?_,?_,?_,?_,?_,?_,?_,trivial⟩ ?_
  ·refine zp fun L a w1 hh=>?_;have h0:=hh.p 0 g 0;clear hh;go_simp;exact ⟨_,rfl,rB,rfl,trivial⟩
  ·refine zp fun L a w1 hh=>?_;have h5:=rq (hh.d 0 5);clear hh;go_simp;exact ⟨_,rfl,rB,rfl,trivial⟩
  ·refine zp fun L a w1 hh=>?_;have h6:=rq (hh.d 1 6);have i0:=((HFS.out _ hh.rel).blk.blk).inside;clear hh;go_simp;exact ⟨_,rfl,rB,rfl,trivial⟩
  ·refine zp fun L a w1 hh=>?_;have h7:=rq (hh.d 2 7);have hB:=Hd ((HFS.out _ hh.rel).blk.blk);have hJ:=Hd hh.st;exact wp_take 111 _ rfl g 2 (by simpa [go_sem] using h7) _ hB.out ((Vm Z.1 Z.2.1 Z.2.2)) rfl _ Tryz.underlying111 rfl (by kernel_rfl) ⟨_,rfl,rB,rfl,hJ.out⟩
  ·refine zp fun L a w1 hh=>?_;have h1:=hh.p 1 g2 0;clear hh;go_simp;exact ⟨_,rfl,rB,rfl,trivial⟩
  ·refine zp fun L a w1 hh=>?_;have h9:=rq (hh.d 4 9);clear hh;go_simp;exact ⟨_,rfl,rB,rfl,trivial⟩
  ·refine zp fun L a w1 hh=>?_;have h10:=rq (hh.d 5 10);have i0:=((HFT.out _ hh.rel).blk.blk).inside;clear hh;go_simp;exact ⟨_,rfl,rB,rfl,trivial⟩
  ·refine zp fun L a w1 hh=>?_;have h11:=rq (hh.d 6 11);have hB:=Hd ((HFT.out _ hh.rel).blk.blk);have hJ:=Hd hh.st;exact wp_take 111 _ rfl g2 2 (by simpa [go_sem] using h11) _ hB.out ((Vm Z.1 Z.2.1 Z.2.2)) rfl _ Tryz.underlying111 rfl (by kernel_rfl) ⟨_,rfl,rB,rfl,hJ.out⟩
  ·refine zp fun L a w1 hh=>?_;have h8:=rq (hh.d 3 8);have h12:=rq (hh.d 7 12);clear hh;go_simp;exact ⟨_,rfl,rB,rfl,trivial⟩
  ·refine zp fun L a w1 hh=>?_;have h13:=rq (hh.d 8 13);clear hh;go_simp;exact ⟨_,rfl,rB,rfl,trivial⟩
  ·refine sy rfl rfl fun L a w1 hh=>?_;have h0:=hh.p 0 g 0;clear hh;go_simp;exact ⟨_,rfl,rB,rfl,trivial⟩
  ·refine sy rfl rfl fun L a w1 hh=>?_;have h15:=rq (hh.d 10 15);clear hh;go_simp;exact ⟨_,rfl,rB,rfl,trivial⟩
  ·refine sy rfl rfl fun L a w1 hh=>?_;have h16:=rq (hh.d 11 16);have i0:=((HFS.out _ hh.rel).blk.blk).inside;clear hh;go_simp;exact ⟨_,rfl,rB,rfl,trivial⟩
  ·refine sy rfl rfl fun L a w1 hh=>?_;have h17:=rq (hh.d 12 17);have hB:=Hd ((HFS.out _ hh.rel).blk.blk);have c0:=hB.out.c 1 rfl;have i0:=hB.out.inside;clear hh;go_simp;exact ⟨_,rfl,rB,rfl,trivial⟩
  ·refine sy rfl rfl fun L a w1 hh=>?_;have h1:=hh.p 1 g2 0;clear hh;go_simp;exact ⟨_,rfl,rB,rfl,trivial⟩
  ·refine sy rfl rfl fun L a w1 hh=>?_;have h19:=rq (hh.d 14 19);clear hh;go_simp;exact ⟨_,rfl,rB,rfl,trivial⟩
  ·refine sy rfl rfl fun L a w1 hh=>?_;have h20:=rq (hh.d 15 20);have i0:=((HFT.out _ hh.rel).blk.blk).inside;clear hh;go_simp;exact ⟨_,rfl,rB,rfl,trivial⟩
  ·refine sy rfl rfl fun L a w1 hh=>?_;have h21:=rq (hh.d 16 21);have hB:=Hd ((HFT.out _ hh.rel).blk.blk);have c0:=hB.out.c 1 rfl;have i0:=hB.out.inside;clear hh;go_simp;exact ⟨_,rfl,rB,rfl,trivial⟩
  ·refine sy rfl rfl fun L a w1 hh=>?_;have h18:=rq (hh.d 13 18);have h22:=rq (hh.d 17 22);have hC:=Hd (HTS1.out _ hh.rel);have hJ:=hh.j;clear hh;go_simp;refine hC.out.mono ?_;rintro e w9 ⟨rfl,hb9⟩;exact ⟨_,rfl,hb9,rfl,hJ.out⟩
  ·refine zp fun L a w1 hh=>?_;have h14:=rq (hh.d 9 14);have h23:=rq (hh.d 18 23);clear hh;go_simp;exact ⟨_,rfl,rB,rfl,trivial⟩
  ·refine zp fun L a w1 hh=>?_;have h24:=rq (hh.d 19 24);clear hh;go_simp;exact ⟨_,rfl,rB,rfl,trivial⟩
  ·refine regs.StepOK.no 20 true 25 rfl rfl (fun L a w1 hh=>?_) fun L a w1 hh=>⟨rfl,hh.st⟩
   exact hh.d 20 25
  ·refine regs.StepOK.no 20 true 25 rfl rfl (fun L a w1 hh=>?_) fun L a w1 hh=>⟨rfl,hh.st⟩
   exact hh.d 20 25
  ·refine regs.StepOK.no 20 true 25 rfl rfl (fun L a w1 hh=>?_) fun L a w1 hh=>⟨rfl,hh.st⟩
   exact hh.d 20 25
  ·refine regs.StepOK.no 20 true 25 rfl rfl (fun L a w1 hh=>?_) fun L a w1 hh=>⟨rfl,hh.st⟩
   exact hh.d 20 25
  ·refine regs.StepOK.no 20 true 25 rfl rfl (fun L a w1 hh=>?_) fun L a w1 hh=>⟨rfl,hh.st⟩
   exact hh.d 20 25
  ·refine regs.StepOK.no 20 true 25 rfl rfl (fun L a w1 hh=>?_) fun L a w1 hh=>⟨rfl,hh.st⟩
   exact hh.d 20 25
  ·refine regs.StepOK.no 20 true 25 rfl rfl (fun L a w1 hh=>?_) fun L a w1 hh=>⟨rfl,hh.st⟩
   exact hh.d 20 25
  ·refine regs.StepOK.no 20 true 25 rfl rfl (fun L a w1 hh=>?_) fun L a w1 hh=>⟨rfl,hh.st⟩
   exact hh.d 20 25
  ·refine regs.StepOK.no 20 true 25 rfl rfl (fun L a w1 hh=>?_) fun L a w1 hh=>⟨rfl,hh.st⟩
   exact hh.d 20 25
  ·refine zp fun L a w1 hh=>?_;have h25:=rq (hh.d 20 25);clear hh;go_simp;exact ⟨_,rfl,rB,rfl,trivial⟩
  ·refine zp fun L a w1 hh=>?_;have h35:=rq (hh.d 30 35);clear hh;go_simp;exact ⟨_,rfl,rB,rfl,trivial⟩
  intro L w4 val hL hJ hR hv;have h4:val 4=.bool false:=hv 31 4 (by kernel_rfl);have HR4:=Hd hR;clear hv hL hJ hR;simp only [regs.putAll,List.map_cons,List.map_nil,h4];simp only [Act.put,List.setIfInBounds_toArray,List.set_cons_zero,List.set_cons_succ];clear h4
  generalize val 5=v5,val 6=v6,val 7=v7,val 8=v8,val 9=v9,val 10=v10,val 11=v11,val 12=v12,val 13=v13,val 14=v14,val 15=v15,val 16=v16,val 17=v17,val 18=v18,val 19=v19,val 20=v20,val 21=v21,val 22=v22,val 23=v23,val 24=v24,val 25=v25,val 26=v26,val 27=v27,val 28=v28,val 29=v29,val 30=v30,val 31=v31,val 32=v32,val 33=v33,val 34=v34,val 35=v35 at *;go_wp2_with (fail);go_ret;exact ⟨false,rfl,⟨nofun,fun e=>absurd e.1 HN.out⟩,HR4.out⟩
 have hal:∀ q,kids x.t q=kids y.t q:=Classical.byContradiction hal;have HA:=Hd hal
 have HTS1:Hid (∀ W,regs.bl w W->Calls Tryz.prog 67 #[.pointer (some ⟨b,0,none⟩),.pointer (some ⟨b2,0,none⟩)] W fun e w'=>e=.returned (.bool true)∧Below W.heap.size W w'):=fun W hb=>(HTS.out W hb).mono fun e w' ⟨r,h1,h2,h3⟩=>⟨by rw [h1,show r=true from h2.2 hal],h3⟩
 by_cases heq:¬ ∀ i,has x.t i=true->eqN (x.nd i) (y.nd i)=true
 ·have HN:=Hd heq
  have HME1:Hid (∀ W,regs.bl w W->Calls Tryz.prog 68 #[.map (some m),.map (some m2),.func (.func 69) #[] #[]] W fun e w'=>e=.returned (.bool false)∧Below W.heap.size W w'):=fun W hb=>(HME.out W hb hal).mono fun e w' ⟨r,h1,h2,h3⟩=>⟨by rw [h1,show r=false from (by cases r with | false=>rfl | true=>exact absurd (h2.1 rfl) heq)],h3⟩
  clear HME HTS hal heq
  refine wRn [5,6,7,8,9,10,11,12,13,14,15,16,17,18,19,20,21,22,23,24,25,26,27,28,29,30,31,32,33,34,35,4] (fun i=>match i with
   |0|1|10|11|21|22=>rp g 0
   |2=>rp g 2
   |3|7=>rV (.agg ((Vm Z.1 Z.2.1 Z.2.2)).toArray)
   |4|5|14|15|25|26=>rp g2 0
   |6=>rp g2 2
   |8|9|18|19|20=>rT
   |12=>rp g 1
   |13=>rp b 0
   |16=>rp g2 1
   |17=>rp b2 0
   |23=>rp g 5
   |24=>rV (.map (some m))
   |27=>rp g2 5
   |28=>rV (.map (some m2))
   |29|30|31=>rV (.bool false)
   | _=>ra) ⟨?_,?_,?_,?_,?_,?_,?_,?_,?_,?_,?_,?_,?_,?_,?_,?_,?_,?_,?_,?_,?_,?_,?_,?_,?_,?_,?_,?_,?_,?_,?_,?_,trivial⟩ ?_
  ·refine zp fun L a w1 hh=>?_;have h0:=hh.p 0 g 0;clear hh;go_simp;exact ⟨_,rfl,rB,rfl,trivial⟩
  ·refine zp fun L a w1 hh=>?_;have h5:=rq (hh.d 0 5);clear hh;go_simp;exact ⟨_,rfl,rB,rfl,trivial⟩
  ·refine zp fun L a w1 hh=>?_;have h6:=rq (hh.d 1 6);have i0:=((HFS.out _ hh.rel).blk.blk).inside;clear hh;go_simp;exact ⟨_,rfl,rB,rfl,trivial⟩
  ·refine zp fun L a w1 hh=>?_;have h7:=rq (hh.d 2 7);have hB:=Hd ((HFS.out _ hh.rel).blk.blk);have hJ:=Hd hh.st;exact wp_take 111 _ rfl g 2 (by simpa [go_sem] using h7) _ hB.out ((Vm Z.1 Z.2.1 Z.2.2)) rfl _ Tryz.underlying111 rfl (by kernel_rfl) ⟨_,rfl,rB,rfl,hJ.out⟩
  ·refine zp fun L a w1 hh=>?_;have h1:=hh.p 1 g2 0;clear hh;go_simp;exact ⟨_,rfl,rB,rfl,trivial⟩
  ·refine zp fun L a w1 hh=>?_;have h9:=rq (hh.d 4 9);clear hh;go_simp;exact ⟨_,rfl,rB,rfl,trivial⟩
  ·refine zp fun L a w1 hh=>?_;have h10:=rq (hh.d 5 10);have i0:=((HFT.out _ hh.rel).blk.blk).inside;clear hh;go_simp;exact ⟨_,rfl,rB,rfl,trivial⟩
  ·refine zp fun L a w1 hh=>?_;have h11:=rq (hh.d 6 11);have hB:=Hd ((HFT.out _ hh.rel).blk.blk);have hJ:=Hd hh.st;exact wp_take 111 _ rfl g2 2 (by simpa [go_sem] using h11) _ hB.out ((Vm Z.1 Z.2.1 Z.2.2)) rfl _ Tryz.underlying111 rfl (by kernel_rfl) ⟨_,rfl,rB,rfl,hJ.out⟩
  ·refine zp fun L a w1 hh=>?_;have h8:=rq (hh.d 3 8);have h12:=rq (hh.d 7 12);clear hh;go_simp;exact ⟨_,rfl,rB,rfl,trivial⟩
  ·refine zp fun L a w1 hh=>?_;have h13:=rq (hh.d 8 13);clear hh;go_simp;exact ⟨_,rfl,rB,rfl,trivial⟩
  ·refine sy rfl rfl fun L a w1 hh=>?_;have h0:=hh.p 0 g 0;clear hh;go_simp;exact ⟨_,rfl,rB,rfl,trivial⟩
  ·refine sy rfl rfl fun L a w1 hh=>?_;have h15:=rq (hh.d 10 15);clear hh;go_simp;exact ⟨_,rfl,rB,rfl,trivial⟩
  ·refine sy rfl rfl fun L a w1 hh=>?_;have h16:=rq (hh.d 11 16);have i0:=((HFS.out _ hh.rel).blk.blk).inside;clear hh;go_simp;exact ⟨_,rfl,rB,rfl,trivial⟩
  ·refine sy rfl rfl fun L a w1 hh=>?_;have h17:=rq (hh.d 12 17);have hB:=Hd ((HFS.out _ hh.rel).blk.blk);have c0:=hB.out.c 1 rfl;have i0:=hB.out.inside;clear hh;go_simp;exact ⟨_,rfl,rB,rfl,trivial⟩
  ·refine sy rfl rfl fun L a w1 hh=>?_;have h1:=hh.p 1 g2 0;clear hh;go_simp;exact ⟨_,rfl,rB,rfl,trivial⟩
  ·refine sy rfl rfl fun L a w1 hh=>?_;have h19:=rq (hh.d 14 19);clear hh;go_simp;exact ⟨_,rfl,rB,rfl,trivial⟩
  ·refine sy rfl rfl fun L a w1 hh=>?_;have h20:=rq (hh.d 15 20);have i0:=((HFT.out _ hh.rel).blk.blk).inside;clear hh;go_simp;exact ⟨_,rfl,rB,rfl,trivial⟩
  ·refine sy rfl rfl fun L a w1 hh=>?_;have h21:=rq (hh.d 16 21);have hB:=Hd ((HFT.out _ hh.rel).blk.blk);have c0:=hB.out.c 1 rfl;have i0:=hB.out.inside;clear hh;go_simp;exact ⟨_,rfl,rB,rfl,trivial⟩
  ·refine sy rfl rfl fun L a w1 hh=>?_;have h18:=rq (hh.d 13 18);have h22:=rq (hh.d 17 22);have hC:=Hd (HTS1.out _ hh.rel);have hJ:=hh.j;clear hh;go_simp;refine hC.out.mono ?_;rintro e w9 ⟨rfl,hb9⟩;exact ⟨_,rfl,hb9,rfl,hJ.out⟩
  ·refine zp fun L a w1 hh=>?_;have h14:=rq (hh.d 9 14);have h23:=rq (hh.d 18 23);clear hh;go_simp;exact ⟨_,rfl,rB,rfl,trivial⟩
  ·refine zp fun L a w1 hh=>?_;have h24:=rq (hh.d 19 24);clear hh;go_simp;exact ⟨_,rfl,rB,rfl,trivial⟩
  ·refine sy rfl rfl fun L a w1 hh=>?_;have h0:=hh.p 0 g 0;clear hh;go_simp;exact ⟨_,rfl,rB,rfl,trivial⟩
  ·refine sy rfl rfl fun L a w1 hh=>?_;have h26:=rq (hh.d 21 26);clear hh;go_simp;exact ⟨_,rfl,rB,rfl,trivial⟩
  ·refine sy rfl rfl fun L a w1 hh=>?_;have h27:=rq (hh.d 22 27);have i0:=((HFS.out _ hh.rel).blk.blk).inside;clear hh;go_simp;exact ⟨_,rfl,rB,rfl,trivial⟩
  ·refine sy rfl rfl fun L a w1 hh=>?_;have h28:=rq (hh.d 23 28);have hB:=Hd ((HFS.out _ hh.rel).blk.blk);have c0:=hB.out.c 5 rfl;have i0:=hB.out.inside;clear hh;go_simp;exact ⟨_,rfl,rB,rfl,trivial⟩
  ·refine sy rfl rfl fun L a w1 hh=>?_;have h1:=hh.p 1 g2 0;clear hh;go_simp;exact ⟨_,rfl,rB,rfl,trivial⟩
  ·refine sy rfl rfl fun L a w1 hh=>?_;have h30:=rq (hh.d 25 30);clear hh;go_simp;exact ⟨_,rfl,rB,rfl,trivial⟩
  ·refine sy rfl rfl fun L a w1 hh=>?_;have h31:=rq (hh.d 26 31);have i0:=((HFT.out _ hh.rel).blk.blk).inside;clear hh;go_simp;exact ⟨_,rfl,rB,rfl,trivial⟩
  ·refine sy rfl rfl fun L a w1 hh=>?_;have h32:=rq (hh.d 27 32);have hB:=Hd ((HFT.out _ hh.rel).blk.blk);have c0:=hB.out.c 5 rfl;have i0:=hB.out.inside;clear hh;go_simp;exact ⟨_,rfl,rB,rfl,trivial⟩
  ·refine sy rfl rfl fun L a w1 hh=>?_;have h29:=rq (hh.d 24 29);have h33:=rq (hh.d 28 33);have hC:=Hd (HME1.out _ hh.rel);have hJ:=hh.j;clear hh;go_simp;refine hC.out.mono ?_;rintro e w9 ⟨rfl,hb9⟩;exact ⟨_,rfl,hb9,rfl,hJ.out⟩
  ·refine zp fun L a w1 hh=>?_;have h25:=rq (hh.d 20 25);have h34:=rq (hh.d 29 34);clear hh;go_simp;exact ⟨_,rfl,rB,rfl,trivial⟩
  ·refine zp fun L a w1 hh=>?_;have h35:=rq (hh.d 30 35);clear hh;go_simp;exact ⟨_,rfl,rB,rfl,trivial⟩
  intro L w4 val hL hJ hR hv;have h4:val 4=.bool false:=hv 31 4 (by kernel_rfl);have HR4:=Hd hR;clear hv hL hJ hR;simp only [regs.putAll,List.map_cons,List.map_nil,h4];simp only [Act.put,List.setIfInBounds_toArray,List.set_cons_zero,List.set_cons_succ];clear h4
  generalize val 5=v5,val 6=v6,val 7=v7,val 8=v8,val 9=v9,val 10=v10,val 11=v11,val 12=v12,val 13=v13,val 14=v14,val 15=v15,val 16=v16,val 17=v17,val 18=v18,val 19=v19,val 20=v20,val 21=v21,val 22=v22,val 23=v23,val 24=v24,val 25=v25,val 26=v26,val 27=v27,val 28=v28,val 29=v29,val 30=v30,val 31=v31,val 32=v32,val 33=v33,val 34=v34,val 35=v35 at *;go_wp2_with (fail);go_ret;exact ⟨false,rfl,⟨nofun,fun e=>absurd e.2 HN.out⟩,HR4.out⟩
 have heq:∀ i,has x.t i=true->eqN (x.nd i) (y.nd i)=true:=Classical.byContradiction heq;have HN:=Hd heq
 have HME1:Hid (∀ W,regs.bl w W->Calls Tryz.prog 68 #[.map (some m),.map (some m2),.func (.func 69) #[] #[]] W fun e w'=>e=.returned (.bool true)∧Below W.heap.size W w'):=fun W hb=>(HME.out W hb hal).mono fun e w' ⟨r,h1,h2,h3⟩=>⟨by rw [h1,show r=true from h2.2 heq],h3⟩
 clear HME HTS hal heq
 refine wRn [5,6,7,8,9,10,11,12,13,14,15,16,17,18,19,20,21,22,23,24,25,26,27,28,29,30,31,32,33,34,35,4] (fun i=>match i with
  |0|1|10|11|21|22=>rp g 0
  |2=>rp g 2
  |3|7=>rV (.agg ((Vm Z.1 Z.2.1 Z.2.2)).toArray)
  |4|5|14|15|25|26=>rp g2 0
  |6=>rp g2 2
  |8|9|18|19|20|29|30|31=>rT
  |12=>rp g 1
  |13=>rp b 0
  |16=>rp g2 1
  |17=>rp b2 0
  |23=>rp g 5
  |24=>rV (.map (some m))
  |27=>rp g2 5
  |28=>rV (.map (some m2))
  | _=>ra) ⟨?_,?_,?_,?_,?_,?_,?_,?_,?_,?_,?_,?_,?_,?_,?_,?_,?_,?_,?_,?_,?_,?_,?_,?_,?_,?_,?_,?_,?_,?_,?_,?_,trivial⟩ ?_
 ·refine zp fun L a w1 hh=>?_;have h0:=hh.p 0 g 0;clear hh;go_simp;exact ⟨_,rfl,rB,rfl,trivial⟩
 ·refine zp fun L a w1 hh=>?_;have h5:=rq (hh.d 0 5);clear hh;go_simp;exact ⟨_,rfl,rB,rfl,trivial⟩
 ·refine zp fun L a w1 hh=>?_;have h6:=rq (hh.d 1 6);have i0:=((HFS.out _ hh.rel).blk.blk).inside;clear hh;go_simp;exact ⟨_,rfl,rB,rfl,trivial⟩
 ·refine zp fun L a w1 hh=>?_;have h7:=rq (hh.d 2 7);have hB:=Hd ((HFS.out _ hh.rel).blk.blk);have hJ:=Hd hh.st;exact wp_take 111 _ rfl g 2 (by simpa [go_sem] using h7) _ hB.out ((Vm Z.1 Z.2.1 Z.2.2)) rfl _ Tryz.underlying111 rfl (by kernel_rfl) ⟨_,rfl,rB,rfl,hJ.out⟩
 ·refine zp fun L a w1 hh=>?_;have h1:=hh.p 1 g2 0;clear hh;go_simp;exact ⟨_,rfl,rB,rfl,trivial⟩
 ·refine zp fun L a w1 hh=>?_;have h9:=rq (hh.d 4 9);clear hh;go_simp;exact ⟨_,rfl,rB,rfl,trivial⟩
 ·refine zp fun L a w1 hh=>?_;have h10:=rq (hh.d 5 10);have i0:=((HFT.out _ hh.rel).blk.blk).inside;clear hh;go_simp;exact ⟨_,rfl,rB,rfl,trivial⟩
 ·refine zp fun L a w1 hh=>?_;have h11:=rq (hh.d 6 11);have hB:=Hd ((HFT.out _ hh.rel).blk.blk);have hJ:=Hd hh.st;exact wp_take 111 _ rfl g2 2 (by simpa [go_sem] using h11) _ hB.out ((Vm Z.1 Z.2.1 Z.2.2)) rfl _ Tryz.underlying111 rfl (by kernel_rfl) ⟨_,rfl,rB,rfl,hJ.out⟩
 ·refine zp fun L a w1 hh=>?_;have h8:=rq (hh.d 3 8);have h12:=rq (hh.d 7 12);clear hh;go_simp;exact ⟨_,rfl,rB,rfl,trivial⟩
 ·refine zp fun L a w1 hh=>?_;have h13:=rq (hh.d 8 13);clear hh;go_simp;exact ⟨_,rfl,rB,rfl,trivial⟩
 ·refine sy rfl rfl fun L a w1 hh=>?_;have h0:=hh.p 0 g 0;clear hh;go_simp;exact ⟨_,rfl,rB,rfl,trivial⟩
 ·refine sy rfl rfl fun L a w1 hh=>?_;have h15:=rq (hh.d 10 15);clear hh;go_simp;exact ⟨_,rfl,rB,rfl,trivial⟩
 ·refine sy rfl rfl fun L a w1 hh=>?_;have h16:=rq (hh.d 11 16);have i0:=((HFS.out _ hh.rel).blk.blk).inside;clear hh;go_simp;exact ⟨_,rfl,rB,rfl,trivial⟩
 ·refine sy rfl rfl fun L a w1 hh=>?_;have h17:=rq (hh.d 12 17);have hB:=Hd ((HFS.out _ hh.rel).blk.blk);have c0:=hB.out.c 1 rfl;have i0:=hB.out.inside;clear hh;go_simp;exact ⟨_,rfl,rB,rfl,trivial⟩
 ·refine sy rfl rfl fun L a w1 hh=>?_;have h1:=hh.p 1 g2 0;clear hh;go_simp;exact ⟨_,rfl,rB,rfl,trivial⟩
 ·refine sy rfl rfl fun L a w1 hh=>?_;have h19:=rq (hh.d 14 19);clear hh;go_simp;exact ⟨_,rfl,rB,rfl,trivial⟩
 ·refine sy rfl rfl fun L a w1 hh=>?_;have h20:=rq (hh.d 15 20);have i0:=((HFT.out _ hh.rel).blk.blk).inside;clear hh;go_simp;exact ⟨_,rfl,rB,rfl,trivial⟩
 ·refine sy rfl rfl fun L a w1 hh=>?_;have h21:=rq (hh.d 16 21);have hB:=Hd ((HFT.out _ hh.rel).blk.blk);have c0:=hB.out.c 1 rfl;have i0:=hB.out.inside;clear hh;go_simp;exact ⟨_,rfl,rB,rfl,trivial⟩
 ·refine sy rfl rfl fun L a w1 hh=>?_;have h18:=rq (hh.d 13 18);have h22:=rq (hh.d 17 22);have hC:=Hd (HTS1.out _ hh.rel);have hJ:=hh.j;clear hh;go_simp;refine hC.out.mono ?_;rintro e w9 ⟨rfl,hb9⟩;exact ⟨_,rfl,hb9,rfl,hJ.out⟩
 ·refine zp fun L a w1 hh=>?_;have h14:=rq (hh.d 9 14);have h23:=rq (hh.d 18 23);clear hh;go_simp;exact ⟨_,rfl,rB,rfl,trivial⟩
 ·refine zp fun L a w1 hh=>?_;have h24:=rq (hh.d 19 24);clear hh;go_simp;exact ⟨_,rfl,rB,rfl,trivial⟩
 ·refine sy rfl rfl fun L a w1 hh=>?_;have h0:=hh.p 0 g 0;clear hh;go_simp;exact ⟨_,rfl,rB,rfl,trivial⟩
 ·refine sy rfl rfl fun L a w1 hh=>?_;have h26:=rq (hh.d 21 26);clear hh;go_simp;exact ⟨_,rfl,rB,rfl,trivial⟩
 ·refine sy rfl rfl fun L a w1 hh=>?_;have h27:=rq (hh.d 22 27);have i0:=((HFS.out _ hh.rel).blk.blk).inside;clear hh;go_simp;exact ⟨_,rfl,rB,rfl,trivial⟩
 ·refine sy rfl rfl fun L a w1 hh=>?_;have h28:=rq (hh.d 23 28);have hB:=Hd ((HFS.out _ hh.rel).blk.blk);have c0:=hB.out.c 5 rfl;have i0:=hB.out.inside;clear hh;go_simp;exact ⟨_,rfl,rB,rfl,trivial⟩
 ·refine sy rfl rfl fun L a w1 hh=>?_;have h1:=hh.p 1 g2 0;clear hh;go_simp;exact ⟨_,rfl,rB,rfl,trivial⟩
 ·refine sy rfl rfl fun L a w1 hh=>?_;have h30:=rq (hh.d 25 30);clear hh;go_simp;exact ⟨_,rfl,rB,rfl,trivial⟩
 ·refine sy rfl rfl fun L a w1 hh=>?_;have h31:=rq (hh.d 26 31);have i0:=((HFT.out _ hh.rel).blk.blk).inside;clear hh;go_simp;exact ⟨_,rfl,rB,rfl,trivial⟩
 ·refine sy rfl rfl fun L a w1 hh=>?_;have h32:=rq (hh.d 27 32);have hB:=Hd ((HFT.out _ hh.rel).blk.blk);have c0:=hB.out.c 5 rfl;have i0:=hB.out.inside;clear hh;go_simp;exact ⟨_,rfl,rB,rfl,trivial⟩
 ·refine sy rfl rfl fun L a w1 hh=>?_;have h29:=rq (hh.d 24 29);have h33:=rq (hh.d 28 33);have hC:=Hd (HME1.out _ hh.rel);have hJ:=hh.j;clear hh;go_simp;refine hC.out.mono ?_;rintro e w9 ⟨rfl,hb9⟩;exact ⟨_,rfl,hb9,rfl,hJ.out⟩
 ·refine zp fun L a w1 hh=>?_;have h25:=rq (hh.d 20 25);have h34:=rq (hh.d 29 34);clear hh;go_simp;exact ⟨_,rfl,rB,rfl,trivial⟩
 ·refine zp fun L a w1 hh=>?_;have h35:=rq (hh.d 30 35);clear hh;go_simp;exact ⟨_,rfl,rB,rfl,trivial⟩
 intro L w4 val hL hJ hR hv;have h4:val 4=.bool true:=hv 31 4 (by kernel_rfl);have HR4:=Hd hR;clear hv hL hJ hR;simp only [regs.putAll,List.map_cons,List.map_nil,h4];simp only [Act.put,List.setIfInBounds_toArray,List.set_cons_zero,List.set_cons_succ];clear h4
 generalize val 5=v5,val 6=v6,val 7=v7,val 8=v8,val 9=v9,val 10=v10,val 11=v11,val 12=v12,val 13=v13,val 14=v14,val 15=v15,val 16=v16,val 17=v17,val 18=v18,val 19=v19,val 20=v20,val 21=v21,val 22=v22,val 23=v23,val 24=v24,val 25=v25,val 26=v26,val 27=v27,val 28=v28,val 29=v29,val 30=v30,val 31=v31,val 32=v32,val 33=v33,val 34=v34,val 35=v35 at *;go_wp2_with (fail);go_ret;exact ⟨true,rfl,⟨fun _=>⟨HA.out,HN.out⟩,fun _=>rfl⟩,HR4.out⟩
end
end
section
open Go.RowKit pxm imm trm Go.Maps
theorem eqN_iff {n1 n2:Nd}:eqN n1 n2=true↔n1=n2:=by
 obtain ⟨m1,o1,h1,c1,r1,k1,W1,H1,p1,iw1,ih1,l1⟩:=n1;obtain ⟨m2,o2,h2,c2,r2,k2,W2,H2,p2,iw2,ih2,l2⟩:=n2;unfold eqN eqNd eqLk eqB;simp only [Bool.and_eq_true,decide_eq_true_eq,beq_iff_eq,Nd.mk.injEq,Lk.mk.injEq];constructor
 ·rintro ⟨a,b,c,d,e,f,g,h,i,j,k,l⟩;exact ⟨a,c,d,e,b,f,g,h,by omega,j,k,l⟩
 ·rintro ⟨a,b,c,d,e,f,g,h,i,j,k,l⟩;exact ⟨a,e,b,c,d,f,g,h,by omega,j,k,l⟩
theorem eqN_self (n:Nd):eqN n n=true:=eqN_iff.2 rfl
theorem same_self (x:PSc):same x x:=⟨fun _=>rfl,fun _ _=>eqN_self _⟩
def Lk.o:Lk:=⟨0,0,0,0,0,0,[]⟩
def Op9.o:Op9:=⟨0,0,0,0,Mp.o,Bx.o,false,0,Lk.o⟩
def PSc.new:PSc:=⟨[],fun _=>Nd.plain,fun _=>Mp.one⟩
theorem fit_lko:Fit { Nd.plain with lk:=Lk.o }:=⟨by decide,(by intro z hz;cases hz),by decide⟩
theorem PSc.new_sane:Sane PSc.new:=⟨ok_nil,fun _=>plain_chk,fun i hi _ _=>by
 have:i=0:=by
  rcases has_iff.1 hi with e | e
  ·exact e
  ·cases e
 subst this;rw [worldOf_0]
 rfl,fun _=>fit_plain⟩
def aw1:Op9:={ Op9.o with k:=1,i:=1 }
def aw2:Op9:={ Op9.o with k:=4,i:=1,m:=⟨65536,0,0,65536,196608,0⟩ }
def aw3:Op9:={ Op9.o with k:=4,m:=⟨65536,0,0,65536,0,65536⟩ }
def aw4:Op9:={ Op9.o with k:=8,on:=true }
def aw5:Op9:={ Op9.o with k:=1,i:=2 }
theorem aw_ok {o:Op9} (h:o=aw1∨o=aw2∨o=aw3∨o=aw4∨o=aw5):OpOk o:=by
 rcases h with rfl | rfl | rfl | rfl | rfl<;>exact ⟨⟨by decide,by decide⟩,⟨by decide,by decide⟩,fit_lko⟩
def awT:T:=[(1,0)]
def awN:Int->Nd:=upd (upd (upd (fun _=>Nd.plain) 1 Nd.plain) 1 (setN Nd.plain aw2)) 0 (setN Nd.plain aw3)
theorem aw_all:allS 2 PSc.new [aw1,aw2,aw3]=(⟨awT,awN,upd (fun _=>Mp.one) 1 Mp.o⟩,3,0):=by
 have e1:doS 2 PSc.new aw1=(⟨awT,upd (fun _=>Nd.plain) 1 Nd.plain,upd (fun _=>Mp.one) 1 Mp.o⟩,0):=rfl;have e2:doS 2 ⟨awT,upd (fun _=>Nd.plain) 1 Nd.plain,upd (fun _=>Mp.one) 1 Mp.o⟩ aw2=(⟨awT,upd (upd (fun _=>Nd.plain) 1 Nd.plain) 1 (setN Nd.plain aw2),upd (fun _=>Mp.one) 1 Mp.o⟩,0):=rfl;have e3:doS 2 ⟨awT,upd (upd (fun _=>Nd.plain) 1 Nd.plain) 1 (setN Nd.plain aw2),upd (fun _=>Mp.one) 1 Mp.o⟩ aw3=(⟨awT,awN,upd (fun _=>Mp.one) 1 Mp.o⟩,0):=rfl;rw [allS_cons,e1];simp only [ne_eq,not_true_eq_false,if_false];rw [allS_cons,e2];simp only [ne_eq,not_true_eq_false,if_false];rw [allS_cons,e3]
 simp only [ne_eq,not_true_eq_false,if_false];rfl
theorem aw_ids:1∈ids awT:=by decide
theorem aw_okT:Ok awT:=(addS_ok ok_nil 1 0 0).1
theorem aw_world1:worldOf awT awN 1=some ⟨65536,0,0,65536,196608,65536⟩:=by
 rw [worldOf_step aw_okT _ aw_ids,show par awT 1=0 from by decide,worldOf_0]
 decide
theorem aw_has {i:Int} (h:has awT i=true):i=0∨i=1:=by
 rcases has_iff.1 h with e | e
 ·exact .inl e
 ·right
  simpa [awT,ids] using e
noncomputable def awY:PSc:=(setSt ⟨awT,awN,upd (fun _=>Mp.one) 1 Mp.o⟩).1
theorem aw_set:setSt ⟨awT,awN,upd (fun _=>Mp.one) 1 Mp.o⟩=(awY,0):=by
 have:(setSt ⟨awT,awN,upd (fun _=>Mp.one) 1 Mp.o⟩).2=0:=by
  unfold setSt;rw [if_pos fun i hi=>?_];rcases aw_has hi with rfl | rfl
  ·show worldOf awT awN 0≠none;rw [worldOf_0];simp
  ·show worldOf awT awN 1≠none;rw [aw_world1];simp
 show setSt _=_;rw [← this];rfl
theorem awY_t:awY.t=awT:=setSt_t _
theorem awY_nd:awY.nd=awN:=setSt_nd _
theorem awY_ws:awY.ws 1=⟨65536,0,0,65536,196608,65536⟩:=by
 have h:=aw_set;unfold awY;unfold setSt at h ⊢;split
 ·show (worldOf awT awN 1).getD (upd (fun _=>Mp.one) 1 Mp.o 1)=_;rw [aw_world1];rfl
 ·rename_i h1
  rw [if_neg h1] at h
  injection h with _ h
  cases h
theorem aw_apply:applyS 2 setSt PSc.new [aw1,aw2,aw3]=(awY,3,0):=by
 unfold applyS;rw [if_neg (by decide),aw_all,if_neg (by simp),aw_set,if_neg (by simp)];rfl
theorem aw_apply2 {x:PSc} (ht:x.t=awT):applyS 2 setSt x [aw4,aw5]=(x,1,36):=by
 obtain ⟨t,nd,ws⟩:=x;subst ht;have e1:doS 2 ⟨awT,nd,ws⟩ aw4=(⟨awT,upd nd 0 (setN (nd 0) aw4),ws⟩,0):=rfl;have e2:doS 2 ⟨awT,upd nd 0 (setN (nd 0) aw4),ws⟩ aw5=(⟨awT,upd nd 0 (setN (nd 0) aw4),ws⟩,36):=rfl
 have e3:allS 2 ⟨awT,nd,ws⟩ [aw4,aw5]=(⟨awT,upd nd 0 (setN (nd 0) aw4),ws⟩,1,36):=by
  rw [allS_cons,e1];simp only [ne_eq,not_true_eq_false,if_false];rw [allS_cons,e2,if_pos (by simp)]
 unfold applyS;rw [if_neg (by decide),e3,if_pos (by simp)];rfl
theorem awY_sane:Sane awY:=by
 have:=PSc.new_sane.apply (M:=2) (l:=[aw1,aw2,aw3]) fun o ho=>by
  simp only [List.mem_cons,List.not_mem_nil,or_false] at ho;exact aw_ok (by rcases ho with h | h | h<;>simp [h])
 rw [aw_apply] at this;exact this
end
section
open Go.RowKit pxm imm trm Go.Maps
structure MyS (w0:World) (g b m:Nat) (s:Sh) (Z:ZZ) (x:PSc) (w:World):Prop where
 at_:SceneAt w g b m s Z x
 ft:∀ k,SFoot b m s x.t k->w0.heap.size<=k
 bel:Below w0.heap.size w0 w
section
variable {w0 w w':World} {g b m:Nat} {s s':Sh} {Z:ZZ} {x x':PSc}
theorem MyS.below (h:MyS w0 g b m s Z x w) (hb:Below w.heap.size w w'):MyS w0 g b m s Z x w':=⟨h.at_.below hb,h.ft,h.bel.trans (hb.mono h.bel.size)⟩
theorem MyS.turn (h:MyS w0 g b m s Z x w) (hs:SceneAt w' g b m s' Z x') (ht:TurnP (SFoot b m s x.t) (SFoot b m s' x'.t) w w'):MyS w0 g b m s' Z x' w':=
 ⟨hs,fun k hk=>by
  by_cases hlt:k<w0.heap.size
  ·exact absurd hk (ht.far k (Nat.lt_of_lt_of_le hlt h.bel.size) fun e=>by have:=h.ft k e;omega).1
  ·omega,h.bel.trans (ht.to_below h.bel.size h.ft)⟩
end
abbrev tOps:TypeId:=38
theorem build_aw1 (w:World):(Instr.build 77 #[(0,.int .i64 1),(1,.int .i64 1)]).run Tryz.prog w=.ok (.agg (aw1.cs none 0).toArray) w:=by kernel_rfl
theorem build_aw2 (w:World):(Instr.build 77 #[(0,.int .i64 4),(1,.int .i64 1),(4,.agg #[.int .i64 65536,.int .i64 0,.int .i64 0,.int .i64 65536,.int .i64 196608,.int .i64 0])]).run Tryz.prog w=.ok (.agg (aw2.cs none 0).toArray) w:=by kernel_rfl
theorem build_aw3 (w:World):(Instr.build 77 #[(0,.int .i64 4),(4,.agg #[.int .i64 65536,.int .i64 0,.int .i64 0,.int .i64 65536,.int .i64 0,.int .i64 65536])]).run Tryz.prog w=.ok (.agg (aw3.cs none 0).toArray) w:=by kernel_rfl
theorem build_aw4 (w:World):(Instr.build 77 #[(0,.int .i64 8),(6,.bool true)]).run Tryz.prog w=.ok (.agg (aw4.cs none 0).toArray) w:=by kernel_rfl
theorem build_aw5 (w:World):(Instr.build 77 #[(0,.int .i64 1),(1,.int .i64 2)]).run Tryz.prog w=.ok (.agg (aw5.cs none 0).toArray) w:=by kernel_rfl
def oN (o:Op9):OpR:=⟨o,none,0⟩
theorem bs_op3 (a b c:Op9) (w:World):(Instr.buildSlice tOps 3 #[(0,.agg (a.cs none 0).toArray),(1,.agg (b.cs none 0).toArray),(2,.agg (c.cs none 0).toArray)]).run Tryz.prog w=.ok (.slice (some ⟨w.heap.size,0,none⟩) 3 3) (w.alloc (.cells ([oN a,oN b,oN c].flatMap OpR.cs).toArray 77)):=by kernel_rfl
theorem bs_op2 (a b:Op9) (w:World):(Instr.buildSlice tOps 2 #[(0,.agg (a.cs none 0).toArray),(1,.agg (b.cs none 0).toArray)]).run Tryz.prog w=.ok (.slice (some ⟨w.heap.size,0,none⟩) 2 2) (w.alloc (.cells ([oN a,oN b].flatMap OpR.cs).toArray 77)):=by kernel_rfl
theorem opsAt_new {w:World} {S:Bset} (hS:∀ k,S k->k<w.heap.size) (l:List OpR) (hl:∀ q∈l,q.o.lk.l=[]):OpsAt S (w.alloc (.cells (l.flatMap OpR.cs).toArray 77)) (some ⟨w.heap.size,0,none⟩) l:=
 ⟨srow_new (enc:=OpR.cs) OpR.cs_len w l _ rfl,fun a e _ hk=>by
  obtain rfl:=Option.some.inj e;have:=hS _ hk
  simp at this,fun q hq=>⟨by rw [hl q hq];intro hn;exact absurd hn (by simp),fun _ _ hne=>absurd (hl q hq) hne⟩⟩
theorem mp_sameD (w:World):(binOp .eql 68 (.agg (⟨65536,0,0,65536,196608,65536⟩:Mp).cs.toArray) (.agg (⟨65536,0,0,65536,196608,65536⟩:Mp).cs.toArray)).run Tryz.prog w=.ok (.bool true) w:=by
 have h:=mp_eq ⟨65536,0,0,65536,196608,65536⟩ ⟨65536,0,0,65536,196608,65536⟩ w;rw [decide_eq_true rfl] at h;exact h
def awZ:ZZ:=⟨4,⟨3,2⟩,fun _=>False⟩
theorem roomZ {x:PSc} {n:Nat} (h:x.t.length<=10) (hn:n<=1024):n<=1024->Room awZ.2.2 x n:=fun _=>⟨hn,.inr ⟨by omega,by decide⟩⟩
theorem awake_any (w:World):Calls Tryz.prog 15 #[] w fun e w'=>e=.returned (.bool true)∧Below w.heap.size w w':=by
 go_enter Tryz.func15,Tryz.ntmps15;go_wp2_with (fail);refine (new_ok (w:=w) awZ (fun _ e=>e.elim) ⟨by decide,by decide⟩ ⟨by decide,by decide⟩ ⟨by decide,by decide⟩).mono ?_;rintro e w1 ⟨g,b,m,s,rfl,hs1,hb1,hf1,hg1⟩
 have HM1:Hid (MyS w g b m s awZ PSc.new w1):=⟨hs1,hf1,hb1⟩
 clear hs1 hb1 hf1 hg1;go_wp2_with (fail);refine (new_bad (w:=w1)).mono ?_;rintro e w2 ⟨rfl,hb2⟩;have HM2:=Hd (HM1.out.below hb2);clear hb2 HM1;go_wp2_with (first | (with_reducible refine gU ?_;first | refine wpl_build _ _ rfl rfl (by simp [go_sem]) (build_aw1 _) ?_) | (with_reducible refine gB ?_;refine wpl_bs _ _ _ rfl rfl (by simp [go_sem]) (bs_op3 aw1 aw2 aw3 _) ?_));refine (mp_shift 196608 0 w2).mono ?_;rintro e w3 ⟨rfl,hb3⟩;unfold Mp.v;have HM3:=Hd (HM2.out.below hb3);clear hb3 HM2
 go_wp2_with (first | (with_reducible refine gU ?_;first | refine wpl_build _ _ rfl rfl (by simp [go_sem]) (build_aw2 _) ?_) | (with_reducible refine gB ?_;refine wpl_bs _ _ _ rfl rfl (by simp [go_sem]) (bs_op3 aw1 aw2 aw3 _) ?_));refine (mp_shift 0 65536 w3).mono ?_;rintro e w4 ⟨rfl,hb4⟩;unfold Mp.v;have HM4:=Hd (HM3.out.below hb4);clear hb4 HM3;go_wp2_with (first | (with_reducible refine gU ?_;first | refine wpl_build _ _ rfl rfl (by simp [go_sem]) (build_aw3 _) ?_) | (with_reducible refine gB ?_;refine wpl_bs _ _ _ rfl rfl (by simp [go_sem]) (bs_op3 aw1 aw2 aw3 _) ?_))
 have HO5:=Hd (opsAt_new (w:=w4) (S:=SFoot b m s PSc.new.t) HM4.out.at_.inside [oN aw1,oN aw2,oN aw3] (by intro q hq;simp only [List.mem_cons,List.not_mem_nil,or_false] at hq;rcases hq with rfl | rfl | rfl<;>rfl));rw [show [oN aw1,oN aw2,oN aw3].flatMap OpR.cs=(oN aw1).cs++((oN aw2).cs++(oN aw3).cs) from by simp] at HO5;have HB5:Hid (Below w4.heap.size w4 (w4.alloc (.cells ((oN aw1).cs++((oN aw2).cs++(oN aw3).cs)).toArray 77))):=(Below.refl _ _).alloc (Nat.le_refl _) _;generalize (w4.alloc (.cells ((oN aw1).cs++((oN aw2).cs++(oN aw3).cs)).toArray 77))=w5 at *
 have HM5:=Hd (HM4.out.below HB5.out);generalize w4.heap.size=k5 at *;have HAP:=Hd (applied HM5.out.at_ PSc.new_sane [oN aw1,oN aw2,oN aw3] (some ⟨k5,0,none⟩) 3 HO5.out (by intro q hq;simp only [List.mem_cons,List.not_mem_nil,or_false] at hq;rcases hq with rfl | rfl | rfl<;>exact aw_ok (by simp [oN])) (roomZ (by decide) (by simp)) (by simp));rw [show applyS awZ.2.2 setSt PSc.new ([oN aw1,oN aw2,oN aw3].map (·.o))=(awY,3,0) from aw_apply] at HAP;unfold ApplyQ at HAP;refine HAP.out.mono ?_;rintro e w6 ⟨s6,rfl,hs6,ht6⟩;have HM6:=Hd (HM5.out.turn hs6 ht6);clear hs6 ht6 HAP HM5 HO5 HB5 HM4
 go_wp2_with (fail);refine (world_any HM6.out.at_ 1 ⟨by decide,by decide⟩).mono ?_;rw [show has awY.t 1=true from by rw [awY_t];decide,show wsAt awY 1=⟨65536,0,0,65536,196608,65536⟩ from by unfold wsAt;rw [awY_t,if_pos (by decide),awY_ws]];rintro e w7 ⟨rfl,hb7⟩;have HM7:=Hd (HM6.out.below hb7);clear hb7 HM6;have HZ7:Hid (Blk (w7.alloc (.cells Vd.toArray 68)) w7.heap.size Vd):=blk_new w7 Vd _;have HB7:Hid (Below w7.heap.size w7 (w7.alloc (.cells Vd.toArray 68))):=(Below.refl _ _).alloc (Nat.le_refl _) _
 go_upto_region 7 with (first | (with_reducible refine gS ?_;first | (refine wpl_stow 68 _ _ rfl rfl rfl _ 0 rfl ((⟨65536,0,0,65536,196608,65536⟩:Mp).cs) rfl (Vd) HZ7.out ((⟨65536,0,0,65536,196608,65536⟩:Mp).cs) rfl (Nat.le_of_ble_eq_true rfl) (by kernel_rfl) (Mp.one1 _) ?_;intro w8 HW8 HK8)))
 have HM8:=Hd ((HM7.out.below (HW8.out.below HB7.out (Nat.le_refl _))))
 obtain ⟨k7,hk7⟩:∃ k7,w7.heap.size=k7:=⟨_,rfl⟩
 have HNK:Hid (¬ SFoot b m s6 awY.t k7):=fun e=>by have:=HM7.out.at_.inside _ e;omega
 rw [hk7] at HK8 ⊢;clear hk7 HZ7 HB7 HW8 HM7;go_wp2_with (fail);refine (scopy_any HM8.out.at_ (by rw [awY_t];decide)).mono ?_;rintro e w9 ⟨g2,b2,m2,s2,rfl,hs9,hb9,hf9,hg9⟩;have HM9:=Hd (HM8.out.below hb9);have HC9:=Hd hs9;have HK9:=Hd (HK8.out.below' hb9);clear hs9 hb9 hf9 hg9 HM8 HK8
 go_wp2_with (first | ((with_reducible show wpList _ _ _ (Oper.mk (some 52) (Op.build _ _) _ _ _ _::_) _ _);refine wpl_build _ _ rfl rfl (by simp [go_sem]) (build_aw4 _) ?_) | ((with_reducible show wpList _ _ _ (Oper.mk (some 53) (Op.build _ _) _ _ _ _::_) _ _);refine wpl_build _ _ rfl rfl (by simp [go_sem]) (build_aw5 _) ?_) | (with_reducible refine gB ?_;refine wpl_bs _ _ _ rfl rfl (by simp [go_sem]) (bs_op2 aw4 aw5 _) ?_))
 have HO10:=Hd (opsAt_new (w:=w9) (S:=SFoot b m s6 awY.t) HM9.out.at_.inside [oN aw4,oN aw5] (by intro q hq;simp only [List.mem_cons,List.not_mem_nil,or_false] at hq;rcases hq with rfl | rfl<;>rfl));rw [show [oN aw4,oN aw5].flatMap OpR.cs=(oN aw4).cs++(oN aw5).cs from by simp] at HO10;have HB10:Hid (Below w9.heap.size w9 (w9.alloc (.cells ((oN aw4).cs++(oN aw5).cs).toArray 77))):=(Below.refl _ _).alloc (Nat.le_refl _) _;generalize (w9.alloc (.cells ((oN aw4).cs++(oN aw5).cs).toArray 77))=w10 at *;have HM10:=Hd (HM9.out.below HB10.out);have HC10:=Hd (HC9.out.below HB10.out)
 have HK10:=Hd (HK9.out.below' HB10.out);generalize w9.heap.size=k9 at *;have HAP:=Hd (applied HM10.out.at_ awY_sane [oN aw4,oN aw5] (some ⟨k9,0,none⟩) 2 HO10.out (by intro q hq;simp only [List.mem_cons,List.not_mem_nil,or_false] at hq;rcases hq with rfl | rfl<;>exact aw_ok (by simp [oN])) (roomZ (by rw [awY_t];decide) (by simp)) (by simp));rw [show applyS awZ.2.2 setSt awY ([oN aw4,oN aw5].map (·.o))=(awY,1,36) from aw_apply2 awY_t] at HAP;unfold ApplyQ at HAP;refine HAP.out.mono ?_;rintro e w11 ⟨s11,rfl,hs11,ht11⟩;have HM11:=Hd (HM10.out.turn hs11 ht11)
 have HK11:Hid (Blk w11 k7 (⟨65536,0,0,65536,196608,65536⟩:Mp).cs):=HK10.out.stays (ht11.far k7 HK10.out.inside HNK.out).2;have HC11:Hid (SceneAt w11 g2 b2 m2 s2 ⟨awZ.1,awZ.2,fun _=>False⟩ awY):=HC10.out.part (fun k hk hn=>(ht11.far k hk fun e=>hn (.inr e)).2) fun k hk=>hk.elim;clear hs11 ht11 HAP HM10 HO10 HB10 HM9 HC9 HC10 HK9 HK10 HNK;go_wp2_with (fail);refine (node_any HM11.out.at_ awY_sane.fit 0 ⟨by decide,by decide⟩).mono ?_;rw [show has awY.t 0=true from by rw [awY_t];decide]
 obtain ⟨n0,hn0⟩:∃ n0,ndAt awY 0=n0:=⟨_,rfl⟩
 have HN0:Hid (n0.hi=false):=by rw [← hn0];unfold ndAt;rw [awY_t,if_pos (by decide),awY_nd];rfl
 rw [hn0];rintro e w12 ⟨A12,c12,rfl,hb12,-,-⟩;have HM12:=Hd (HM11.out.below hb12);have HC12:=Hd (HC11.out.below hb12);have HK12:=Hd (HK11.out.below' hb12);clear hb12 hn0 HM11 HC11 HK11;have HZ12:Hid (Blk (w12.alloc (.cells Va.toArray 72)) w12.heap.size Va):=blk_new w12 Va _;have HB12:Hid (Below w12.heap.size w12 (w12.alloc (.cells Va.toArray 72))):=(Below.refl _ _).alloc (Nat.le_refl _) _
 go_upto_region 10 with (first | (with_reducible refine gS ?_;first | (refine wpl_stow 72 _ _ rfl rfl rfl _ 0 rfl (n0.cs A12 c12) rfl (Va) HZ12.out (n0.cs A12 c12) rfl (Nat.le_of_ble_eq_true rfl) (by kernel_rfl) (Nd.one _ _ _) ?_;intro w13 HW13 HK13)))
 have HB13:Hid (Below w12.heap.size w12 w13):=HW13.out.below HB12.out (Nat.le_refl _);have HM13:=Hd (HM12.out.below HB13.out);have HC13:=Hd (HC12.out.below HB13.out);have HKM:=Hd (HK12.out.below' HB13.out)
 obtain ⟨k12,hk12⟩:∃ k12,w12.heap.size=k12:=⟨_,rfl⟩
 rw [hk12] at HK13 ⊢;clear HZ12 HB12 HW13 HM12 HC12 HK12 HB13 hk12;have HT:Hid (awY.t=[(1,0)]):=awY_t;have HF:Hid (∀ i,Fit (awY.nd i)):=awY_sane.fit;have hms:=fun w=>mp_sameD w
 have HLEN:Hid (∀ W,regs.bl w13 W->Calls Tryz.prog 320 #[.pointer (some ⟨b,0,none⟩)] W fun e w'=>e=.returned (.int .i64 2)∧Below W.heap.size W w'):=fun W hb=>by
  have:=tlen (HM13.out.at_.below hb).tree;rw [HT.out] at this;exact this
 have HPAR:Hid (∀ W,regs.bl w13 W->Calls Tryz.prog 321 #[.pointer (some ⟨b,0,none⟩),.int .i64 1] W fun e w'=>e=.returned (.int .i64 0)∧Below W.heap.size W w'):=fun W hb=>by
  have:=tparent (HM13.out.at_.below hb).tree 1 ⟨by decide,by decide⟩;rw [HT.out,show par [(1,0)] 1=0 from by decide] at this;exact this
 refine wRn [63,64,65,66,67,68,69,70,71,72,73,74,75,76,77,78,79,80,81,82,83,84,85,86,87,88,89,90,91,92,93,94,95,96,97,98,99,100,101,102,103,104,105,106,107,108,109,110,111,112,113,114,115,116,117,118,119,120,121,122,123,124,125,0] (fun i=>match i with
  |0=>rV (.int .i64 3)
  |1|2|4|5|6|7|8|9|12|13|14|16|17|18|20|21|22|23|24|25|28|29|30|36|37|38=>rT
  |3=>rV (.int .i64 0)
  |10|11=>rV (.agg ((⟨65536,0,0,65536,196608,65536⟩:Mp).cs).toArray)
  |15=>rV (.int .i64 1)
  |19=>rV (.int .i64 36)
  |26=>rp k12 7
  |27=>rV (.bool false)
  |31|32|33|39|40|41=>rp g 0
  |34|42=>rV (.iface 109 (.pointer (some ⟨b,0,none⟩)))
  |35=>rV (.int .i64 2)
  | 43=>(⟨fun v wv=>∃ g9,v=.slice (some ⟨g9,0,none⟩) 1 1∧Blk wv g9 [.int .i64 1],fun v w1 w2 h hb=>h.elim fun g9 h=>⟨g9,h.1,Blk.below' h.2 hb⟩⟩:regs.Say regs.bl)
  |44|45|46|52|53|54|56|57|58|61|62|63=>rT
  |47|48|49|59=>rp g 0
  |50=>rV (.iface 109 (.pointer (some ⟨b,0,none⟩)))
  |51=>rV (.int .i64 0)
  |55|60=>rp g2 0
  | _=>ra) ⟨?_,?_,?_,?_,?_,?_,?_,?_,?_,?_,?_,?_,?_,?_,?_,?_,?_,?_,?_,?_,?_,?_,?_,?_,?_,?_,?_,?_,?_,?_,?_,?_,?_,?_,?_,?_,?_,?_,?_,?_,?_,?_,?_,?_,?_,?_,?_,?_,?_,?_,?_,?_,?_,?_,?_,?_,?_,?_,?_,?_,?_,?_,?_,?_,trivial⟩ ?_
 ·refine zp fun L a w1 hh=>?_;have h5:=hh.o 5 (v:=.int .i64 3) rfl;clear hh;go_simp;exact ⟨_,rfl,rB,rfl,trivial⟩
 ·refine zp fun L a w1 hh=>?_;have h63:=rq (hh.d 0 63);clear hh;go_simp;exact ⟨_,rfl,rB,rfl,trivial⟩
 ·refine zp fun L a w1 hh=>?_;have h64:=rq (hh.d 1 64);clear hh;go_simp;exact ⟨_,rfl,rB,rfl,trivial⟩
 ·refine sy rfl rfl fun L a w1 hh=>?_;have h6:=hh.o 6 (v:=.int .i64 0) rfl;clear hh;go_simp;exact ⟨_,rfl,rB,rfl,trivial⟩
 ·refine sy rfl rfl fun L a w1 hh=>?_;have h66:=rq (hh.d 3 66);clear hh;go_simp;exact ⟨_,rfl,rB,rfl,trivial⟩
 ·refine zp fun L a w1 hh=>?_;have h65:=rq (hh.d 2 65);have h67:=rq (hh.d 4 67);clear hh;go_simp;exact ⟨_,rfl,rB,rfl,trivial⟩
 ·refine zp fun L a w1 hh=>?_;have h68:=rq (hh.d 5 68);clear hh;go_simp;exact ⟨_,rfl,rB,rfl,trivial⟩
 ·refine sy rfl rfl fun L a w1 hh=>?_;have h8:=hh.o 8 (v:=.bool true) rfl;clear hh;go_simp;exact ⟨_,rfl,rB,rfl,trivial⟩
 ·refine zp fun L a w1 hh=>?_;have h69:=rq (hh.d 6 69);have h70:=rq (hh.d 7 70);clear hh;go_simp;exact ⟨_,rfl,rB,rfl,trivial⟩
 ·refine zp fun L a w1 hh=>?_;have h71:=rq (hh.d 8 71);clear hh;go_simp;exact ⟨_,rfl,rB,rfl,trivial⟩
 ·refine sy rfl rfl fun L a w1 hh=>?_;have h7:=hh.p 7 k7 0;have hB:=Hd (Blk.below' HKM.out hh.rel);have hJ:=Hd hh.st;exact wp_take 68 _ rfl k7 0 (by simpa [go_sem] using h7) _ hB.out ((⟨65536,0,0,65536,196608,65536⟩:Mp).cs) rfl _ Tryz.underlying68 rfl (by kernel_rfl) ⟨_,rfl,rB,rfl,hJ.out⟩
 ·refine sy rfl rfl fun L a w1 hh=>?_;have hC:=Hd (mp_shift 196608 65536 w1);have hJ:=hh.j;clear hh;go_simp;refine hC.out.mono ?_;rintro e w9 ⟨rfl,hb9⟩;exact ⟨_,rfl,hb9,rfl,hJ.out⟩
 ·refine sy rfl rfl fun L a w1 hh=>?_;have h73:=rq (hh.d 10 73);have h74:=rq (hh.d 11 74);clear hh;go_simp;exact ⟨_,rfl,rB,rfl,trivial⟩
 ·refine zp fun L a w1 hh=>?_;have h72:=rq (hh.d 9 72);have h75:=rq (hh.d 12 75);clear hh;go_simp;exact ⟨_,rfl,rB,rfl,trivial⟩
 ·refine zp fun L a w1 hh=>?_;have h76:=rq (hh.d 13 76);clear hh;go_simp;exact ⟨_,rfl,rB,rfl,trivial⟩
 ·refine sy rfl rfl fun L a w1 hh=>?_;have h10:=hh.o 10 (v:=.int .i64 1) rfl;clear hh;go_simp;exact ⟨_,rfl,rB,rfl,trivial⟩
 ·refine sy rfl rfl fun L a w1 hh=>?_;have h78:=rq (hh.d 15 78);clear hh;go_simp;exact ⟨_,rfl,rB,rfl,trivial⟩
 ·refine zp fun L a w1 hh=>?_;have h77:=rq (hh.d 14 77);have h79:=rq (hh.d 16 79);clear hh;go_simp;exact ⟨_,rfl,rB,rfl,trivial⟩
 ·refine zp fun L a w1 hh=>?_;have h80:=rq (hh.d 17 80);clear hh;go_simp;exact ⟨_,rfl,rB,rfl,trivial⟩
 ·refine sy rfl rfl fun L a w1 hh=>?_;have h11:=hh.o 11 (v:=.int .i64 36) rfl;clear hh;go_simp;exact ⟨_,rfl,rB,rfl,trivial⟩
 ·refine sy rfl rfl fun L a w1 hh=>?_;have h82:=rq (hh.d 19 82);clear hh;go_simp;exact ⟨_,rfl,rB,rfl,trivial⟩
 ·refine zp fun L a w1 hh=>?_;have h81:=rq (hh.d 18 81);have h83:=rq (hh.d 20 83);clear hh;go_simp;exact ⟨_,rfl,rB,rfl,trivial⟩
 ·refine zp fun L a w1 hh=>?_;have h84:=rq (hh.d 21 84);clear hh;go_simp;exact ⟨_,rfl,rB,rfl,trivial⟩
 ·refine sy rfl rfl fun L a w1 hh=>?_;have h13:=hh.o 13 (v:=.bool true) rfl;clear hh;go_simp;exact ⟨_,rfl,rB,rfl,trivial⟩
 ·refine zp fun L a w1 hh=>?_;have h85:=rq (hh.d 22 85);have h86:=rq (hh.d 23 86);clear hh;go_simp;exact ⟨_,rfl,rB,rfl,trivial⟩
 ·refine zp fun L a w1 hh=>?_;have h87:=rq (hh.d 24 87);clear hh;go_simp;exact ⟨_,rfl,rB,rfl,trivial⟩
 ·refine sy rfl rfl fun L a w1 hh=>?_;have h12:=hh.p 12 k12 0;have i0:=(Blk.below' HK13.out hh.rel).inside;clear hh;go_simp;exact ⟨_,rfl,rB,rfl,trivial⟩
 ·refine sy rfl rfl fun L a w1 hh=>?_;have h89:=rq (hh.d 26 89);have hB:=Hd (Blk.below' HK13.out hh.rel);have c0:=hB.out.c 7 rfl;rw [HN0.out] at c0;have i0:=hB.out.inside;clear hh;go_simp;exact ⟨_,rfl,rB,rfl,trivial⟩
 ·refine sy rfl rfl fun L a w1 hh=>?_;have h90:=rq (hh.d 27 90);clear hh;go_simp;exact ⟨_,rfl,rB,rfl,trivial⟩
 ·refine zp fun L a w1 hh=>?_;have h88:=rq (hh.d 25 88);have h91:=rq (hh.d 28 91);clear hh;go_simp;exact ⟨_,rfl,rB,rfl,trivial⟩
 ·refine zp fun L a w1 hh=>?_;have h92:=rq (hh.d 29 92);clear hh;go_simp;exact ⟨_,rfl,rB,rfl,trivial⟩
 ·refine sy rfl rfl fun L a w1 hh=>?_;have h1:=hh.p 1 g 0;clear hh;go_simp;exact ⟨_,rfl,rB,rfl,trivial⟩
 ·refine sy rfl rfl fun L a w1 hh=>?_;have h94:=rq (hh.d 31 94);clear hh;go_simp;exact ⟨_,rfl,rB,rfl,trivial⟩
 ·refine sy rfl rfl fun L a w1 hh=>?_;have h95:=rq (hh.d 32 95);have i0:=((HM13.out.at_.below hh.rel).blk.blk).inside;clear hh;go_simp;exact ⟨_,rfl,rB,rfl,trivial⟩
 ·refine sy rfl rfl fun L a w1 hh=>?_;have h96:=rq (hh.d 33 96);have hB:=Hd ((HM13.out.at_.below hh.rel).blk.blk);have c0:=hB.out.c 0 rfl;have i0:=hB.out.inside;clear hh;go_simp;exact ⟨_,rfl,rB,rfl,trivial⟩
 ·refine sy rfl rfl fun L a w1 hh=>?_;have h97:=rq (hh.d 34 97);have hinv:=inv_len (.pointer (some ⟨b,0,none⟩));have hC:=Hd (HLEN.out _ hh.rel);have hJ:=hh.j;clear hh;go_simp;refine hC.out.mono ?_;rintro e w9 ⟨rfl,hb9⟩;exact ⟨_,rfl,hb9,rfl,hJ.out⟩
 ·refine sy rfl rfl fun L a w1 hh=>?_;have h98:=rq (hh.d 35 98);clear hh;go_simp;exact ⟨_,rfl,rB,rfl,trivial⟩
 ·refine zp fun L a w1 hh=>?_;have h93:=rq (hh.d 30 93);have h99:=rq (hh.d 36 99);clear hh;go_simp;exact ⟨_,rfl,rB,rfl,trivial⟩
 ·refine zp fun L a w1 hh=>?_;have h100:=rq (hh.d 37 100);clear hh;go_simp;exact ⟨_,rfl,rB,rfl,trivial⟩
 ·refine sy rfl rfl fun L a w1 hh=>?_;have h1:=hh.p 1 g 0;clear hh;go_simp;exact ⟨_,rfl,rB,rfl,trivial⟩
 ·refine sy rfl rfl fun L a w1 hh=>?_;have h102:=rq (hh.d 39 102);clear hh;go_simp;exact ⟨_,rfl,rB,rfl,trivial⟩
 ·refine sy rfl rfl fun L a w1 hh=>?_;have h103:=rq (hh.d 40 103);have i0:=((HM13.out.at_.below hh.rel).blk.blk).inside;clear hh;go_simp;exact ⟨_,rfl,rB,rfl,trivial⟩
 ·refine sy rfl rfl fun L a w1 hh=>?_;have h104:=rq (hh.d 41 104);have hB:=Hd ((HM13.out.at_.below hh.rel).blk.blk);have c0:=hB.out.c 0 rfl;have i0:=hB.out.inside;clear hh;go_simp;exact ⟨_,rfl,rB,rfl,trivial⟩
 ·refine sy rfl rfl fun L a w1 hh=>?_;have hJ:=hh.j;clear hh;exact wp_bs _ _ _ rfl (by simp [go_sem]) (bs_int1 1 w1) ⟨_,rfl,(Below.refl _ _).alloc (Nat.le_refl _) _,⟨_,rfl,blk_new w1 [.int .i64 1] _⟩,hJ.out⟩
 ·refine sy rfl rfl fun L a w1 hh=>?_;have h105:=rq (hh.d 42 105)
  obtain ⟨g9,e9,hB9⟩:=(show ∃ g9,(a.tmps.getD 106 undef)=.slice (some ⟨g9,0,none⟩) 1 1∧Blk w1 g9 [.int .i64 1] from hh.d 43 106)
  have h106:a.tmps[106]?.getD undef=.slice (some ⟨g9,0,none⟩) 1 1:=rq (e9);have hinv:=inv_has (.pointer (some ⟨b,0,none⟩));have hC:=Hd (thas (HM13.out.at_.below hh.rel).tree (some ⟨g9,0,none⟩) [1] 1 (fun _=>⟨g9,0,rfl,fun j hj=>by have:j=0:=(by simp at hj;omega);subst this;exact hB9.cell 0⟩) (fun z hz=>by rw [List.mem_singleton.1 hz];exact ⟨by decide,by decide⟩) (by simp));rw [show ([1].all (has awY.t))=true from by rw [HT.out];decide] at hC;clear e9 hB9;have hJ:=hh.j;clear hh;go_simp;refine hC.out.mono ?_;rintro e w9 ⟨rfl,hb9⟩;exact ⟨_,rfl,hb9,rfl,hJ.out⟩
 ·refine zp fun L a w1 hh=>?_;have h101:=rq (hh.d 38 101);have h107:=rq (hh.d 44 107);clear hh;go_simp;exact ⟨_,rfl,rB,rfl,trivial⟩
 ·refine zp fun L a w1 hh=>?_;have h108:=rq (hh.d 45 108);clear hh;go_simp;exact ⟨_,rfl,rB,rfl,trivial⟩
 ·refine sy rfl rfl fun L a w1 hh=>?_;have h1:=hh.p 1 g 0;clear hh;go_simp;exact ⟨_,rfl,rB,rfl,trivial⟩
 ·refine sy rfl rfl fun L a w1 hh=>?_;have h110:=rq (hh.d 47 110);clear hh;go_simp;exact ⟨_,rfl,rB,rfl,trivial⟩
 ·refine sy rfl rfl fun L a w1 hh=>?_;have h111:=rq (hh.d 48 111);have i0:=((HM13.out.at_.below hh.rel).blk.blk).inside;clear hh;go_simp;exact ⟨_,rfl,rB,rfl,trivial⟩
 ·refine sy rfl rfl fun L a w1 hh=>?_;have h112:=rq (hh.d 49 112);have hB:=Hd ((HM13.out.at_.below hh.rel).blk.blk);have c0:=hB.out.c 0 rfl;have i0:=hB.out.inside;clear hh;go_simp;exact ⟨_,rfl,rB,rfl,trivial⟩
 ·refine sy rfl rfl fun L a w1 hh=>?_;have h113:=rq (hh.d 50 113);have hinv:=inv_parent (.pointer (some ⟨b,0,none⟩));have hC:=Hd (HPAR.out _ hh.rel);have hJ:=hh.j;clear hh;go_simp;refine hC.out.mono ?_;rintro e w9 ⟨rfl,hb9⟩;exact ⟨_,rfl,hb9,rfl,hJ.out⟩
 ·refine sy rfl rfl fun L a w1 hh=>?_;have h114:=rq (hh.d 51 114);clear hh;go_simp;exact ⟨_,rfl,rB,rfl,trivial⟩
 ·refine zp fun L a w1 hh=>?_;have h109:=rq (hh.d 46 109);have h115:=rq (hh.d 52 115);clear hh;go_simp;exact ⟨_,rfl,rB,rfl,trivial⟩
 ·refine zp fun L a w1 hh=>?_;have h116:=rq (hh.d 53 116);clear hh;go_simp;exact ⟨_,rfl,rB,rfl,trivial⟩
 ·refine sy rfl rfl fun L a w1 hh=>?_;have h9:=hh.p 9 g2 0;clear hh;go_simp;exact ⟨_,rfl,rB,rfl,trivial⟩
 ·refine sy rfl rfl fun L a w1 hh=>?_;have h118:=rq (hh.d 55 118);clear hh;go_simp;exact ⟨_,rfl,rB,rfl,trivial⟩
 ·refine zp fun L a w1 hh=>?_;have h117:=rq (hh.d 54 117);have h119:=rq (hh.d 56 119);clear hh;go_simp;exact ⟨_,rfl,rB,rfl,trivial⟩
 ·refine zp fun L a w1 hh=>?_;have h120:=rq (hh.d 57 120);clear hh;go_simp;exact ⟨_,rfl,rB,rfl,trivial⟩
 ·refine sy rfl rfl fun L a w1 hh=>?_;have h1:=hh.p 1 g 0;clear hh;go_simp;exact ⟨_,rfl,rB,rfl,trivial⟩
 ·refine sy rfl rfl fun L a w1 hh=>?_;have h9:=hh.p 9 g2 0;clear hh;go_simp;exact ⟨_,rfl,rB,rfl,trivial⟩
 ·refine sy rfl rfl fun L a w1 hh=>?_;have h122:=rq (hh.d 59 122);have h123:=rq (hh.d 60 123);have hC:=Hd (sequal (HM13.out.at_.below hh.rel) (HC13.out.below hh.rel) HF.out HF.out (by rw [HT.out];decide) (by rw [HT.out];decide) ⟨rfl,rfl⟩);unfold EqQ at hC;have hJ:=hh.j;clear hh;go_simp;refine hC.out.mono ?_;rintro e w9 ⟨r9,rfl,hr9,hb9⟩;obtain rfl:r9=true:=hr9.2 (same_self _);exact ⟨_,rfl,hb9,rfl,hJ.out⟩
 ·refine zp fun L a w1 hh=>?_;have h121:=rq (hh.d 58 121);have h124:=rq (hh.d 61 124);clear hh;go_simp;exact ⟨_,rfl,rB,rfl,trivial⟩
 ·refine zp fun L a w1 hh=>?_;have h125:=rq (hh.d 62 125);clear hh;go_simp;exact ⟨_,rfl,rB,rfl,trivial⟩
 intro L w14 val hL hJ hR hv;have h0:val 0=.bool true:=hv 63 0 (by kernel_rfl);have HR14:=Hd hR;clear hv hL hJ hR;simp only [regs.putAll,List.map_cons,List.map_nil,h0];simp only [Act.put,List.setIfInBounds_toArray,List.set_cons_zero,List.set_cons_succ];clear h0
 generalize val 63=v63,val 64=v64,val 65=v65,val 66=v66,val 67=v67,val 68=v68,val 69=v69,val 70=v70,val 71=v71,val 72=v72,val 73=v73,val 74=v74,val 75=v75,val 76=v76,val 77=v77,val 78=v78,val 79=v79,val 80=v80,val 81=v81,val 82=v82,val 83=v83,val 84=v84,val 85=v85,val 86=v86,val 87=v87,val 88=v88,val 89=v89,val 90=v90,val 91=v91,val 92=v92,val 93=v93,val 94=v94,val 95=v95,val 96=v96,val 97=v97,val 98=v98,val 99=v99,val 100=v100,val 101=v101,val 102=v102,val 103=v103,val 104=v104,val 105=v105,val 106=v106,val 107=v107,val 108=v108,val 109=v109,val 110=v110,val 111=v111,val 112=v112,val 113=v113,val 114=v114,val 115=v115,val 116=v116,val 117=v117,val 118=v118,val 119=v119,val 120=v120,val 121=v121,val 122=v122,val 123=v123,val 124=v124,val 125=v125 at *
 go_wp2_with (fail);go_ret;exact ⟨rfl,HM13.out.bel.trans (HR14.out.mono HM13.out.bel.size)⟩
end
end Go.Proofs.YthpifjcddgmjnaaGreat
