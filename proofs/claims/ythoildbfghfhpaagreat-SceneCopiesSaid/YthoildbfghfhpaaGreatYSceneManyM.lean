import Derived.Test.YthoildbfghfhpaaGreatYSci
set_option maxHeartbeats 16000000
set_option maxRecDepth 100000
namespace Go.Proofs.YthoildbfghfhpaaGreat
section
open Go.RowKit pxm imm trm Go.Maps
theorem room_len {M:Int} {x:PSc} {l:List Op9} (ok:Ok x.t) (h:Room M x l.length):(allS M x l).1.t.length<=900:=by
 obtain ⟨h1,h2⟩:=h;rcases h2 with h2 | ⟨h2,h3⟩
 ·have:=allS_len (M:=M) l ok;omega
 ·rcases allS_room (M:=M) l ok with h4 | h4
  ·omega
  ·omega
structure Sane (x:PSc):Prop where
 ok:Ok x.t
 good:Good x
 set:Settled x fun _=>False
 fit:∀ i,Fit (x.nd i)
theorem Settled.ops {M:Int} {x:PSc} {l:List Op9} (h:Sane x) (hz:(allS M x l).2.2=0):Settled (allS M x l).1 (tch l):=
 (Settled.all l h.ok h.set hz).mono fun _ hj=>hj.elim (fun e=>e.elim) id
theorem setSt_ok {x:PSc} (h:Ok x.t):Ok (setSt x).1.t:=by rw [setSt_t];exact h
theorem Sane.apply {M:Int} {x:PSc} (h:Sane x) {l:List Op9} (ho:∀ o∈l,OpOk o):Sane (applyS M setSt x l).1:=by
 unfold applyS;split
 ·exact h
 split
 ·exact h
 split
 ·exact h
 ·rename_i h1 h2 h3
  have hz:(setSt (allS M x l).1).2=0:=by simpa using h3
  refine ⟨setSt_ok (allS_ok l h.ok),fun i=>?_,setSt_settled hz,fun i=>?_⟩
  ·show ((setSt (allS M x l).1).1.nd i).chk=0;rw [setSt_nd];exact allS_good l h.good i
  ·show Fit ((setSt (allS M x l).1).1.nd i);rw [setSt_nd];exact allS_fit l ho h.fit i
theorem applyS_len {M:Int} {x:PSc} {l:List Op9} (ok:Ok x.t):(applyS M setSt x l).1.t.length<=x.t.length+l.length∧((applyS M setSt x l).1.t.length<=x.t.length∨(((applyS M setSt x l).1.t.length+1:Nat):Int)<=M):=by
 unfold applyS;split
 ·exact ⟨Nat.le_add_right _ _,.inl nR⟩
 split
 ·exact ⟨Nat.le_add_right _ _,.inl nR⟩
 split
 ·exact ⟨Nat.le_add_right _ _,.inl nR⟩
 ·simp only;rw [setSt_t];exact ⟨allS_len l ok,allS_room l ok⟩
theorem applied {w:World} {g b m:Nat} {s:Sh} {Z:ZZ} {x:PSc} (h:SceneAt w g b m s Z x) (hx:Sane x) (l:List OpR) (A:Option Addr) (c:Nat) (ho:OpsAt (SFoot b m s x.t) w A l) (hok:∀ q∈l,OpOk q.o) (hn:l.length<=1024->Room Z.2.2 x l.length) (hlen:l.length<=1000000) :
  Calls Tryz.prog 31 #[.pointer (some ⟨g,0,none⟩),.slice A l.length c] w (ApplyQ g b m Z s x (applyS Z.2.2 setSt x (l.map (·.o))) w):=by
 have hok':∀ o∈l.map (·.o),OpOk o:=fun o ho'=>by
  obtain ⟨q,h1,h2⟩:=List.mem_map.1 ho';rw [← h2];exact hok q h1
 refine apply_any h l A c ho hok hx.fit hn hlen setSt (fun W s1 E hl hz hs hoA=>?_) (fun e=>setSt_not e);have hr:=hn hl;exact settle_any (Z:=⟨Z.1,Z.2,E⟩) hs (room_len h.tree.ok (by rw [List.length_map];exact hr)) (allS_good _ hx.good) l A c hoA hok hl (Settled.ops hx hz)
end
section
open Go.RowKit pxm imm trm Go.Maps
theorem es_ge {es:LV} {t:T} (ok:Ok t) (h:∀ i,has t i=true->omap.look es i≠none):t.length+1<=es.length:=by
 have hn:(0::ids t).Nodup:=List.nodup_cons.2 ⟨fun e=>ok.ne0 e rfl,ok.nd⟩
 have:=len_of_sub (m:=es.map (·.1)) hn fun i hi=>by
  have hh:has t i=true:=has_iff.2 (by rcases List.mem_cons.1 hi with e | e;exact .inl e;exact .inr e);cases hl:omap.look es i with
  | none=>exact absurd hl (h i hh)
  | some v=>exact List.mem_map.2 ⟨(i,v),omap.look_mem hl,rfl⟩
 rwa [List.length_cons,ids_len,List.length_map] at this
theorem SceneAt.es_len {es:LV} {t:T} (ok:Ok t) (hr:omap.Rises lt es) (h1:∀ i,omap.look es i≠none->has t i=true) (h2:∀ i,has t i=true->∃ v,omap.look es i=some v):es.length=t.length+1:=
 Nat.le_antisymm (es_le hr h1) (es_ge ok fun i hi=>by obtain ⟨v,e⟩:=h2 i hi;rw [e];simp)
section
variable {w:World} {g b m:Nat} {s:Sh} {Z:ZZ} {x:PSc} {g2 b2 m2:Nat} {s2:Sh} {Z2:ZZ} {y:PSc}
theorem mequal (h:SceneAt w g b m s Z x) (h2:SceneAt w g2 b2 m2 s2 Z2 y) (hfx:∀ i,Fit (x.nd i)) (hfy:∀ i,Fit (y.nd i)) (hal:∀ q,kids x.t q=kids y.t q) :
  Calls Tryz.prog 44 #[.map (some m),.map (some m2),.func (.func 45) #[] #[]] w fun e w'=>∃ r,e=.returned (.bool r)∧(r=true↔∀ i,has x.t i=true->eqN (x.nd i) (y.nd i)=true)∧Below w.heap.size w w':=by
 obtain ⟨es,hm,h11,h12⟩:=h.map;obtain ⟨fs,hm2,h21,h22⟩:=h2.map
 have hlen:fs.length=es.length:=by
  rw [SceneAt.es_len h.tree.ok hm.rises h11 (fun i hi=>(h12 i hi).imp fun v h=>h.1),SceneAt.es_len h2.tree.ok hm2.rises h21 (fun i hi=>(h22 i hi).imp fun v h=>h.1),alike_len h.tree.ok h2.tree.ok hal]
 have HS:=Hd h;have HS2:=Hd h2;have HFX:=Hd hfx;have HFY:=Hd hfy;have HAL:=Hd hal;have HM:=Hd (And.intro hm (And.intro h11 h12));have HM2:=Hd hm2;have hl1:=fun ty=>hm.len und_places ty;have hl2:=fun ty=>hm2.len und_places ty;rw [hlen] at hl2;have hown:=hm.own;have hsm:∀ args w,(callFunc 45 args).run Tryz.prog w=.ok (.enter 45 args) w:=enters_of Tryz.func45 (by kernel_rfl) rfl;clear h h2 hfx hfy hal hm hm2 h11 h12 h21 h22 hlen;go_enter Tryz.func44,Tryz.ntmps44
 go_wp2_with (at_range;refine wpList_range_own _ rfl _ tPlaces rfl 3 tPlaced keyedI und_places anyE m es.length (mapV es) rfl hown ?_;intro w0 hrg0 hg0 hs0)
 go_frame
 have hb0:Below w.heap.size w w0:=⟨hg0.os,hg0.tape,hg0.output,hg0.size,fun k hk=>hg0.block k hk (by simp)⟩
 have HB0:=Hd hb0;have HRG:=Hd hrg0;clear hrg0 hg0 hs0 hb0 hl1 hl2 hown
 go_loopw [] (fun wr=>∃ (left:Lit->Bool) (cnt:Nat),Hid (wr.ranges Tryz.prog 3 anyE m w.heap.size es.length (mapV es) left cnt)∧Hid (Below w.heap.size w wr)∧Hid (∀ i,has x.t i=true->left (.int .i64 i)=false->eqN (x.nd i) (y.nd i)=true)) (fun wr=>wr.rangeLeft m w.heap.size)
 case atStart=>
  refine ⟨_,_,HRG.out,HB0.out,fun i hi hf=>?_⟩;obtain ⟨v,hv,-⟩:=HM.out.2.2 i hi;rw [has_mapV_of hv] at hf;cases hf
 case round=>
  obtain ⟨left,cnt,hrg,hbw,hso⟩:=hrel;generalize wr=wA at *;clear HRG HB0;go_wp2_with (at_next;refine wpList_next_ranges _ rfl _ rfl 3 keyedI anyE (Value.int .i64) id (fun key kl hk=>by obtain ⟨x,hx,_⟩:=Maps.keyOf_int_inv Tryz.underlying3 hk;exact ⟨x,hx⟩) (fun v y hv=>⟨v,rfl⟩) m w.heap.size es.length (mapV es) left cnt rfl hrg.out ?_ ?_)
  ·intro _ hl0;have HL0:=Hd hl0;clear hl0;go_wp2_with (fail);go_ret;exact ⟨true,rfl,⟨fun _ i hi=>hso.out i hi (HL0.out _),fun _=>rfl⟩,hbw.out⟩
  ·intro x2 c2 kl yd yp w2 cnt1 hkey hlk hv hat hrg1 hlt hg1 hs1 hen;obtain ⟨rfl,hx64,hlb⟩:=cameV hkey hv hat;have hhx:has x.t x2=true:=HM.out.2.1 x2 (by rw [hlb];simp);have hhy:has y.t x2=true:=by rw [← alike_has HAL.out];exact hhx
   obtain ⟨n1,A1,c1,u1,hc2,hr1,hn1⟩:∃ n1 A1 c1 u1,c2=.agg (plcs n1 A1 c1 u1).toArray∧Row eW w A1 n1.lk.l∧x.nd x2=n1:=by
    obtain ⟨v,e,A,c,e2,hv2⟩:=HM.out.2.2 x2 hhx;rw [hlb] at e;exact ⟨x.nd x2,A,c,x.ws x2,(Option.some.inj e).trans e2,hv2.1,rfl⟩
   subst hc2;have hb1:Below w.heap.size w w2:=hbw.out.trans ⟨hg1.os,hg1.tape,hg1.output,hg1.size,fun k hk=>hg1.block k (by have:=hbw.out.size;omega) (fun e=>by have:=Option.some.inj e;omega)⟩;obtain ⟨A2,d2,hlk2⟩:=HS2.out.look_b hx64 hhy
   obtain ⟨n2,hn2⟩:∃ n2,y.nd x2=n2:=⟨_,rfl⟩
   obtain ⟨u2,hu2⟩:∃ u2,y.ws x2=u2:=⟨_,rfl⟩
   rw [hn2,hu2] at hlk2;have HLK2:=Hd hlk2;have HF1:Hid (n1.lk.l.length<=300):=by rw [← hn1];exact (HFX.out x2).len
   have HF2:Hid (n2.lk.l.length<=300):=by rw [← hn2];exact (HFY.out x2).len
   have HR1:=Hd hr1;have HNN:=Hd (And.intro hn1 hn2);have HHX:=Hd hhx;have HB1:=Hd hb1;have HRG1:=Hd hrg1;have HME:Hid (w2.rangeLeft m w.heap.size<wA.rangeLeft m w.heap.size):=by show _<_;rw [hrg1.left_eq,hrg.out.left_eq];exact hlt
   have HZ1:Hid (Blk (w2.alloc (.cells Ve.toArray 121)) w2.heap.size Ve):=blk_new w2 Ve _;have HBa:Hid (Below w2.heap.size w2 (w2.alloc (.cells Ve.toArray 121))):=bR.alloc nR _;clear hkey hlk hv hat hrg1 hlt hg1 hs1 hlb hx64 hhx hhy hr1 hn1 hn2 hu2 hb1 hlk2
   go_upto_region 6 with (first | (with_reducible refine gS ?_;first | (refine wpl_stow 121 _ _ rfl rfl rfl _ 0 rfl (plcs n1 A1 c1 u1) rfl (Ve) HZ1.out (plcs n1 A1 c1 u1) rfl (nE rfl) (by kernel_rfl) (plcs_one _ _ _ _) ?_;intro w3 HW3 HK3)))
   have HB3:Hid (Below w2.heap.size w2 w3):=HW3.out.below HBa.out nR;have HB03:=Hd (HB1.out.trans (HB3.out.mono HB1.out.size));have hlk2:=(HLK2.out w3 HB03.out).2.1;have HZ3:Hid (Blk (w3.alloc (.cells Ve.toArray 121)) w3.heap.size Ve):=blk_new w3 Ve _;have HBb:Hid (Below w3.heap.size w3 (w3.alloc (.cells Ve.toArray 121))):=bR.alloc nR _
   obtain ⟨k8,hk8⟩:∃ k8,w2.heap.size=k8:=⟨_,rfl⟩
   rw [hk8] at HK3 ⊢;clear HZ1 HBa HW3 hen hk8
   go_upto_region 7 with (first | (with_reducible refine gS ?_;first | (refine wpl_stow 121 _ _ rfl rfl rfl _ 0 rfl (plcs n2 A2 d2 u2) rfl (Ve) HZ3.out (plcs n2 A2 d2 u2) rfl (nE rfl) (by kernel_rfl) (plcs_one _ _ _ _) ?_;intro w4 HW4 HK4)))
   have HB4:Hid (Below w3.heap.size w3 w4):=HW4.out.below HBb.out nR;have HB04:=Hd (HB03.out.trans (HB4.out.mono HB03.out.size));have HK3b:Hid (Blk w4 k8 (plcs n1 A1 c1 u1)):=HK3.out.below' HB4.out;have HB24:Hid (Below w2.heap.size w2 w4):=HB3.out.trans (HB4.out.mono HB3.out.size);have HSN:=Hd (same_node n1 n2 A1 A2 c1 d2 u1 u2 HF1.out HF2.out w4 (Row.below HR1.out HB04.out) (HLK2.out w4 HB04.out).2.2.1);unfold plv at HSN
   obtain ⟨k9,hk9⟩:∃ k9,w3.heap.size=k9:=⟨_,rfl⟩
   rw [hk9] at HK4 ⊢;clear HZ3 HBb HW4 hlk2 hk9 HK3 HB3 HB4 HB03 HLK2 HR1;go_wp2_with (first | (with_reducible refine gL ?_;first | (refine wt 121 0 rfl rfl rfl HK3b.out (plcs n1 A1 c1 u1) rfl Tryz.underlying121 rfl ?_) | (refine wt 121 0 rfl rfl rfl HK4.out (plcs n2 A2 d2 u2) rfl Tryz.underlying121 rfl ?_)));refine HSN.out.mono ?_;rintro e w5 ⟨rfl,hb5⟩;have HB5:=Hd (HB04.out.trans (hb5.mono HB04.out.size))
   have HRG5:Hid (w5.ranges Tryz.prog 3 anyE m w.heap.size es.length (mapV es) (fun z=>left z && !z.sameKey (.int .i64 x2)) cnt1):=HRG1.out.kept (below_grown (HB24.out.trans (hb5.mono HB24.out.size))) (by simp) (by simp);have HME5:Hid (w5.rangeLeft m w.heap.size<wA.rangeLeft m w.heap.size):=by show _<_;rw [HRG5.out.left_eq,← HRG1.out.left_eq];exact HME.out
   clear hb5 HSN HK3b HK4 HB24 HB04;cases hq:eqN n1 n2 with
   | true=>
    have HSO5:Hid (∀ i,has x.t i=true->(left (.int .i64 i) && !(Lit.int .i64 i).sameKey (.int .i64 x2))=false->eqN (x.nd i) (y.nd i)=true):=fun i hi hl=>by
     by_cases e:i=x2
     ·rw [e,HNN.out.1,HNN.out.2];exact hq
     ·have:(Lit.int .i64 i).sameKey (.int .i64 x2)=false:=by simp [Lit.sameKey,e]
      rw [this] at hl;exact hso.out i hi (by simpa using hl)
    clear hq;go_wp2_with (fail)
    go_roundw
    case rel=>exact ⟨_,_,HRG5,HB5,HSO5⟩
    case measure=>exact HME5.out
   | false=>
    have HNE:Hid (¬ ∀ i,has x.t i=true->eqN (x.nd i) (y.nd i)=true):=fun e=>by
     have:=e x2 HHX.out;rw [HNN.out.1,HNN.out.2,hq] at this;cases this
    clear hq;go_wp2_with (fail);go_ret;exact ⟨false,rfl,⟨nofun,fun e=>absurd e HNE.out⟩,HB5.out⟩
end
end
section
open Go.RowKit pxm imm trm Go.Maps
theorem size_same (a b c:Int) (w:World):(binOp .eql tSize (.agg (Vn a b c).toArray) (.agg (Vn a b c).toArray)).run Tryz.prog w=.ok (.bool true) w:=by
 go_simp
def same (x y:PSc):Prop:=(∀ q,kids x.t q=kids y.t q)∧∀ i,has x.t i=true->eqN (x.nd i) (y.nd i)=true
def EqQ (x y:PSc) (w:World) (e:Ending) (w':World):Prop:=∃ r,e=.returned (.bool r)∧(r=true↔same x y)∧Below w.heap.size w w'
section
variable {w:World} {g b m:Nat} {s:Sh} {Z:ZZ} {x:PSc} {g2 b2 m2:Nat} {s2:Sh} {Z2:ZZ} {y:PSc}
theorem sequal (h:SceneAt w g b m s Z x) (h2:SceneAt w g2 b2 m2 s2 Z2 y) (hfx:∀ i,Fit (x.nd i)) (hfy:∀ i,Fit (y.nd i)) (hn:x.t.length<=1000) (hn2:y.t.length<=1000) (hz:Z2.1=Z.1∧Z2.2=Z.2) :
  Calls Tryz.prog 14 #[.pointer (some ⟨g,0,none⟩),.pointer (some ⟨g2,0,none⟩)] w (EqQ x y w):=by
 obtain ⟨za,zr,zE⟩:=Z2;obtain ⟨rfl,rfl⟩:=hz;have HFS:Hid (∀ W,regs.bl w W->SceneAt W g b m s Z x):=fun W hb=>h.below hb;have HFT:Hid (∀ W,regs.bl w W->SceneAt W g2 b2 m2 s2 ⟨Z.1,Z.2,zE⟩ y):=fun W hb=>h2.below hb;have HTS:Hid (∀ W,regs.bl w W->Calls Tryz.prog 43 #[.pointer (some ⟨b,0,none⟩),.pointer (some ⟨b2,0,none⟩)] W fun e w'=>∃ r,e=.returned (.bool r)∧(r=true↔∀ q,kids x.t q=kids y.t q)∧Below W.heap.size W w'):=fun W hb=>tsame (h.below hb).tree (h2.below hb).tree hn hn2
 have HME:Hid (∀ W,regs.bl w W->(∀ q,kids x.t q=kids y.t q)->Calls Tryz.prog 44 #[.map (some m),.map (some m2),.func (.func 45) #[] #[]] W fun e w'=>∃ r,e=.returned (.bool r)∧(r=true↔∀ i,has x.t i=true->eqN (x.nd i) (y.nd i)=true)∧Below W.heap.size W w'):=fun W hb hal=>mequal (h.below hb) (h2.below hb) hfx hfy hal;clear h h2 hfx hfy hn hn2;have hse:=fun W=>size_same Z.1 Z.2.1 Z.2.2 W;go_enter Tryz.func14,Tryz.ntmps14
 go_upto_region 1 with (fail)
 by_cases hal:¬ ∀ q,kids x.t q=kids y.t q
 ·have HN:=Hd hal
  have HTS1:Hid (∀ W,regs.bl w W->Calls Tryz.prog 43 #[.pointer (some ⟨b,0,none⟩),.pointer (some ⟨b2,0,none⟩)] W fun e w'=>e=.returned (.bool false)∧Below W.heap.size W w'):=fun W hb=>(HTS.out W hb).mono fun e w' ⟨r,h1,h2,h3⟩=>⟨by rw [h1,show r=false from (by cases r with | false=>rfl | true=>exact absurd (h2.1 rfl) hal)],h3⟩
  clear HME HTS hal
  refine wRn [5,6,7,8,9,10,11,12,13,14,15,16,17,18,19,20,21,22,23,24,25,26,27,28,29,30,31,32,33,34,35,4] (fun i=>match i with
   |0|1|10|11=>rp g 0
   |2=>rp g 2
   |3|7=>rV (.agg ((Vn Z.1 Z.2.1 Z.2.2)).toArray)
   |4|5|14|15=>rp g2 0
   |6=>rp g2 2
   |8|9=>rT
   |12=>rp g 1
   |13=>rp b 0
   |16=>rp g2 1
   |17=>rp b2 0
   |18|19|20|30|31=>rV (.bool false)
   |21|22|23|24|25|26|27|28|29=>rV (undef)
   | _=>ra) ⟨?_,?_,?_,?_,?_,?_,?_,?_,?_,?_,?_,?_,?_,?_,?_,?_,?_,?_,?_,?_,?_,?_,?_,?_,?_,?_,?_,?_,?_,?_,?_,?_,trivial⟩ ?_
  any_goals (first|refine zp fun L a w1 hh=>?_|fail)
  any_goals (first|refine sy rfl rfl fun L a w1 hh=>?_|fail)
  have h0:=hh.p 0 g 0;rotate_left;have h5:=rq (hh.d 0 5);rotate_left;have h6:=rq (hh.d 1 6);have i0:=((HFS.out _ hh.rel).blk.blk).inside;rotate_left
  ·have h7:=rq (hh.d 2 7);have hB:=Hd ((HFS.out _ hh.rel).blk.blk);have hJ:=Hd hh.st;exact wp_take 104 _ rfl g 2 (by simpa [go_sem] using h7) _ hB.out ((Vn Z.1 Z.2.1 Z.2.2)) rfl _ Tryz.underlying104 rfl (by kernel_rfl) ⟨_,rfl,rB,rfl,hJ.out⟩
  have h1:=hh.p 1 g2 0;rotate_left;have h9:=rq (hh.d 4 9);rotate_left;have h10:=rq (hh.d 5 10);have i0:=((HFT.out _ hh.rel).blk.blk).inside;rotate_left
  ·have h11:=rq (hh.d 6 11);have hB:=Hd ((HFT.out _ hh.rel).blk.blk);have hJ:=Hd hh.st;exact wp_take 104 _ rfl g2 2 (by simpa [go_sem] using h11) _ hB.out ((Vn Z.1 Z.2.1 Z.2.2)) rfl _ Tryz.underlying104 rfl (by kernel_rfl) ⟨_,rfl,rB,rfl,hJ.out⟩
  have h8:=rq (hh.d 3 8);have h12:=rq (hh.d 7 12);rotate_left;have h13:=rq (hh.d 8 13);rotate_left;have h0:=hh.p 0 g 0;rotate_left;have h15:=rq (hh.d 10 15);rotate_left;have h16:=rq (hh.d 11 16);have i0:=((HFS.out _ hh.rel).blk.blk).inside;rotate_left;have h17:=rq (hh.d 12 17);have ⟨c0,i0⟩:=((HFS.out _ hh.rel).blk.blk).ci 1 rfl;rotate_left;have h1:=hh.p 1 g2 0;rotate_left;have h19:=rq (hh.d 14 19);rotate_left;have h20:=rq (hh.d 15 20);have i0:=((HFT.out _ hh.rel).blk.blk).inside;rotate_left;have h21:=rq (hh.d 16 21);have ⟨c0,i0⟩:=((HFT.out _ hh.rel).blk.blk).ci 1 rfl;rotate_left
  ·have h18:=rq (hh.d 13 18);have h22:=rq (hh.d 17 22);have hC:=Hd (HTS1.out _ hh.rel);have hJ:=hh.j;clear hh;go_simp;refine hC.out.mono ?_;rintro e w9 ⟨rfl,hb9⟩;exact ⟨_,rfl,hb9,rfl,hJ.out⟩
  have h14:=rq (hh.d 9 14);have h23:=rq (hh.d 18 23);rotate_left;have h24:=rq (hh.d 19 24);rotate_left
  ·refine sz rfl rfl
  ·refine sz rfl rfl
  ·refine sz rfl rfl
  ·refine sz rfl rfl
  ·refine sz rfl rfl
  ·refine sz rfl rfl
  ·refine sz rfl rfl
  ·refine sz rfl rfl
  ·refine sz rfl rfl
  have h25:=rq (hh.d 20 25);rotate_left;have h35:=rq (hh.d 30 35);rotate_left
  any_goals (clear hh;go_simp;exact ⟨_,rfl,rB,rfl,trivial⟩)
  intro L w4 val hL hJ hR hv;have h4:val 4=.bool false:=hv 31 4 (by kernel_rfl);have HR4:=Hd hR;clear hv hL hJ hR;simp only [regs.putAll,List.map_cons,List.map_nil,h4];simp only [Act.put,List.setIfInBounds_toArray,List.set_cons_zero,List.set_cons_succ];clear h4
  generalize val 5=v5,val 6=v6,val 7=v7,val 8=v8,val 9=v9,val 10=v10,val 11=v11,val 12=v12,val 13=v13,val 14=v14,val 15=v15,val 16=v16,val 17=v17,val 18=v18,val 19=v19,val 20=v20,val 21=v21,val 22=v22,val 23=v23,val 24=v24,val 25=v25,val 26=v26,val 27=v27,val 28=v28,val 29=v29,val 30=v30,val 31=v31,val 32=v32,val 33=v33,val 34=v34,val 35=v35 at *;go_wp2_with (fail);go_ret;exact ⟨false,rfl,⟨nofun,fun e=>absurd e.1 HN.out⟩,HR4.out⟩
 have hal:∀ q,kids x.t q=kids y.t q:=Classical.byContradiction hal;have HA:=Hd hal
 have HTS1:Hid (∀ W,regs.bl w W->Calls Tryz.prog 43 #[.pointer (some ⟨b,0,none⟩),.pointer (some ⟨b2,0,none⟩)] W fun e w'=>e=.returned (.bool true)∧Below W.heap.size W w'):=fun W hb=>(HTS.out W hb).mono fun e w' ⟨r,h1,h2,h3⟩=>⟨by rw [h1,show r=true from h2.2 hal],h3⟩
 by_cases heq:¬ ∀ i,has x.t i=true->eqN (x.nd i) (y.nd i)=true
 ·have HN:=Hd heq
  have HME1:Hid (∀ W,regs.bl w W->Calls Tryz.prog 44 #[.map (some m),.map (some m2),.func (.func 45) #[] #[]] W fun e w'=>e=.returned (.bool false)∧Below W.heap.size W w'):=fun W hb=>(HME.out W hb hal).mono fun e w' ⟨r,h1,h2,h3⟩=>⟨by rw [h1,show r=false from (by cases r with | false=>rfl | true=>exact absurd (h2.1 rfl) heq)],h3⟩
  clear HME HTS hal heq
  refine wRn [5,6,7,8,9,10,11,12,13,14,15,16,17,18,19,20,21,22,23,24,25,26,27,28,29,30,31,32,33,34,35,4] (fun i=>match i with
   |0|1|10|11|21|22=>rp g 0
   |2=>rp g 2
   |3|7=>rV (.agg ((Vn Z.1 Z.2.1 Z.2.2)).toArray)
   |4|5|14|15|25|26=>rp g2 0
   |6=>rp g2 2
   |8|9|18|19|20=>rT
   |12=>rp g 1
   |13=>rp b 0
   |16=>rp g2 1
   |17=>rp b2 0
   |23=>rp g 5
   |24=>rV (.map (some m))
   |27=>rp g2 5
   |28=>rV (.map (some m2))
   |29|30|31=>rV (.bool false)
   | _=>ra) ⟨?_,?_,?_,?_,?_,?_,?_,?_,?_,?_,?_,?_,?_,?_,?_,?_,?_,?_,?_,?_,?_,?_,?_,?_,?_,?_,?_,?_,?_,?_,?_,?_,trivial⟩ ?_
  any_goals (first|refine zp fun L a w1 hh=>?_|fail)
  any_goals (first|refine sy rfl rfl fun L a w1 hh=>?_|fail)
  have h0:=hh.p 0 g 0;rotate_left;have h5:=rq (hh.d 0 5);rotate_left;have h6:=rq (hh.d 1 6);have i0:=((HFS.out _ hh.rel).blk.blk).inside;rotate_left
  ·have h7:=rq (hh.d 2 7);have hB:=Hd ((HFS.out _ hh.rel).blk.blk);have hJ:=Hd hh.st;exact wp_take 104 _ rfl g 2 (by simpa [go_sem] using h7) _ hB.out ((Vn Z.1 Z.2.1 Z.2.2)) rfl _ Tryz.underlying104 rfl (by kernel_rfl) ⟨_,rfl,rB,rfl,hJ.out⟩
  have h1:=hh.p 1 g2 0;rotate_left;have h9:=rq (hh.d 4 9);rotate_left;have h10:=rq (hh.d 5 10);have i0:=((HFT.out _ hh.rel).blk.blk).inside;rotate_left
  ·have h11:=rq (hh.d 6 11);have hB:=Hd ((HFT.out _ hh.rel).blk.blk);have hJ:=Hd hh.st;exact wp_take 104 _ rfl g2 2 (by simpa [go_sem] using h11) _ hB.out ((Vn Z.1 Z.2.1 Z.2.2)) rfl _ Tryz.underlying104 rfl (by kernel_rfl) ⟨_,rfl,rB,rfl,hJ.out⟩
  have h8:=rq (hh.d 3 8);have h12:=rq (hh.d 7 12);rotate_left;have h13:=rq (hh.d 8 13);rotate_left;have h0:=hh.p 0 g 0;rotate_left;have h15:=rq (hh.d 10 15);rotate_left;have h16:=rq (hh.d 11 16);have i0:=((HFS.out _ hh.rel).blk.blk).inside;rotate_left;have h17:=rq (hh.d 12 17);have ⟨c0,i0⟩:=((HFS.out _ hh.rel).blk.blk).ci 1 rfl;rotate_left;have h1:=hh.p 1 g2 0;rotate_left;have h19:=rq (hh.d 14 19);rotate_left;have h20:=rq (hh.d 15 20);have i0:=((HFT.out _ hh.rel).blk.blk).inside;rotate_left;have h21:=rq (hh.d 16 21);have ⟨c0,i0⟩:=((HFT.out _ hh.rel).blk.blk).ci 1 rfl;rotate_left
  ·have h18:=rq (hh.d 13 18);have h22:=rq (hh.d 17 22);have hC:=Hd (HTS1.out _ hh.rel);have hJ:=hh.j;clear hh;go_simp;refine hC.out.mono ?_;rintro e w9 ⟨rfl,hb9⟩;exact ⟨_,rfl,hb9,rfl,hJ.out⟩
  have h14:=rq (hh.d 9 14);have h23:=rq (hh.d 18 23);rotate_left;have h24:=rq (hh.d 19 24);rotate_left;have h0:=hh.p 0 g 0;rotate_left;have h26:=rq (hh.d 21 26);rotate_left;have h27:=rq (hh.d 22 27);have i0:=((HFS.out _ hh.rel).blk.blk).inside;rotate_left;have h28:=rq (hh.d 23 28);have ⟨c0,i0⟩:=((HFS.out _ hh.rel).blk.blk).ci 5 rfl;rotate_left;have h1:=hh.p 1 g2 0;rotate_left;have h30:=rq (hh.d 25 30);rotate_left;have h31:=rq (hh.d 26 31);have i0:=((HFT.out _ hh.rel).blk.blk).inside;rotate_left;have h32:=rq (hh.d 27 32);have ⟨c0,i0⟩:=((HFT.out _ hh.rel).blk.blk).ci 5 rfl;rotate_left
  ·have h29:=rq (hh.d 24 29);have h33:=rq (hh.d 28 33);have hC:=Hd (HME1.out _ hh.rel);have hJ:=hh.j;clear hh;go_simp;refine hC.out.mono ?_;rintro e w9 ⟨rfl,hb9⟩;exact ⟨_,rfl,hb9,rfl,hJ.out⟩
  have h25:=rq (hh.d 20 25);have h34:=rq (hh.d 29 34);rotate_left;have h35:=rq (hh.d 30 35);rotate_left
  any_goals (clear hh;go_simp;exact ⟨_,rfl,rB,rfl,trivial⟩)
  intro L w4 val hL hJ hR hv;have h4:val 4=.bool false:=hv 31 4 (by kernel_rfl);have HR4:=Hd hR;clear hv hL hJ hR;simp only [regs.putAll,List.map_cons,List.map_nil,h4];simp only [Act.put,List.setIfInBounds_toArray,List.set_cons_zero,List.set_cons_succ];clear h4
  generalize val 5=v5,val 6=v6,val 7=v7,val 8=v8,val 9=v9,val 10=v10,val 11=v11,val 12=v12,val 13=v13,val 14=v14,val 15=v15,val 16=v16,val 17=v17,val 18=v18,val 19=v19,val 20=v20,val 21=v21,val 22=v22,val 23=v23,val 24=v24,val 25=v25,val 26=v26,val 27=v27,val 28=v28,val 29=v29,val 30=v30,val 31=v31,val 32=v32,val 33=v33,val 34=v34,val 35=v35 at *;go_wp2_with (fail);go_ret;exact ⟨false,rfl,⟨nofun,fun e=>absurd e.2 HN.out⟩,HR4.out⟩
 have heq:∀ i,has x.t i=true->eqN (x.nd i) (y.nd i)=true:=Classical.byContradiction heq;have HN:=Hd heq
 have HME1:Hid (∀ W,regs.bl w W->Calls Tryz.prog 44 #[.map (some m),.map (some m2),.func (.func 45) #[] #[]] W fun e w'=>e=.returned (.bool true)∧Below W.heap.size W w'):=fun W hb=>(HME.out W hb hal).mono fun e w' ⟨r,h1,h2,h3⟩=>⟨by rw [h1,show r=true from h2.2 heq],h3⟩
 clear HME HTS hal heq
 refine wRn [5,6,7,8,9,10,11,12,13,14,15,16,17,18,19,20,21,22,23,24,25,26,27,28,29,30,31,32,33,34,35,4] (fun i=>match i with
  |0|1|10|11|21|22=>rp g 0
  |2=>rp g 2
  |3|7=>rV (.agg ((Vn Z.1 Z.2.1 Z.2.2)).toArray)
  |4|5|14|15|25|26=>rp g2 0
  |6=>rp g2 2
  |8|9|18|19|20|29|30|31=>rT
  |12=>rp g 1
  |13=>rp b 0
  |16=>rp g2 1
  |17=>rp b2 0
  |23=>rp g 5
  |24=>rV (.map (some m))
  |27=>rp g2 5
  |28=>rV (.map (some m2))
  | _=>ra) ⟨?_,?_,?_,?_,?_,?_,?_,?_,?_,?_,?_,?_,?_,?_,?_,?_,?_,?_,?_,?_,?_,?_,?_,?_,?_,?_,?_,?_,?_,?_,?_,?_,trivial⟩ ?_
 any_goals (first|refine zp fun L a w1 hh=>?_|fail)
 any_goals (first|refine sy rfl rfl fun L a w1 hh=>?_|fail)
 have h0:=hh.p 0 g 0;rotate_left;have h5:=rq (hh.d 0 5);rotate_left;have h6:=rq (hh.d 1 6);have i0:=((HFS.out _ hh.rel).blk.blk).inside;rotate_left
 ·have h7:=rq (hh.d 2 7);have hB:=Hd ((HFS.out _ hh.rel).blk.blk);have hJ:=Hd hh.st;exact wp_take 104 _ rfl g 2 (by simpa [go_sem] using h7) _ hB.out ((Vn Z.1 Z.2.1 Z.2.2)) rfl _ Tryz.underlying104 rfl (by kernel_rfl) ⟨_,rfl,rB,rfl,hJ.out⟩
 have h1:=hh.p 1 g2 0;rotate_left;have h9:=rq (hh.d 4 9);rotate_left;have h10:=rq (hh.d 5 10);have i0:=((HFT.out _ hh.rel).blk.blk).inside;rotate_left
 ·have h11:=rq (hh.d 6 11);have hB:=Hd ((HFT.out _ hh.rel).blk.blk);have hJ:=Hd hh.st;exact wp_take 104 _ rfl g2 2 (by simpa [go_sem] using h11) _ hB.out ((Vn Z.1 Z.2.1 Z.2.2)) rfl _ Tryz.underlying104 rfl (by kernel_rfl) ⟨_,rfl,rB,rfl,hJ.out⟩
 have h8:=rq (hh.d 3 8);have h12:=rq (hh.d 7 12);rotate_left;have h13:=rq (hh.d 8 13);rotate_left;have h0:=hh.p 0 g 0;rotate_left;have h15:=rq (hh.d 10 15);rotate_left;have h16:=rq (hh.d 11 16);have i0:=((HFS.out _ hh.rel).blk.blk).inside;rotate_left;have h17:=rq (hh.d 12 17);have ⟨c0,i0⟩:=((HFS.out _ hh.rel).blk.blk).ci 1 rfl;rotate_left;have h1:=hh.p 1 g2 0;rotate_left;have h19:=rq (hh.d 14 19);rotate_left;have h20:=rq (hh.d 15 20);have i0:=((HFT.out _ hh.rel).blk.blk).inside;rotate_left;have h21:=rq (hh.d 16 21);have ⟨c0,i0⟩:=((HFT.out _ hh.rel).blk.blk).ci 1 rfl;rotate_left
 ·have h18:=rq (hh.d 13 18);have h22:=rq (hh.d 17 22);have hC:=Hd (HTS1.out _ hh.rel);have hJ:=hh.j;clear hh;go_simp;refine hC.out.mono ?_;rintro e w9 ⟨rfl,hb9⟩;exact ⟨_,rfl,hb9,rfl,hJ.out⟩
 have h14:=rq (hh.d 9 14);have h23:=rq (hh.d 18 23);rotate_left;have h24:=rq (hh.d 19 24);rotate_left;have h0:=hh.p 0 g 0;rotate_left;have h26:=rq (hh.d 21 26);rotate_left;have h27:=rq (hh.d 22 27);have i0:=((HFS.out _ hh.rel).blk.blk).inside;rotate_left;have h28:=rq (hh.d 23 28);have ⟨c0,i0⟩:=((HFS.out _ hh.rel).blk.blk).ci 5 rfl;rotate_left;have h1:=hh.p 1 g2 0;rotate_left;have h30:=rq (hh.d 25 30);rotate_left;have h31:=rq (hh.d 26 31);have i0:=((HFT.out _ hh.rel).blk.blk).inside;rotate_left;have h32:=rq (hh.d 27 32);have ⟨c0,i0⟩:=((HFT.out _ hh.rel).blk.blk).ci 5 rfl;rotate_left
 ·have h29:=rq (hh.d 24 29);have h33:=rq (hh.d 28 33);have hC:=Hd (HME1.out _ hh.rel);have hJ:=hh.j;clear hh;go_simp;refine hC.out.mono ?_;rintro e w9 ⟨rfl,hb9⟩;exact ⟨_,rfl,hb9,rfl,hJ.out⟩
 have h25:=rq (hh.d 20 25);have h34:=rq (hh.d 29 34);rotate_left;have h35:=rq (hh.d 30 35);rotate_left
 any_goals (clear hh;go_simp;exact ⟨_,rfl,rB,rfl,trivial⟩)
 intro L w4 val hL hJ hR hv;have h4:val 4=.bool true:=hv 31 4 (by kernel_rfl);have HR4:=Hd hR;clear hv hL hJ hR;simp only [regs.putAll,List.map_cons,List.map_nil,h4];simp only [Act.put,List.setIfInBounds_toArray,List.set_cons_zero,List.set_cons_succ];clear h4
 skip
 go_wp2_with (fail);go_ret;exact ⟨true,rfl,⟨fun _=>⟨HA.out,HN.out⟩,fun _=>rfl⟩,HR4.out⟩
end
end
section
open Go.RowKit pxm imm trm Go.Maps
theorem eqN_iff {n1 n2:Nd}:eqN n1 n2=true↔n1=n2:=by
 obtain ⟨m1,o1,h1,c1,r1,k1,W1,H1,p1,iw1,ih1,l1⟩:=n1;obtain ⟨m2,o2,h2,c2,r2,k2,W2,H2,p2,iw2,ih2,l2⟩:=n2;unfold eqN eqNd eqLk eqB;simp only [Bool.and_eq_true,decide_eq_true_eq,beq_iff_eq,Nd.mk.injEq,Lk.mk.injEq];constructor
 ·rintro ⟨a,b,c,d,e,f,g,h,i,j,k,l⟩;exact ⟨a,c,d,e,b,f,g,h,by omega,j,k,l⟩
 ·rintro ⟨a,b,c,d,e,f,g,h,i,j,k,l⟩;exact ⟨a,e,b,c,d,f,g,h,by omega,j,k,l⟩
theorem eqN_self (n:Nd):eqN n n=true:=eqN_iff.2 rfl
theorem same_self (x:PSc):same x x:=⟨fun _=>rfl,fun _ _=>eqN_self _⟩
def Lk.o:Lk:=⟨0,0,0,0,0,0,[]⟩
def Op9.o:Op9:=⟨0,0,0,0,Mp.o,Bx.o,false,0,Lk.o⟩
def PSc.new:PSc:=⟨[],fun _=>Nd.plain,fun _=>Mp.one⟩
theorem fit_lko:Fit { Nd.plain with lk:=Lk.o }:=⟨by decide,(by intro z hz;cases hz),by decide⟩
theorem PSc.new_sane:Sane PSc.new:=⟨ok_nil,fun _=>plain_chk,fun i hi _ _=>by
 have:i=0:=by
  rcases has_iff.1 hi with e | e
  ·exact e
  ·cases e
 subst this;rw [worldOf_0]
 rfl,fun _=>fit_plain⟩
def aw1:Op9:={ Op9.o with k:=1,i:=1 }
def aw2:Op9:={ Op9.o with k:=4,i:=1,m:=⟨65536,0,0,65536,196608,0⟩ }
def aw3:Op9:={ Op9.o with k:=4,m:=⟨65536,0,0,65536,0,65536⟩ }
def aw4:Op9:={ Op9.o with k:=8,on:=true }
def aw5:Op9:={ Op9.o with k:=1,i:=2 }
theorem aw_ok {o:Op9} (h:o=aw1∨o=aw2∨o=aw3∨o=aw4∨o=aw5):OpOk o:=by
 rcases h with rfl | rfl | rfl | rfl | rfl<;>exact ⟨⟨by decide,by decide⟩,⟨by decide,by decide⟩,fit_lko⟩
def awT:T:=[(1,0)]
def awN:Int->Nd:=upd (upd (upd (fun _=>Nd.plain) 1 Nd.plain) 1 (setN Nd.plain aw2)) 0 (setN Nd.plain aw3)
theorem aw_all:allS 2 PSc.new [aw1,aw2,aw3]=(⟨awT,awN,upd (fun _=>Mp.one) 1 Mp.o⟩,3,0):=by
 have e1:doS 2 PSc.new aw1=(⟨awT,upd (fun _=>Nd.plain) 1 Nd.plain,upd (fun _=>Mp.one) 1 Mp.o⟩,0):=rfl;have e2:doS 2 ⟨awT,upd (fun _=>Nd.plain) 1 Nd.plain,upd (fun _=>Mp.one) 1 Mp.o⟩ aw2=(⟨awT,upd (upd (fun _=>Nd.plain) 1 Nd.plain) 1 (setN Nd.plain aw2),upd (fun _=>Mp.one) 1 Mp.o⟩,0):=rfl;have e3:doS 2 ⟨awT,upd (upd (fun _=>Nd.plain) 1 Nd.plain) 1 (setN Nd.plain aw2),upd (fun _=>Mp.one) 1 Mp.o⟩ aw3=(⟨awT,awN,upd (fun _=>Mp.one) 1 Mp.o⟩,0):=rfl;rw [allS_cons,e1];simp only [ne_eq,not_true_eq_false,if_false];rw [allS_cons,e2];simp only [ne_eq,not_true_eq_false,if_false];rw [allS_cons,e3]
 simp only [ne_eq,not_true_eq_false,if_false];rfl
theorem aw_ids:1∈ids awT:=by decide
theorem aw_okT:Ok awT:=(addS_ok ok_nil 1 0 0).1
theorem aw_world1:worldOf awT awN 1=some ⟨65536,0,0,65536,196608,65536⟩:=by
 rw [worldOf_step aw_okT _ aw_ids,show par awT 1=0 from by decide,worldOf_0]
 decide
theorem aw_has {i:Int} (h:has awT i=true):i=0∨i=1:=by
 rcases has_iff.1 h with e | e
 ·exact .inl e
 ·right
  simpa [awT,ids] using e
noncomputable def awY:PSc:=(setSt ⟨awT,awN,upd (fun _=>Mp.one) 1 Mp.o⟩).1
theorem aw_set:setSt ⟨awT,awN,upd (fun _=>Mp.one) 1 Mp.o⟩=(awY,0):=by
 have:(setSt ⟨awT,awN,upd (fun _=>Mp.one) 1 Mp.o⟩).2=0:=by
  unfold setSt;rw [if_pos fun i hi=>?_];rcases aw_has hi with rfl | rfl
  ·show worldOf awT awN 0≠none;rw [worldOf_0];simp
  ·show worldOf awT awN 1≠none;rw [aw_world1];simp
 show setSt _=_;rw [← this];rfl
theorem awY_t:awY.t=awT:=setSt_t _
theorem awY_nd:awY.nd=awN:=setSt_nd _
theorem awY_ws:awY.ws 1=⟨65536,0,0,65536,196608,65536⟩:=by
 have h:=aw_set;unfold awY;unfold setSt at h ⊢;split
 ·show (worldOf awT awN 1).getD (upd (fun _=>Mp.one) 1 Mp.o 1)=_;rw [aw_world1];rfl
 ·rename_i h1
  rw [if_neg h1] at h
  injection h with _ h
  cases h
theorem aw_apply:applyS 2 setSt PSc.new [aw1,aw2,aw3]=(awY,3,0):=by
 unfold applyS;rw [if_neg (by decide),aw_all,if_neg (by simp),aw_set,if_neg (by simp)];rfl
theorem aw_apply2 {x:PSc} (ht:x.t=awT):applyS 2 setSt x [aw4,aw5]=(x,1,36):=by
 obtain ⟨t,nd,ws⟩:=x;subst ht;have e1:doS 2 ⟨awT,nd,ws⟩ aw4=(⟨awT,upd nd 0 (setN (nd 0) aw4),ws⟩,0):=rfl;have e2:doS 2 ⟨awT,upd nd 0 (setN (nd 0) aw4),ws⟩ aw5=(⟨awT,upd nd 0 (setN (nd 0) aw4),ws⟩,36):=rfl
 have e3:allS 2 ⟨awT,nd,ws⟩ [aw4,aw5]=(⟨awT,upd nd 0 (setN (nd 0) aw4),ws⟩,1,36):=by
  rw [allS_cons,e1];simp only [ne_eq,not_true_eq_false,if_false];rw [allS_cons,e2,if_pos (by simp)]
 unfold applyS;rw [if_neg (by decide),e3,if_pos (by simp)];rfl
theorem awY_sane:Sane awY:=by
 have:=PSc.new_sane.apply (M:=2) (l:=[aw1,aw2,aw3]) fun o ho=>by
  simp only [List.mem_cons,List.not_mem_nil,or_false] at ho;exact aw_ok (by rcases ho with h | h | h<;>simp [h])
 rw [aw_apply] at this;exact this
end
section
open Go.RowKit pxm imm trm Go.Maps
structure MyS (w0:World) (g b m:Nat) (s:Sh) (Z:ZZ) (x:PSc) (w:World):Prop where
 at_:SceneAt w g b m s Z x
 ft:∀ k,SFoot b m s x.t k->w0.heap.size<=k
 bel:Below w0.heap.size w0 w
section
variable {w0 w w':World} {g b m:Nat} {s s':Sh} {Z:ZZ} {x x':PSc}
theorem MyS.below (h:MyS w0 g b m s Z x w) (hb:Below w.heap.size w w'):MyS w0 g b m s Z x w':=⟨h.at_.below hb,h.ft,h.bel.trans (hb.mono h.bel.size)⟩
theorem MyS.turn (h:MyS w0 g b m s Z x w) (hs:SceneAt w' g b m s' Z x') (ht:TurnP (SFoot b m s x.t) (SFoot b m s' x'.t) w w'):MyS w0 g b m s' Z x' w':=
 ⟨hs,fun k hk=>by
  by_cases hlt:k<w0.heap.size
  ·exact absurd hk (ht.far k (Nat.lt_of_lt_of_le hlt h.bel.size) fun e=>by have:=h.ft k e;omega).1
  ·omega,h.bel.trans (ht.to_below h.bel.size h.ft)⟩
end
abbrev tOps:TypeId:=38
theorem build_aw1 (w:World):(Instr.build 99 #[(0,.int .i64 1),(1,.int .i64 1)]).run Tryz.prog w=.ok (.agg (aw1.cs none 0).toArray) w:=by kernel_rfl
theorem build_aw2 (w:World):(Instr.build 99 #[(0,.int .i64 4),(1,.int .i64 1),(4,.agg #[.int .i64 65536,.int .i64 0,.int .i64 0,.int .i64 65536,.int .i64 196608,.int .i64 0])]).run Tryz.prog w=.ok (.agg (aw2.cs none 0).toArray) w:=by kernel_rfl
theorem build_aw3 (w:World):(Instr.build 99 #[(0,.int .i64 4),(4,.agg #[.int .i64 65536,.int .i64 0,.int .i64 0,.int .i64 65536,.int .i64 0,.int .i64 65536])]).run Tryz.prog w=.ok (.agg (aw3.cs none 0).toArray) w:=by kernel_rfl
theorem build_aw4 (w:World):(Instr.build 99 #[(0,.int .i64 8),(6,.bool true)]).run Tryz.prog w=.ok (.agg (aw4.cs none 0).toArray) w:=by kernel_rfl
theorem build_aw5 (w:World):(Instr.build 99 #[(0,.int .i64 1),(1,.int .i64 2)]).run Tryz.prog w=.ok (.agg (aw5.cs none 0).toArray) w:=by kernel_rfl
def oN (o:Op9):OpR:=⟨o,none,0⟩
theorem bs_op3 (a b c:Op9) (w:World):(Instr.buildSlice tOps 3 #[(0,.agg (a.cs none 0).toArray),(1,.agg (b.cs none 0).toArray),(2,.agg (c.cs none 0).toArray)]).run Tryz.prog w=.ok (.slice (some ⟨w.heap.size,0,none⟩) 3 3) (w.alloc (.cells ([oN a,oN b,oN c].flatMap OpR.cs).toArray 99)):=by kernel_rfl
theorem bs_op2 (a b:Op9) (w:World):(Instr.buildSlice tOps 2 #[(0,.agg (a.cs none 0).toArray),(1,.agg (b.cs none 0).toArray)]).run Tryz.prog w=.ok (.slice (some ⟨w.heap.size,0,none⟩) 2 2) (w.alloc (.cells ([oN a,oN b].flatMap OpR.cs).toArray 99)):=by kernel_rfl
theorem opsAt_new {w:World} {S:Bset} (hS:∀ k,S k->k<w.heap.size) (l:List OpR) (hl:∀ q∈l,q.o.lk.l=[]):OpsAt S (w.alloc (.cells (l.flatMap OpR.cs).toArray 99)) (some ⟨w.heap.size,0,none⟩) l:=
 ⟨srow_new (enc:=OpR.cs) OpR.cs_len w l _ rfl,fun a e _ hk=>by
  obtain rfl:=Option.some.inj e;have:=hS _ hk
  simp at this,fun q hq=>⟨by rw [hl q hq];intro hn;exact absurd hn (by simp),fun _ _ hne=>absurd (hl q hq) hne⟩⟩
theorem mp_sameD (w:World):(binOp .eql 65 (.agg (⟨65536,0,0,65536,196608,65536⟩:Mp).cs.toArray) (.agg (⟨65536,0,0,65536,196608,65536⟩:Mp).cs.toArray)).run Tryz.prog w=.ok (.bool true) w:=by
 have h:=mp_eq ⟨65536,0,0,65536,196608,65536⟩ ⟨65536,0,0,65536,196608,65536⟩ w;rw [decide_eq_true rfl] at h;exact h
def awZ:ZZ:=⟨4,⟨3,2⟩,fun _=>False⟩
theorem roomZ {x:PSc} {n:Nat} (h:x.t.length<=10) (hn:n<=1024):n<=1024->Room awZ.2.2 x n:=fun _=>⟨hn,.inr ⟨by omega,by decide⟩⟩
theorem awake_any (w:World):Calls Tryz.prog 9 #[] w fun e w'=>e=.returned (.bool true)∧Below w.heap.size w w':=by
 go_enter Tryz.func9,Tryz.ntmps9;go_wp2_with (fail);refine (new_ok (w:=w) awZ (fun _ e=>e.elim) ⟨by decide,by decide⟩ ⟨by decide,by decide⟩ ⟨by decide,by decide⟩).mono ?_;rintro e w1 ⟨g,b,m,s,rfl,hs1,hb1,hf1,hg1⟩
 have HM1:Hid (MyS w g b m s awZ PSc.new w1):=⟨hs1,hf1,hb1⟩
 clear hs1 hb1 hf1 hg1;go_wp2_with (fail);refine (new_bad (w:=w1)).mono ?_;rintro e w2 ⟨rfl,hb2⟩;have HM2:=Hd (HM1.out.below hb2);clear hb2 HM1;go_wp2_with (first | (with_reducible refine gU ?_;first | refine wpl_build _ _ rfl rfl (by simp [go_sem]) (build_aw1 _) ?_) | (with_reducible refine gB ?_;refine wpl_bs _ _ _ rfl rfl (by simp [go_sem]) (bs_op3 aw1 aw2 aw3 _) ?_));refine (mp_shift 196608 0 w2).mono ?_;rintro e w3 ⟨rfl,hb3⟩;unfold Mp.v;have HM3:=Hd (HM2.out.below hb3);clear hb3 HM2
 go_wp2_with (first | (with_reducible refine gU ?_;first | refine wpl_build _ _ rfl rfl (by simp [go_sem]) (build_aw2 _) ?_) | (with_reducible refine gB ?_;refine wpl_bs _ _ _ rfl rfl (by simp [go_sem]) (bs_op3 aw1 aw2 aw3 _) ?_));refine (mp_shift 0 65536 w3).mono ?_;rintro e w4 ⟨rfl,hb4⟩;unfold Mp.v;have HM4:=Hd (HM3.out.below hb4);clear hb4 HM3;go_wp2_with (first | (with_reducible refine gU ?_;first | refine wpl_build _ _ rfl rfl (by simp [go_sem]) (build_aw3 _) ?_) | (with_reducible refine gB ?_;refine wpl_bs _ _ _ rfl rfl (by simp [go_sem]) (bs_op3 aw1 aw2 aw3 _) ?_))
 have HO5:=Hd (opsAt_new (w:=w4) (S:=SFoot b m s PSc.new.t) HM4.out.at_.inside [oN aw1,oN aw2,oN aw3] (by intro q hq;simp only [List.mem_cons,List.not_mem_nil,or_false] at hq;rcases hq with rfl | rfl | rfl<;>rfl));rw [show [oN aw1,oN aw2,oN aw3].flatMap OpR.cs=(oN aw1).cs++((oN aw2).cs++(oN aw3).cs) from by simp] at HO5;have HB5:Hid (Below w4.heap.size w4 (w4.alloc (.cells ((oN aw1).cs++((oN aw2).cs++(oN aw3).cs)).toArray 99))):=bR.alloc nR _;generalize (w4.alloc (.cells ((oN aw1).cs++((oN aw2).cs++(oN aw3).cs)).toArray 99))=w5 at *
 have HM5:=Hd (HM4.out.below HB5.out);generalize w4.heap.size=k5 at *;have HAP:=Hd (applied HM5.out.at_ PSc.new_sane [oN aw1,oN aw2,oN aw3] (some ⟨k5,0,none⟩) 3 HO5.out (by intro q hq;simp only [List.mem_cons,List.not_mem_nil,or_false] at hq;rcases hq with rfl | rfl | rfl<;>exact aw_ok (by simp [oN])) (roomZ (by decide) (by simp)) (by simp));rw [show applyS awZ.2.2 setSt PSc.new ([oN aw1,oN aw2,oN aw3].map (·.o))=(awY,3,0) from aw_apply] at HAP;unfold ApplyQ at HAP;refine HAP.out.mono ?_;rintro e w6 ⟨s6,rfl,hs6,ht6⟩;have HM6:=Hd (HM5.out.turn hs6 ht6);clear hs6 ht6 HAP HM5 HO5 HB5 HM4
 go_wp2_with (fail);refine (world_any HM6.out.at_ 1 ⟨by decide,by decide⟩).mono ?_;rw [show has awY.t 1=true from by rw [awY_t];decide,show wsAt awY 1=⟨65536,0,0,65536,196608,65536⟩ from by unfold wsAt;rw [awY_t,if_pos (by decide),awY_ws]];rintro e w7 ⟨rfl,hb7⟩;have HM7:=Hd (HM6.out.below hb7);clear hb7 HM6;have HZ7:Hid (Blk (w7.alloc (.cells Vd.toArray 65)) w7.heap.size Vd):=blk_new w7 Vd _;have HB7:Hid (Below w7.heap.size w7 (w7.alloc (.cells Vd.toArray 65))):=bR.alloc nR _
 go_upto_region 7 with (first | (with_reducible refine gS ?_;first | (refine wpl_stow 65 _ _ rfl rfl rfl _ 0 rfl ((⟨65536,0,0,65536,196608,65536⟩:Mp).cs) rfl (Vd) HZ7.out ((⟨65536,0,0,65536,196608,65536⟩:Mp).cs) rfl (nE rfl) (by kernel_rfl) (Mp.one1 _) ?_;intro w8 HW8 HK8)))
 have HM8:=Hd ((HM7.out.below (HW8.out.below HB7.out nR)))
 obtain ⟨k7,hk7⟩:∃ k7,w7.heap.size=k7:=⟨_,rfl⟩
 have HNK:Hid (¬ SFoot b m s6 awY.t k7):=fun e=>by have:=HM7.out.at_.inside _ e;omega
 rw [hk7] at HK8 ⊢;clear hk7 HZ7 HB7 HW8 HM7;go_wp2_with (fail);refine (scopy_any HM8.out.at_ (by rw [awY_t];decide)).mono ?_;rintro e w9 ⟨g2,b2,m2,s2,rfl,hs9,hb9,hf9,hg9⟩;have HM9:=Hd (HM8.out.below hb9);have HC9:=Hd hs9;have HK9:=Hd (HK8.out.below' hb9);clear hs9 hb9 hf9 hg9 HM8 HK8
 go_wp2_with (first | ((with_reducible show wpList _ _ _ (Oper.mk (some 52) (Op.build _ _) _ _ _ _::_) _ _);refine wpl_build _ _ rfl rfl (by simp [go_sem]) (build_aw4 _) ?_) | ((with_reducible show wpList _ _ _ (Oper.mk (some 53) (Op.build _ _) _ _ _ _::_) _ _);refine wpl_build _ _ rfl rfl (by simp [go_sem]) (build_aw5 _) ?_) | (with_reducible refine gB ?_;refine wpl_bs _ _ _ rfl rfl (by simp [go_sem]) (bs_op2 aw4 aw5 _) ?_))
 have HO10:=Hd (opsAt_new (w:=w9) (S:=SFoot b m s6 awY.t) HM9.out.at_.inside [oN aw4,oN aw5] (by intro q hq;simp only [List.mem_cons,List.not_mem_nil,or_false] at hq;rcases hq with rfl | rfl<;>rfl));rw [show [oN aw4,oN aw5].flatMap OpR.cs=(oN aw4).cs++(oN aw5).cs from by simp] at HO10;have HB10:Hid (Below w9.heap.size w9 (w9.alloc (.cells ((oN aw4).cs++(oN aw5).cs).toArray 99))):=bR.alloc nR _;generalize (w9.alloc (.cells ((oN aw4).cs++(oN aw5).cs).toArray 99))=w10 at *;have HM10:=Hd (HM9.out.below HB10.out);have HC10:=Hd (HC9.out.below HB10.out)
 have HK10:=Hd (HK9.out.below' HB10.out);generalize w9.heap.size=k9 at *;have HAP:=Hd (applied HM10.out.at_ awY_sane [oN aw4,oN aw5] (some ⟨k9,0,none⟩) 2 HO10.out (by intro q hq;simp only [List.mem_cons,List.not_mem_nil,or_false] at hq;rcases hq with rfl | rfl<;>exact aw_ok (by simp [oN])) (roomZ (by rw [awY_t];decide) (by simp)) (by simp));rw [show applyS awZ.2.2 setSt awY ([oN aw4,oN aw5].map (·.o))=(awY,1,36) from aw_apply2 awY_t] at HAP;unfold ApplyQ at HAP;refine HAP.out.mono ?_;rintro e w11 ⟨s11,rfl,hs11,ht11⟩;have HM11:=Hd (HM10.out.turn hs11 ht11)
 have HK11:Hid (Blk w11 k7 (⟨65536,0,0,65536,196608,65536⟩:Mp).cs):=HK10.out.stays (ht11.far k7 HK10.out.inside HNK.out).2;have HC11:Hid (SceneAt w11 g2 b2 m2 s2 ⟨awZ.1,awZ.2,fun _=>False⟩ awY):=HC10.out.part (fun k hk hn=>(ht11.far k hk fun e=>hn (.inr e)).2) fun k hk=>hk.elim;clear hs11 ht11 HAP HM10 HO10 HB10 HM9 HC9 HC10 HK9 HK10 HNK;go_wp2_with (fail);refine (node_any HM11.out.at_ awY_sane.fit 0 ⟨by decide,by decide⟩).mono ?_;rw [show has awY.t 0=true from by rw [awY_t];decide]
 obtain ⟨n0,hn0⟩:∃ n0,ndAt awY 0=n0:=⟨_,rfl⟩
 have HN0:Hid (n0.hi=false):=by rw [← hn0];unfold ndAt;rw [awY_t,if_pos (by decide),awY_nd];rfl
 rw [hn0];rintro e w12 ⟨A12,c12,rfl,hb12,-,-⟩;have HM12:=Hd (HM11.out.below hb12);have HC12:=Hd (HC11.out.below hb12);have HK12:=Hd (HK11.out.below' hb12);clear hb12 hn0 HM11 HC11 HK11;have HZ12:Hid (Blk (w12.alloc (.cells Va.toArray 93)) w12.heap.size Va):=blk_new w12 Va _;have HB12:Hid (Below w12.heap.size w12 (w12.alloc (.cells Va.toArray 93))):=bR.alloc nR _
 go_upto_region 10 with (first | (with_reducible refine gS ?_;first | (refine wpl_stow 93 _ _ rfl rfl rfl _ 0 rfl (n0.cs A12 c12) rfl (Va) HZ12.out (n0.cs A12 c12) rfl (nE rfl) (by kernel_rfl) (Nd.one _ _ _) ?_;intro w13 HW13 HK13)))
 have HB13:Hid (Below w12.heap.size w12 w13):=HW13.out.below HB12.out nR;have HM13:=Hd (HM12.out.below HB13.out);have HC13:=Hd (HC12.out.below HB13.out);have HKM:=Hd (HK12.out.below' HB13.out)
 obtain ⟨k12,hk12⟩:∃ k12,w12.heap.size=k12:=⟨_,rfl⟩
 rw [hk12] at HK13 ⊢;clear HZ12 HB12 HW13 HM12 HC12 HK12 HB13 hk12;have HT:Hid (awY.t=[(1,0)]):=awY_t;have HF:Hid (∀ i,Fit (awY.nd i)):=awY_sane.fit;have hms:=fun w=>mp_sameD w
 have HLEN:Hid (∀ W,regs.bl w13 W->Calls Tryz.prog 213 #[.pointer (some ⟨b,0,none⟩)] W fun e w'=>e=.returned (.int .i64 2)∧Below W.heap.size W w'):=fun W hb=>by
  have:=tlen (HM13.out.at_.below hb).tree;rw [HT.out] at this;exact this
 have HPAR:Hid (∀ W,regs.bl w13 W->Calls Tryz.prog 214 #[.pointer (some ⟨b,0,none⟩),.int .i64 1] W fun e w'=>e=.returned (.int .i64 0)∧Below W.heap.size W w'):=fun W hb=>by
  have:=tparent (HM13.out.at_.below hb).tree 1 ⟨by decide,by decide⟩;rw [HT.out,show par [(1,0)] 1=0 from by decide] at this;exact this
 refine wRn [63,64,65,66,67,68,69,70,71,72,73,74,75,76,77,78,79,80,81,82,83,84,85,86,87,88,89,90,91,92,93,94,95,96,97,98,99,100,101,102,103,104,105,106,107,108,109,110,111,112,113,114,115,116,117,118,119,120,121,122,123,124,125,0] (fun i=>match i with
  |0=>rV (.int .i64 3)
  |1|2|4|5|6|7|8|9|12|13|14|16|17|18|20|21|22|23|24|25|28|29|30|36|37|38=>rT
  |3=>rV (.int .i64 0)
  |10|11=>rV (.agg ((⟨65536,0,0,65536,196608,65536⟩:Mp).cs).toArray)
  |15=>rV (.int .i64 1)
  |19=>rV (.int .i64 36)
  |26=>rp k12 7
  |27=>rV (.bool false)
  |31|32|33|39|40|41=>rp g 0
  |34|42=>rV (.iface 102 (.pointer (some ⟨b,0,none⟩)))
  |35=>rV (.int .i64 2)
  | 43=>(⟨fun v wv=>∃ g9,v=.slice (some ⟨g9,0,none⟩) 1 1∧Blk wv g9 [.int .i64 1],fun v w1 w2 h hb=>h.elim fun g9 h=>⟨g9,h.1,Blk.below' h.2 hb⟩⟩:regs.Say regs.bl)
  |44|45|46|52|53|54|56|57|58|61|62|63=>rT
  |47|48|49|59=>rp g 0
  |50=>rV (.iface 102 (.pointer (some ⟨b,0,none⟩)))
  |51=>rV (.int .i64 0)
  |55|60=>rp g2 0
  | _=>ra) ⟨?_,?_,?_,?_,?_,?_,?_,?_,?_,?_,?_,?_,?_,?_,?_,?_,?_,?_,?_,?_,?_,?_,?_,?_,?_,?_,?_,?_,?_,?_,?_,?_,?_,?_,?_,?_,?_,?_,?_,?_,?_,?_,?_,?_,?_,?_,?_,?_,?_,?_,?_,?_,?_,?_,?_,?_,?_,?_,?_,?_,?_,?_,?_,?_,trivial⟩ ?_
 any_goals (first|refine zp fun L a w1 hh=>?_|fail)
 any_goals (first|refine sy rfl rfl fun L a w1 hh=>?_|fail)
 have h5:=hh.o 5 (v:=.int .i64 3) rfl;rotate_left;have h63:=rq (hh.d 0 63);rotate_left;have h64:=rq (hh.d 1 64);rotate_left;have h6:=hh.o 6 (v:=.int .i64 0) rfl;rotate_left;have h66:=rq (hh.d 3 66);rotate_left;have h65:=rq (hh.d 2 65);have h67:=rq (hh.d 4 67);rotate_left;have h68:=rq (hh.d 5 68);rotate_left;have h8:=hh.o 8 (v:=.bool true) rfl;rotate_left;have h69:=rq (hh.d 6 69);have h70:=rq (hh.d 7 70);rotate_left;have h71:=rq (hh.d 8 71);rotate_left
 ·have h7:=hh.p 7 k7 0;have hB:=Hd (Blk.below' HKM.out hh.rel);have hJ:=Hd hh.st;exact wp_take 65 _ rfl k7 0 (by simpa [go_sem] using h7) _ hB.out ((⟨65536,0,0,65536,196608,65536⟩:Mp).cs) rfl _ Tryz.underlying65 rfl (by kernel_rfl) ⟨_,rfl,rB,rfl,hJ.out⟩
 ·have hC:=Hd (mp_shift 196608 65536 w1);have hJ:=hh.j;clear hh;go_simp;refine hC.out.mono ?_;rintro e w9 ⟨rfl,hb9⟩;exact ⟨_,rfl,hb9,rfl,hJ.out⟩
 have h73:=rq (hh.d 10 73);have h74:=rq (hh.d 11 74);rotate_left;have h72:=rq (hh.d 9 72);have h75:=rq (hh.d 12 75);rotate_left;have h76:=rq (hh.d 13 76);rotate_left;have h10:=hh.o 10 (v:=.int .i64 1) rfl;rotate_left;have h78:=rq (hh.d 15 78);rotate_left;have h77:=rq (hh.d 14 77);have h79:=rq (hh.d 16 79);rotate_left;have h80:=rq (hh.d 17 80);rotate_left;have h11:=hh.o 11 (v:=.int .i64 36) rfl;rotate_left;have h82:=rq (hh.d 19 82);rotate_left;have h81:=rq (hh.d 18 81);have h83:=rq (hh.d 20 83);rotate_left;have h84:=rq (hh.d 21 84);rotate_left;have h13:=hh.o 13 (v:=.bool true) rfl;rotate_left
 have h85:=rq (hh.d 22 85);have h86:=rq (hh.d 23 86);rotate_left;have h87:=rq (hh.d 24 87);rotate_left;have h12:=hh.p 12 k12 0;have i0:=(Blk.below' HK13.out hh.rel).inside;rotate_left
 ·have h89:=rq (hh.d 26 89);have hB:=Hd (Blk.below' HK13.out hh.rel);have c0:=hB.out.c 7 rfl;rw [HN0.out] at c0;have i0:=hB.out.inside;clear hh;go_simp;exact ⟨_,rfl,rB,rfl,trivial⟩
 have h90:=rq (hh.d 27 90);rotate_left;have h88:=rq (hh.d 25 88);have h91:=rq (hh.d 28 91);rotate_left;have h92:=rq (hh.d 29 92);rotate_left;have h1:=hh.p 1 g 0;rotate_left;have h94:=rq (hh.d 31 94);rotate_left;have h95:=rq (hh.d 32 95);have i0:=((HM13.out.at_.below hh.rel).blk.blk).inside;rotate_left;have h96:=rq (hh.d 33 96);have ⟨c0,i0⟩:=((HM13.out.at_.below hh.rel).blk.blk).ci 0 rfl;rotate_left
 ·have h97:=rq (hh.d 34 97);have hinv:=inv_len (.pointer (some ⟨b,0,none⟩));have hC:=Hd (HLEN.out _ hh.rel);have hJ:=hh.j;clear hh;go_simp;refine hC.out.mono ?_;rintro e w9 ⟨rfl,hb9⟩;exact ⟨_,rfl,hb9,rfl,hJ.out⟩
 have h98:=rq (hh.d 35 98);rotate_left;have h93:=rq (hh.d 30 93);have h99:=rq (hh.d 36 99);rotate_left;have h100:=rq (hh.d 37 100);rotate_left;have h1:=hh.p 1 g 0;rotate_left;have h102:=rq (hh.d 39 102);rotate_left;have h103:=rq (hh.d 40 103);have i0:=((HM13.out.at_.below hh.rel).blk.blk).inside;rotate_left;have h104:=rq (hh.d 41 104);have ⟨c0,i0⟩:=((HM13.out.at_.below hh.rel).blk.blk).ci 0 rfl;rotate_left
 ·have hJ:=hh.j;clear hh;exact wp_bs _ _ _ rfl (by simp [go_sem]) (bs_int1 1 w1) ⟨_,rfl,bR.alloc nR _,⟨_,rfl,blk_new w1 [.int .i64 1] _⟩,hJ.out⟩
 ·have h105:=rq (hh.d 42 105)
  obtain ⟨g9,e9,hB9⟩:=(show ∃ g9,(a.tmps.getD 106 undef)=.slice (some ⟨g9,0,none⟩) 1 1∧Blk w1 g9 [.int .i64 1] from hh.d 43 106)
  have h106:a.tmps[106]?.getD undef=.slice (some ⟨g9,0,none⟩) 1 1:=rq (e9);have hinv:=inv_has (.pointer (some ⟨b,0,none⟩));have hC:=Hd (thas (HM13.out.at_.below hh.rel).tree (some ⟨g9,0,none⟩) [1] 1 (fun _=>⟨g9,0,rfl,fun j hj=>by have:j=0:=(by simp at hj;omega);subst this;exact hB9.cell 0⟩) (fun z hz=>by rw [List.mem_singleton.1 hz];exact ⟨by decide,by decide⟩) (by simp));rw [show ([1].all (has awY.t))=true from by rw [HT.out];decide] at hC;clear e9 hB9;have hJ:=hh.j;clear hh;go_simp;refine hC.out.mono ?_;rintro e w9 ⟨rfl,hb9⟩;exact ⟨_,rfl,hb9,rfl,hJ.out⟩
 have h101:=rq (hh.d 38 101);have h107:=rq (hh.d 44 107);rotate_left;have h108:=rq (hh.d 45 108);rotate_left;have h1:=hh.p 1 g 0;rotate_left;have h110:=rq (hh.d 47 110);rotate_left;have h111:=rq (hh.d 48 111);have i0:=((HM13.out.at_.below hh.rel).blk.blk).inside;rotate_left;have h112:=rq (hh.d 49 112);have ⟨c0,i0⟩:=((HM13.out.at_.below hh.rel).blk.blk).ci 0 rfl;rotate_left
 ·have h113:=rq (hh.d 50 113);have hinv:=inv_parent (.pointer (some ⟨b,0,none⟩));have hC:=Hd (HPAR.out _ hh.rel);have hJ:=hh.j;clear hh;go_simp;refine hC.out.mono ?_;rintro e w9 ⟨rfl,hb9⟩;exact ⟨_,rfl,hb9,rfl,hJ.out⟩
 have h114:=rq (hh.d 51 114);rotate_left;have h109:=rq (hh.d 46 109);have h115:=rq (hh.d 52 115);rotate_left;have h116:=rq (hh.d 53 116);rotate_left;have h9:=hh.p 9 g2 0;rotate_left;have h118:=rq (hh.d 55 118);rotate_left;have h117:=rq (hh.d 54 117);have h119:=rq (hh.d 56 119);rotate_left;have h120:=rq (hh.d 57 120);rotate_left;have h1:=hh.p 1 g 0;rotate_left;have h9:=hh.p 9 g2 0;rotate_left
 ·have h122:=rq (hh.d 59 122);have h123:=rq (hh.d 60 123);have hC:=Hd (sequal (HM13.out.at_.below hh.rel) (HC13.out.below hh.rel) HF.out HF.out (by rw [HT.out];decide) (by rw [HT.out];decide) ⟨rfl,rfl⟩);unfold EqQ at hC;have hJ:=hh.j;clear hh;go_simp;refine hC.out.mono ?_;rintro e w9 ⟨r9,rfl,hr9,hb9⟩;obtain rfl:r9=true:=hr9.2 (same_self _);exact ⟨_,rfl,hb9,rfl,hJ.out⟩
 have h121:=rq (hh.d 58 121);have h124:=rq (hh.d 61 124);rotate_left;have h125:=rq (hh.d 62 125);rotate_left
 any_goals (clear hh;go_simp;exact ⟨_,rfl,rB,rfl,trivial⟩)
 intro L w14 val hL hJ hR hv;have h0:val 0=.bool true:=hv 63 0 (by kernel_rfl);have HR14:=Hd hR;clear hv hL hJ hR;simp only [regs.putAll,List.map_cons,List.map_nil,h0];simp only [Act.put,List.setIfInBounds_toArray,List.set_cons_zero,List.set_cons_succ];clear h0
 skip
 go_wp2_with (fail);go_ret;exact ⟨rfl,HM13.out.bel.trans (HR14.out.mono HM13.out.bel.size)⟩
end
section
open Go.RowKit pxm imm trm Go.Maps
abbrev tDoc:TypeId:=34
abbrev tDNs:TypeId:=32
structure PxR (w:World) (A:Option Addr) (l:List Nat):Prop where
 row:Row eW w A l
 typ:∀ a,A=some a->l≠[]->∃ cs fz,w.heap[a.block]?=some (.cells cs 49 fz)
theorem PxR.stays {w w':World} {A:Option Addr} {l:List Nat} (h:PxR w A l) (hb:∀ a,A=some a->l≠[]->w'.heap[a.block]?=w.heap[a.block]?):PxR w' A l:=⟨Row.stays h.row hb,fun a ea hne=>by rw [hb a ea hne];exact h.typ a ea hne⟩
theorem PxR.below {w w':World} {A:Option Addr} {l:List Nat} (h:PxR w A l) (hb:Below w.heap.size w w'):PxR w' A l:=h.stays fun _ ea hne=>hb.block _ (Row.lt h.row ea hne)
theorem PxR.none_ {w:World} {A:Option Addr} {l:List Nat} (h:l.length=0):PxR w A l:=⟨Row.none_ h,fun _ _ hne=>absurd (List.eq_nil_of_length_eq_zero h) hne⟩
def DPl (w:World) (v:Value) (n:Nd):Prop:=∃ A c,v=n.v A c∧PxR w A n.lk.l
theorem DPl.below {w w':World} {v:Value} {n:Nd} (h:DPl w v n) (hb:Below w.heap.size w w'):DPl w' v n:=by
 obtain ⟨A,c,e,hr⟩:=h;exact ⟨A,c,e,hr.below hb⟩
structure DMap (w:World) (m:Nat) (H:Int->Bool) (nd:Int->Nd):Prop where
 ex:∃ es,VM w m es∧(∀ i,omap.look es i≠none->H i=true)∧∀ i,H i=true->∃ v,omap.look es i=some v∧DPl w v (nd i)
theorem DMap.below {w w':World} {m:Nat} {H:Int->Bool} {nd:Int->Nd} (h:DMap w m H nd) (hb:Below w.heap.size w w'):DMap w' m H nd:=by
 obtain ⟨es,h1,h2,h3⟩:=h.ex
 exact ⟨es,h1.below hb,h2,fun i hi=>by
  obtain ⟨v,e,hv⟩:=h3 i hi
  exact ⟨v,e,hv.below hb⟩⟩
theorem DMap.inside {w:World} {m:Nat} {H:Int->Bool} {nd:Int->Nd} (h:DMap w m H nd):m<w.heap.size:=h.ex.elim fun _ h=>h.1.inside
theorem look_put0 (i:Int) (v:Value) (j:Int):omap.look (omap.put lt i v []) j=if j=i then some v else none:=by
 show omap.look [(i,v)] j=_;rw [omap.look_cons];by_cases e:j=i
 ·rw [if_pos e,if_pos e.symm]
 ·rw [if_neg e,if_neg fun h=>e h.symm];rfl
def DocAt (w:World) (v:Value) (a b M:Int) (x:PSc):Prop:=∃ tv m,v=.agg #[.int .i64 a,.int .i64 b,.int .i64 M,tv,.map (some m)]∧DTree w tv x.t∧DMap w m (has x.t) x.nd
theorem DocAt.below {w w':World} {v:Value} {a b M:Int} {x:PSc} (h:DocAt w v a b M x) (hb:Below w.heap.size w w'):DocAt w' v a b M x:=by
 obtain ⟨tv,m,e,h1,h2⟩:=h;exact ⟨tv,m,e,h1.below hb,h2.below hb⟩
theorem build_dp1 (w:World):(Instr.build 47 #[(0,.int .i64 65536),(1,.int .i64 0),(2,.int .i64 0),(3,.int .i64 65536),(4,.int .i64 0),(5,.int .i64 0)]).run Tryz.prog w=.ok (.agg Mp.one.cs.toArray) w:=by kernel_rfl
theorem build_dp2 (w:World):(Instr.build 54 #[(0,.agg Mp.one.cs.toArray),(1,.int .i64 255)]).run Tryz.prog w=.ok (.agg (Nd.plain.cs none 0).toArray) w:=by kernel_rfl
theorem build_doc (a b M:Int) (A:Option Addr) (n c m:Nat) (w:World):(Instr.build tDoc #[(0,.int .i64 a),(1,.int .i64 b),(2,.int .i64 M),(3,.slice A n c),(4,.map (some m))]).run Tryz.prog w=.ok (.agg (Vc a b M A n c m).toArray) w:=by kernel_rfl
theorem make_dns (w:World):(Instr.makeMap tDNs none).run Tryz.prog w=.ok (.map (some w.heap.size)) (w.alloc (.map #[] 0)):=rfl
theorem dplain_any (w:World):Calls Tryz.prog 38 #[] w fun e w'=>e=.returned (.agg (Nd.plain.cs none 0).toArray)∧Below w.heap.size w w':=by
 go_enter Tryz.func38,Tryz.ntmps38;have HZ:Hid (Blk (w.alloc (.cells Va.toArray 54)) w.heap.size Va):=blk_new w Va _;have HB:Hid (Below w.heap.size w (w.alloc (.cells Va.toArray 54))):=bR.alloc nR _
 go_wp2_with (first | (with_reducible refine gU ?_;refine wpl_build _ _ rfl rfl (by simp [go_sem]) (build_dp1 _) ?_) | (with_reducible refine gU ?_;refine wpl_build _ _ rfl rfl (by simp [go_sem]) (build_dp2 _) ?_) | (first | (with_reducible refine gS ?_;first | (refine wpl_stow 54 _ _ rfl rfl rfl _ 0 rfl (Nd.plain.cs none 0) rfl (Va) HZ.out (Nd.plain.cs none 0) rfl (nE rfl) (by kernel_rfl) (Nd.one _ _ _) ?_;intro w1 HW1 HK1))));exact blk_ret rfl rfl HK1.out Tryz.underlying54 rfl (by kernel_rfl) ⟨rfl,HW1.out.below HB.out nR⟩
theorem dnew_any (a b M:Int) (w:World):Calls Tryz.prog 11 (Vn a b M).toArray w fun e w'=>∃ v,e=.returned v∧DocAt w' v a b M PSc.new∧Below w.heap.size w w':=by
 go_enter Tryz.func11,Tryz.ntmps11
 go_upto_region 1 with (fail)
 have HZ:Hid (Blk (w.alloc (.cells Vi.toArray 34)) w.heap.size Vi):=blk_new w Vi _;have HB:Hid (Below w.heap.size w (w.alloc (.cells Vi.toArray 34))):=bR.alloc nR _;generalize (w.alloc (.cells Vi.toArray 34))=w0 at *;have hmk:=make_dns w0;have hm1:VM (w0.alloc (.map #[] 0)) w0.heap.size []:=VM.made w0;have hb1:Below w0.heap.size w0 (w0.alloc (.map #[] 0)):=bR.alloc nR _;have HB1:Hid (Below w.heap.size w (w0.alloc (.map #[] 0))):=HB.out.trans (hb1.mono HB.out.size);have HZ1:=Hd (HZ.out.below' hb1);have HM1:=Hd hm1
 have HKL:Hid (w.heap.size<w0.heap.size):=HZ.out.inside;clear hm1 hb1;go_wp2_with (fail);refine (dplain_any _).mono ?_;rintro e w2 ⟨rfl,hb2⟩;have HM2:=Hd (HM1.out.below hb2);have HZ2:=Hd (HZ1.out.below' hb2);have HB2:=Hd (HB1.out.trans (hb2.mono HB1.out.size));clear hb2 HM1 HZ1 HB1 hmk;generalize (w0.alloc (.map #[] 0))=w1 at *
 obtain ⟨k1,hk1⟩:∃ k1,w0.heap.size=k1:=⟨_,rfl⟩
 rw [hk1] at HM2 HKL ⊢;clear hk1;obtain ⟨w3,hrun,hm3,hg3⟩:=HM2.out.store (t:=tDNs) (E:=54) Tryz.underlying32 (i:=0) ⟨by decide,by decide⟩ (.agg (Nd.plain.cs none 0).toArray) (by decide);have HM3:=Hd hm3;have HB3:Hid (Below w.heap.size w w3):=HB2.out.grown hg3 HB2.out.size fun k hk=>by cases hk;exact Nat.le_of_lt HKL.out
 have HZ3:Hid (Blk w3 w.heap.size Vi):=HZ2.out.stays (hg3.block _ HZ2.out.inside (fun e=>by cases e;exact Nat.lt_irrefl _ HKL.out));clear hm3 hg3 HM2 HZ2 HB2
 go_wp2_with (first | (with_reducible refine gU ?_;refine wpl_build _ _ rfl rfl (by simp [go_sem]) (build_doc a b M _ _ _ _ _) ?_) | (first | (with_reducible refine gS ?_;first | (refine wpl_stow 34 _ _ rfl rfl rfl _ 0 rfl ([.int .i64 a,.int .i64 b,.int .i64 M,.slice none 0 0,.map (some k1)]) rfl (Vi) HZ3.out ([.int .i64 a,.int .i64 b,.int .i64 M,.slice none 0 0,.map (some k1)]) rfl (nE rfl) (by kernel_rfl) rfl ?_;intro w4 HW4 HK4))))
 refine blk_ret rfl rfl HK4.out Tryz.underlying34 rfl (by kernel_rfl) ⟨_,rfl,⟨.slice none 0 0,k1,rfl,⟨none,0,rfl,SRow.none_ rfl,fun _ e=>nomatch e⟩,⟨_,HM3.out.stays (HW4.out.far (Nat.ne_of_gt HKL.out)),fun i hi=>?_,fun i hi=>?_⟩⟩,HW4.out.below HB3.out nR⟩
 ·have h1:=look_put0 0 (.agg (Nd.plain.cs none 0).toArray) i;rw [h1] at hi;by_cases e:i=0
  ·rw [e];rfl
  ·rw [if_neg e] at hi;exact absurd rfl hi
 ·have e:i=0:=by
   rcases has_iff.1 hi with e | e
   ·exact e
   ·cases e
  exact ⟨(PSc.new.nd i).v none 0,by rw [look_put0,if_pos e];rfl,none,0,rfl,PxR.none_ rfl⟩
end
section
open Go.RowKit pxm imm trm Go.Maps
def refN (o:Op9):Nd:=⟨o.m,o.N,o.on,o.on,o.r,o.lk⟩
def Op9.dcs (o:Op9) (A:Option Addr) (c:Nat):List Value:=.int .i64 o.k::.int .i64 o.i::.int .i64 o.p::.int .i64 o.n::(refN o).cs A c
theorem Op9.done (o:Op9) (A:Option Addr) (c:Nat):(o.dcs A c).all (·.oneCell')=true:=rfl
theorem cs4_one (r:Bx):r.cs4.all (·.oneCell')=true:=rfl
theorem dset_any (o:Op9) (Ao:Option Addr) (co:Nat) (n:Nd) (An:Option Addr) (cn:Nat) (w:World) :
  Calls Tryz.prog 114 #[.agg (n.cs An cn).toArray,.agg (o.dcs Ao co).toArray] w fun e w'=>e=.returned (.agg ((setN n o).cs (pick7 o Ao An) (pick7 o co cn)).toArray)∧Below w.heap.size w w':=by
 have HB0:Hid (Below w.heap.size w (((w.alloc (.cells (n.cs An cn).toArray 54)).alloc (.cells (o.dcs Ao co).toArray 193)).alloc (.cells Va.toArray 54))):=((bR.alloc nR _).alloc (by simp) _).alloc (by simp;omega) _;have HKn:Hid (Blk (((w.alloc (.cells (n.cs An cn).toArray 54)).alloc (.cells (o.dcs Ao co).toArray 193)).alloc (.cells Va.toArray 54)) w.heap.size (n.cs An cn)):=((blk_new w (n.cs An cn) _).alloc _).alloc _
 have HKo:Hid (Blk (((w.alloc (.cells (n.cs An cn).toArray 54)).alloc (.cells (o.dcs Ao co).toArray 193)).alloc (.cells Va.toArray 54)) (w.heap.size+1) (o.dcs Ao co)):=(blk_at (w.alloc _) _ (by simp) (o.dcs Ao co) _).alloc _;have HKr:Hid (Blk (((w.alloc (.cells (n.cs An cn).toArray 54)).alloc (.cells (o.dcs Ao co).toArray 193)).alloc (.cells Va.toArray 54)) (w.heap.size+2) Va):=blk_at ((w.alloc _).alloc _) _ (by simp) Va _
 have HSZ:Hid ((((w.alloc (.cells (n.cs An cn).toArray 54)).alloc (.cells (o.dcs Ao co).toArray 193)).alloc (.cells Va.toArray 54)).heap.size=w.heap.size+3):=by show _=_;simp
 obtain ⟨X,hX⟩:∃ X,(.agg ((setN n o).cs (pick7 o Ao An) (pick7 o co cn)).toArray:Value)=X:=⟨_,rfl⟩
 have HX:=Hd hX;rw [hX];clear hX;go_enter Tryz.func114,Tryz.ntmps114
 go_upto_region 1 with (fail)
 generalize (((w.alloc (.cells (n.cs An cn).toArray 54)).alloc (.cells (o.dcs Ao co).toArray 193)).alloc (.cells Va.toArray 54))=wz at *;have c0:wz.cell? ⟨w.heap.size+1,0,none⟩=some (.int .i64 o.k):=HKo.out.cell 0;have c10:wz.cell? ⟨w.heap.size+1,10,none⟩=some (.int .i64 o.N):=HKo.out.cell 10;have c11:wz.cell? ⟨w.heap.size+1,11,none⟩=some (.bool o.on):=HKo.out.cell 11;have c12:wz.cell? ⟨w.heap.size+1,12,none⟩=some (.bool o.on):=HKo.out.cell 12;have i0:w.heap.size<wz.heap.size:=HKn.out.inside;have i1:w.heap.size+1<wz.heap.size:=HKo.out.inside;by_cases h4:o.k=4
 ·have t4:(o.k==4)=true:=by simpa using h4
  have HE:Hid (X=.agg ((({ n with m:=o.m }:Nd).cs An cn)).toArray):=by show _=_;rw [← HX.out,show setN n o={ n with m:=o.m } from by unfold setN;rw [if_pos h4],show pick7 o Ao An=An from if_neg (by omega),show pick7 o co cn=cn from if_neg (by omega)]
  clear h4
  go_upto_region 3 with (first | (with_reducible refine gL ?_;first | (refine wt 47 4 rfl rfl rfl HKo.out (o.m.cs) rfl Tryz.underlying47 rfl ?_)) | (with_reducible refine gS ?_;first | (refine wpl_stow 47 _ _ rfl rfl rfl _ 0 rfl (o.m.cs) rfl (n.cs An cn) HKn.out (({ n with m:=o.m }:Nd).cs An cn) rfl (nE rfl) (by kernel_rfl) (Mp.one1 _) ?_;intro w2 HS HK2)))
  have HR2:=Hd (HS.out.blk (show w.heap.size+2≠w.heap.size by omega) HKr.out);have HB2:=Hd (HS.out.below HB0.out (by omega));have HKo2:=Hd (HS.out.blk (show w.heap.size+1≠w.heap.size by omega) HKo.out);have e0:w2.cell? ⟨w.heap.size+1,0,none⟩=some (.int .i64 o.k):=HKo2.out.cell 0;have j1:=HKo2.out.inside;have s5:(o.k==5)=false:=by simp at t4 ⊢;omega
  have s6:(o.k==6)=false:=by simp at t4 ⊢;omega
  have s7:(o.k==7)=false:=by simp at t4 ⊢;omega
  have s8:(o.k==8)=false:=by simp at t4 ⊢;omega
  go_wp2_with (first | (with_reducible refine gL ?_;first | (refine wt 54 0 rfl rfl rfl HK2.out (({ n with m:=o.m }:Nd).cs An cn) rfl Tryz.underlying54 rfl ?_)) | (with_reducible refine gS ?_;first | (refine wpl_stow 54 _ _ rfl rfl rfl _ 0 rfl (({ n with m:=o.m }:Nd).cs An cn) rfl (Va) HR2.out (({ n with m:=o.m }:Nd).cs An cn) rfl (nE rfl) (by kernel_rfl) (Nd.one _ _ _) ?_;intro w3 HW3 HK3)));rw [HE.out];exact blk_ret rfl rfl HK3.out Tryz.underlying54 rfl (by kernel_rfl) ⟨rfl,HW3.out.below HB2.out (by omega)⟩
 by_cases h5:o.k=5
 ·have t4:(o.k==4)=false:=by simpa using h4
  have t5:(o.k==5)=true:=by simpa using h5
  have HE:Hid (X=.agg ((({ n with cl:=o.on,r:=o.r }:Nd).cs An cn)).toArray):=by show _=_;rw [← HX.out,show setN n o={ n with cl:=o.on,r:=o.r } from by unfold setN;rw [if_neg h4,if_pos h5],show pick7 o Ao An=An from if_neg (by omega),show pick7 o co cn=cn from if_neg (by omega)]
  clear h4;clear h5;have d8:=HKn.out.cell 8;have f8:=HKn.out.free 8;simp only [Nd.cs,List.getElem?_cons_zero,List.getElem?_cons_succ] at d8
  have HSa:Hid (Wrote w.heap.size wz (wz.setCell ⟨w.heap.size,8,none⟩ (.bool o.on))):=⟨8,[.bool o.on],rfl⟩
  have HKa:Hid (Blk (wz.setCell ⟨w.heap.size,8,none⟩ (.bool o.on)) w.heap.size (({ n with cl:=o.on }:Nd).cs An cn)):=HKn.out.set 8 _
  go_upto_region 5 with (fail)
  generalize (wz.setCell ⟨w.heap.size,8,none⟩ (.bool o.on))=wy at *;have HKoa:=Hd (HSa.out.blk (show w.heap.size+1≠w.heap.size by omega) HKo.out);have HKra:=Hd (HSa.out.blk (show w.heap.size+2≠w.heap.size by omega) HKr.out);have HBa:=Hd (HSa.out.below HB0.out (by omega))
  go_upto_region 6 with (first | (with_reducible refine gL ?_;first | (refine wt 48 13 rfl rfl rfl HKoa.out (o.r.cs4) rfl Tryz.underlying48 rfl ?_)) | (with_reducible refine gS ?_;first | (refine wpl_stow 48 _ _ rfl rfl rfl _ 9 rfl (o.r.cs4) rfl (({ n with cl:=o.on }:Nd).cs An cn) HKa.out (({ n with cl:=o.on,r:=o.r }:Nd).cs An cn) rfl (nE rfl) (by kernel_rfl) (cs4_one _) ?_;intro w2 HS HK2)))
  have HR2:=Hd (HS.out.blk (show w.heap.size+2≠w.heap.size by omega) HKra.out);have HB2:=Hd (HS.out.below HBa.out (by omega));have HKo2:=Hd (HS.out.blk (show w.heap.size+1≠w.heap.size by omega) HKoa.out);have e0:w2.cell? ⟨w.heap.size+1,0,none⟩=some (.int .i64 o.k):=HKo2.out.cell 0;have j1:=HKo2.out.inside;have s6:(o.k==6)=false:=by simp at t5 ⊢;omega
  have s7:(o.k==7)=false:=by simp at t5 ⊢;omega
  have s8:(o.k==8)=false:=by simp at t5 ⊢;omega
  go_wp2_with (first | (with_reducible refine gL ?_;first | (refine wt 54 0 rfl rfl rfl HK2.out (({ n with cl:=o.on,r:=o.r }:Nd).cs An cn) rfl Tryz.underlying54 rfl ?_)) | (with_reducible refine gS ?_;first | (refine wpl_stow 54 _ _ rfl rfl rfl _ 0 rfl (({ n with cl:=o.on,r:=o.r }:Nd).cs An cn) rfl (Va) HR2.out (({ n with cl:=o.on,r:=o.r }:Nd).cs An cn) rfl (nE rfl) (by kernel_rfl) (Nd.one _ _ _) ?_;intro w3 HW3 HK3)));rw [HE.out];exact blk_ret rfl rfl HK3.out Tryz.underlying54 rfl (by kernel_rfl) ⟨rfl,HW3.out.below HB2.out (by omega)⟩
 by_cases h6:o.k=6
 ·have t4:(o.k==4)=false:=by simpa using h4
  have t5:(o.k==5)=false:=by simpa using h5
  have t6:(o.k==6)=true:=by simpa using h6
  have HE:Hid (X=.agg ((({ n with op:=o.N }:Nd).cs An cn)).toArray):=by show _=_;rw [← HX.out,show setN n o={ n with op:=o.N } from by unfold setN;rw [if_neg h4,if_neg h5,if_pos h6],show pick7 o Ao An=An from if_neg (by omega),show pick7 o co cn=cn from if_neg (by omega)]
  clear h4;clear h5;clear h6;have d6:=HKn.out.cell 6;have f6:=HKn.out.free 6;simp only [Nd.cs,List.getElem?_cons_zero,List.getElem?_cons_succ] at d6
  have HS:Hid (Wrote w.heap.size wz (wz.setCell ⟨w.heap.size,6,none⟩ (.int .i64 o.N))):=⟨6,[.int .i64 o.N],rfl⟩
  have HK2:Hid (Blk (wz.setCell ⟨w.heap.size,6,none⟩ (.int .i64 o.N)) w.heap.size (({ n with op:=o.N }:Nd).cs An cn)):=HKn.out.set 6 _
  go_upto_region 8 with (fail)
  generalize (wz.setCell ⟨w.heap.size,6,none⟩ (.int .i64 o.N))=w2 at *;have HR2:=Hd (HS.out.blk (show w.heap.size+2≠w.heap.size by omega) HKr.out);have HB2:=Hd (HS.out.below HB0.out (by omega));have HKo2:=Hd (HS.out.blk (show w.heap.size+1≠w.heap.size by omega) HKo.out);have e0:w2.cell? ⟨w.heap.size+1,0,none⟩=some (.int .i64 o.k):=HKo2.out.cell 0;have j1:=HKo2.out.inside;have s7:(o.k==7)=false:=by simp at t6 ⊢;omega
  have s8:(o.k==8)=false:=by simp at t6 ⊢;omega
  go_wp2_with (first | (with_reducible refine gL ?_;first | (refine wt 54 0 rfl rfl rfl HK2.out (({ n with op:=o.N }:Nd).cs An cn) rfl Tryz.underlying54 rfl ?_)) | (with_reducible refine gS ?_;first | (refine wpl_stow 54 _ _ rfl rfl rfl _ 0 rfl (({ n with op:=o.N }:Nd).cs An cn) rfl (Va) HR2.out (({ n with op:=o.N }:Nd).cs An cn) rfl (nE rfl) (by kernel_rfl) (Nd.one _ _ _) ?_;intro w3 HW3 HK3)));rw [HE.out];exact blk_ret rfl rfl HK3.out Tryz.underlying54 rfl (by kernel_rfl) ⟨rfl,HW3.out.below HB2.out (by omega)⟩
 by_cases h7:o.k=7
 ·have t4:(o.k==4)=false:=by simpa using h4
  have t5:(o.k==5)=false:=by simpa using h5
  have t6:(o.k==6)=false:=by simpa using h6
  have t7:(o.k==7)=true:=by simpa using h7
  have HE:Hid (X=.agg ((({ n with lk:=o.lk }:Nd).cs Ao co)).toArray):=by show _=_;rw [← HX.out,show setN n o={ n with lk:=o.lk } from by unfold setN;rw [if_neg h4,if_neg h5,if_neg h6,if_pos h7],show pick7 o Ao An=Ao from if_pos h7,show pick7 o co cn=co from if_pos h7]
  clear h4;clear h5;clear h6;clear h7
  have HJ0:Hid (JF w.heap.size [(w.heap.size+1,o.dcs Ao co),(w.heap.size+2,Va)] w.heap.size (n.cs An cn) wz):=⟨⟨HKo.out,HKr.out,trivial⟩,by omega,by simp,by omega,HKn.out⟩
  go_upto_region 9 with (fail)
  refine wR (Below w.heap.size) (fun L wx=>JF w.heap.size [(w.heap.size+1,o.dcs Ao co),(w.heap.size+2,Va)] w.heap.size [.int .i64 n.m.a,.int .i64 n.m.b,.int .i64 n.m.c,.int .i64 n.m.d,.int .i64 n.m.e,.int .i64 n.m.f,.int .i64 n.op,.bool n.hi,.bool n.cl,.int .i64 n.r.a,.int .i64 n.r.b,.int .i64 n.r.c,.int .i64 n.r.d,bif L 16 then .int .i64 o.lk.k else .int .i64 n.lk.k,bif L 18 then .int .i64 o.lk.W else .int .i64 n.lk.W,bif L 20 then .int .i64 o.lk.H else .int .i64 n.lk.H,bif L 22 then .int .u32 (o.lk.p:Nat) else .int .u32 (n.lk.p:Nat),bif L 24 then .int .i64 o.lk.iw else .int .i64 n.lk.iw,bif L 24 then .int .i64 o.lk.ih else .int .i64 n.lk.ih,bif L 24 then .slice Ao o.lk.l.length co else .slice An n.lk.l.length cn] wx) [33,34,35,36,37,38,39,40,41,42,43,44,45,46,47,48,49,50,51,52] (fun _=>bR) (fun _ _ _ h k=>h.trans k) (fun i=>match i with
   |0|3|6|9|12=>rp (w.heap.size+1) 4
   |1=>rp (w.heap.size+1) 17
   |2=>rV (.int .i64 o.lk.k)
   |4=>rp (w.heap.size+1) 18
   |5=>rV (.int .i64 o.lk.W)
   |7=>rp (w.heap.size+1) 19
   |8=>rV (.int .i64 o.lk.H)
   |10=>rp (w.heap.size+1) 20
   |11=>rV (.int .u32 (o.lk.p:Nat))
   |13=>rp (w.heap.size+1) 21
   |14=>rV (.agg ((Vp o.lk.iw o.lk.ih Ao o.lk.l.length co)).toArray)
   |15=>rp w.heap.size 13
   |17=>rp w.heap.size 14
   |19=>rp w.heap.size 15
   |21=>rp w.heap.size 16
   |23=>rp w.heap.size 17
   | _=>ra) (bR.drew) (HJ0.out.below bR.drew) ⟨?_,?_,?_,?_,?_,?_,?_,?_,?_,?_,?_,?_,?_,?_,?_,?_,?_,?_,?_,?_,?_,?_,?_,?_,?_,trivial⟩ ?_
  any_goals (first|refine zp fun L a w1 hh=>?_|fail)
  have h3:=hh.p 3 ((w.heap.size+1)) 0;have i0:=(hh.st.old.1).inside;rotate_left;have h33:=rq (hh.d 0 33);have i0:=(hh.st.old.1).inside;rotate_left;have h34:=rq (hh.d 1 34);have hB:=Hd (hh.st.old.1);have c0:w1.cell? ⟨(w.heap.size+1),17,none⟩=some (.int .i64 o.lk.k):=hB.out.cell 17;have i0:=hB.out.inside;rotate_left;have h3:=hh.p 3 ((w.heap.size+1)) 0;have i0:=(hh.st.old.1).inside;rotate_left;have h36:=rq (hh.d 3 36);have i0:=(hh.st.old.1).inside;rotate_left;have h37:=rq (hh.d 4 37);have hB:=Hd (hh.st.old.1)
  have c0:w1.cell? ⟨(w.heap.size+1),18,none⟩=some (.int .i64 o.lk.W):=hB.out.cell 18;have i0:=hB.out.inside;rotate_left;have h3:=hh.p 3 ((w.heap.size+1)) 0;have i0:=(hh.st.old.1).inside;rotate_left;have h39:=rq (hh.d 6 39);have i0:=(hh.st.old.1).inside;rotate_left;have h40:=rq (hh.d 7 40);have hB:=Hd (hh.st.old.1);have c0:w1.cell? ⟨(w.heap.size+1),19,none⟩=some (.int .i64 o.lk.H):=hB.out.cell 19;have i0:=hB.out.inside;rotate_left;have h3:=hh.p 3 ((w.heap.size+1)) 0;have i0:=(hh.st.old.1).inside;rotate_left;have h42:=rq (hh.d 9 42);have i0:=(hh.st.old.1).inside;rotate_left
  have h43:=rq (hh.d 10 43);have hB:=Hd (hh.st.old.1);have c0:w1.cell? ⟨(w.heap.size+1),20,none⟩=some (.int .u32 (o.lk.p:Nat)):=hB.out.cell 20;have i0:=hB.out.inside;rotate_left;have h3:=hh.p 3 ((w.heap.size+1)) 0;have i0:=(hh.st.old.1).inside;rotate_left;have h45:=rq (hh.d 12 45);have i0:=(hh.st.old.1).inside;rotate_left
  ·have h46:=rq (hh.d 13 46);have hB:=Hd (hh.st.old.1);have hJ:=Hd hh.st;exact wp_take 52 _ rfl (w.heap.size+1) 21 (by simpa [go_sem] using h46) _ hB.out ((Vp o.lk.iw o.lk.ih Ao o.lk.l.length co)) rfl _ Tryz.underlying52 rfl (by kernel_rfl) ⟨_,rfl,bR,rfl,hJ.out⟩
  have h2:=hh.p 2 w.heap.size 0;have i0:=(hh.st.blk).inside;rotate_left
  ·have h35:=rq (hh.d 2 35);have h48:=rq (hh.d 15 48);have hB:=hh.st.blk;rw [hh.un] at hB;have c0:=hB.cell 13;have f0:=hB.free 13;have i0:=hB.inside;simp only [List.getElem?_cons_zero,List.getElem?_cons_succ] at c0;have hP:=Hd (hh.st.put (i:=13) (v:=.int .i64 o.lk.k) rfl);clear hh hB;go_simp;exact ⟨hP.out.2,⟨undef,trivial⟩,hP.out.1⟩
  have h2:=hh.p 2 w.heap.size 0;have i0:=(hh.st.blk).inside;rotate_left
  ·have h38:=rq (hh.d 5 38);have h49:=rq (hh.d 17 49);have hB:=hh.st.blk;rw [hh.un] at hB;have c0:=hB.cell 14;have f0:=hB.free 14;have i0:=hB.inside;simp only [List.getElem?_cons_zero,List.getElem?_cons_succ] at c0;have hP:=Hd (hh.st.put (i:=14) (v:=.int .i64 o.lk.W) rfl);clear hh hB;go_simp;exact ⟨hP.out.2,⟨undef,trivial⟩,hP.out.1⟩
  have h2:=hh.p 2 w.heap.size 0;have i0:=(hh.st.blk).inside;rotate_left
  ·have h41:=rq (hh.d 8 41);have h50:=rq (hh.d 19 50);have hB:=hh.st.blk;rw [hh.un] at hB;have c0:=hB.cell 15;have f0:=hB.free 15;have i0:=hB.inside;simp only [List.getElem?_cons_zero,List.getElem?_cons_succ] at c0;have hP:=Hd (hh.st.put (i:=15) (v:=.int .i64 o.lk.H) rfl);clear hh hB;go_simp;exact ⟨hP.out.2,⟨undef,trivial⟩,hP.out.1⟩
  have h2:=hh.p 2 w.heap.size 0;have i0:=(hh.st.blk).inside;rotate_left
  ·have h44:=rq (hh.d 11 44);have h51:=rq (hh.d 21 51);have hB:=hh.st.blk;rw [hh.un] at hB;have c0:=hB.cell 16;have f0:=hB.free 16;have i0:=hB.inside;simp only [List.getElem?_cons_zero,List.getElem?_cons_succ] at c0;have hP:=Hd (hh.st.put (i:=16) (v:=.int .u32 (o.lk.p:Nat)) rfl);clear hh hB;go_simp;exact ⟨hP.out.2,⟨undef,trivial⟩,hP.out.1⟩
  have h2:=hh.p 2 w.heap.size 0;have i0:=(hh.st.blk).inside;rotate_left
  ·have h47:=rq (hh.d 14 47);have h52:=rq (hh.d 23 52);have hJ:=Hd hh.st;refine wp_stow 52 _ _ rfl w.heap.size 17 (by simpa [go_sem] using h52) ((Vp o.lk.iw o.lk.ih Ao o.lk.l.length co)) (by simpa [go_sem] using h47) _ hJ.out.blk (nE rfl) (by kernel_rfl) (by rfl) ?_;intro w9 hW9 hB9;have hP:=hJ.out.wrote hW9 hB9;exact ⟨undef,rfl,hP.2,trivial,hP.1⟩
  any_goals (have hJ:=hh.j;clear hh;go_simp;exact ⟨_,rfl,bR,rfl,hJ.out⟩)
  intro L w4 val hL hJ hR hv;have HR4:=Hd hR;have HJ4:=Hd hJ;have e16:=hL 16 (by decide);have e18:=hL 18 (by decide);have e20:=hL 20 (by decide);have e22:=hL 22 (by decide);have e24:=hL 24 (by decide);rw [e16,e18,e20,e22,e24] at HJ4;clear hv hL hJ hR e16 e18 e20 e22 e24;simp only [regs.putAll,List.map_cons,List.map_nil];simp only [Act.put,List.setIfInBounds_toArray,List.set_cons_zero,List.set_cons_succ]
  skip
  have HK2:Hid (Blk w4 w.heap.size (({ n with lk:=o.lk }:Nd).cs Ao co)):=HJ4.out.blk;have HR2:=Hd HJ4.out.old.2.1;have HKo2:=Hd HJ4.out.old.1;have HB2:Hid (Below w.heap.size w w4):=HB0.out.trans HR4.out;have e0:w4.cell? ⟨w.heap.size+1,0,none⟩=some (.int .i64 o.k):=HKo2.out.cell 0;have j1:=HKo2.out.inside;have s8:(o.k==8)=false:=by simp at t7 ⊢;omega
  clear HJ4;go_wp2_with (first | (with_reducible refine gL ?_;first | (refine wt 54 0 rfl rfl rfl HK2.out (({ n with lk:=o.lk }:Nd).cs Ao co) rfl Tryz.underlying54 rfl ?_)) | (with_reducible refine gS ?_;first | (refine wpl_stow 54 _ _ rfl rfl rfl _ 0 rfl (({ n with lk:=o.lk }:Nd).cs Ao co) rfl (Va) HR2.out (({ n with lk:=o.lk }:Nd).cs Ao co) rfl (nE rfl) (by kernel_rfl) (Nd.one _ _ _) ?_;intro w3 HW3 HK3)));rw [HE.out];exact blk_ret rfl rfl HK3.out Tryz.underlying54 rfl (by kernel_rfl) ⟨rfl,HW3.out.below HB2.out (by omega)⟩
 by_cases h8:o.k=8
 ·have t4:(o.k==4)=false:=by simpa using h4
  have t5:(o.k==5)=false:=by simpa using h5
  have t6:(o.k==6)=false:=by simpa using h6
  have t7:(o.k==7)=false:=by simpa using h7
  have t8:(o.k==8)=true:=by simpa using h8
  have HE:Hid (X=.agg ((({ n with hi:=o.on }:Nd).cs An cn)).toArray):=by show _=_;rw [← HX.out,show setN n o={ n with hi:=o.on } from by unfold setN;rw [if_neg h4,if_neg h5,if_neg h6,if_neg h7,if_pos h8],show pick7 o Ao An=An from if_neg (by omega),show pick7 o co cn=cn from if_neg (by omega)]
  clear h4;clear h5;clear h6;clear h7;clear h8;have d7:=HKn.out.cell 7;have f7:=HKn.out.free 7;simp only [Nd.cs,List.getElem?_cons_zero,List.getElem?_cons_succ] at d7
  have HS:Hid (Wrote w.heap.size wz (wz.setCell ⟨w.heap.size,7,none⟩ (.bool o.on))):=⟨7,[.bool o.on],rfl⟩
  have HK2:Hid (Blk (wz.setCell ⟨w.heap.size,7,none⟩ (.bool o.on)) w.heap.size (({ n with hi:=o.on }:Nd).cs An cn)):=HKn.out.set 7 _
  go_upto_region 12 with (fail)
  generalize (wz.setCell ⟨w.heap.size,7,none⟩ (.bool o.on))=w2 at *;have HR2:=Hd (HS.out.blk (show w.heap.size+2≠w.heap.size by omega) HKr.out);have HB2:=Hd (HS.out.below HB0.out (by omega));have HKo2:=Hd (HS.out.blk (show w.heap.size+1≠w.heap.size by omega) HKo.out);have e0:w2.cell? ⟨w.heap.size+1,0,none⟩=some (.int .i64 o.k):=HKo2.out.cell 0;have j1:=HKo2.out.inside
  go_wp2_with (first | (with_reducible refine gL ?_;first | (refine wt 54 0 rfl rfl rfl HK2.out (({ n with hi:=o.on }:Nd).cs An cn) rfl Tryz.underlying54 rfl ?_)) | (with_reducible refine gS ?_;first | (refine wpl_stow 54 _ _ rfl rfl rfl _ 0 rfl (({ n with hi:=o.on }:Nd).cs An cn) rfl (Va) HR2.out (({ n with hi:=o.on }:Nd).cs An cn) rfl (nE rfl) (by kernel_rfl) (Nd.one _ _ _) ?_;intro w3 HW3 HK3)));rw [HE.out];exact blk_ret rfl rfl HK3.out Tryz.underlying54 rfl (by kernel_rfl) ⟨rfl,HW3.out.below HB2.out (by omega)⟩
 have t4:(o.k==4)=false:=by simpa using h4
 have t5:(o.k==5)=false:=by simpa using h5
 have t6:(o.k==6)=false:=by simpa using h6
 have t7:(o.k==7)=false:=by simpa using h7
 have t8:(o.k==8)=false:=by simpa using h8
 have HE:Hid (X=.agg (((n:Nd).cs An cn)).toArray):=by show _=_;rw [← HX.out,show setN n o=n from by unfold setN;rw [if_neg h4,if_neg h5,if_neg h6,if_neg h7,if_neg h8],show pick7 o Ao An=An from if_neg (by omega),show pick7 o co cn=cn from if_neg (by omega)]
 clear h4;clear h5;clear h6;clear h7;clear h8;go_wp2_with (first | (with_reducible refine gL ?_;first | (refine wt 54 0 rfl rfl rfl HKn.out ((n:Nd).cs An cn) rfl Tryz.underlying54 rfl ?_)) | (with_reducible refine gS ?_;first | (refine wpl_stow 54 _ _ rfl rfl rfl _ 0 rfl ((n:Nd).cs An cn) rfl (Va) HKr.out ((n:Nd).cs An cn) rfl (nE rfl) (by kernel_rfl) (Nd.one _ _ _) ?_;intro w3 HW3 HK3)));rw [HE.out];exact blk_ret rfl rfl HK3.out Tryz.underlying54 rfl (by kernel_rfl) ⟨rfl,HW3.out.below HB0.out (by omega)⟩
end
section
open Go.RowKit pxm imm trm Go.Maps
theorem zero_dn (w:World):(zeroValue 54).run Tryz.prog w=.ok (.agg (Nd.zero.cs none 0).toArray) w:=by kernel_rfl
theorem DPl.zero (w:World):DPl w (.agg (Nd.zero.cs none 0).toArray) Nd.zero:=⟨none,0,rfl,PxR.none_ rfl⟩
def ndH (H:Int->Bool) (nd:Int->Nd):Int->Nd:=fun i=>if H i=true then nd i else Nd.zero
theorem dmap_at {w:World} {H:Int->Bool} {nd:Int->Nd} {es:LV} (h1:∀ i,omap.look es i≠none->H i=true) (h2:∀ i,H i=true->∃ v,omap.look es i=some v∧DPl w v (nd i)) (i:Int):DPl w ((omap.look es i).getD (.agg (Nd.zero.cs none 0).toArray)) (ndH H nd i):=by
 unfold ndH;by_cases h:H i=true
 ·rw [if_pos h];obtain ⟨v,e,hv⟩:=h2 i h;rw [e];exact hv
 ·rw [if_neg h]
  have e:omap.look es i=none:=by
   cases hl:omap.look es i with
   | none=>rfl
   | some v=>exact absurd (h1 i (by rw [hl];simp)) h
  rw [e];exact DPl.zero w
def First (l:List Int) (k:Nat) (val:Int->Value) (es:LV):Prop:=es.length<=k∧∀ i,omap.look es i=if i∈l.take k then some (val i) else none
theorem First.start (l:List Int) (val:Int->Value):First l 0 val []:=⟨nR,fun i=>by rw [List.take_zero,if_neg (by simp)];rfl⟩
theorem First.step {l:List Int} {k:Nat} {val:Int->Value} {es:LV} (h:First l k val es) (hk:k<l.length):First l (k+1) val (omap.put lt l[k] (val l[k]) es):=by
 refine ⟨Nat.le_trans (vput_len _ _ _) (Nat.succ_le_succ h.1),fun i=>?_⟩;rw [omap.look_put,h.2 i,List.take_succ_eq_append_getElem hk];by_cases e:i=l[k]
 ·rw [if_pos e,if_pos (by rw [e];exact List.mem_append_right _ (List.mem_singleton.2 rfl)),e]
 ·rw [if_neg e];by_cases h2:i∈l.take k
  ·rw [if_pos h2,if_pos (List.mem_append_left _ h2)]
  ·rw [if_neg h2,if_neg (by simp only [List.mem_append,List.mem_singleton];exact fun h=>h.elim h2 e)]
theorem dcopied_any (a b M:Int) (tv:Value) (t:T) (m:Nat) (H:Int->Bool) (nd:Int->Nd) (ok:Ok t) (hn:t.length<=1000) (w:World) (ht:DTree w tv t) (hm:DMap w m H nd) :
  Calls Tryz.prog 79 #[.agg #[.int .i64 a,.int .i64 b,.int .i64 M,tv,.map (some m)]] w fun e w'=>∃ m',e=.returned (.agg #[.int .i64 a,.int .i64 b,.int .i64 M,tv,.map (some m')])∧DMap w' m' (has t) (ndH H nd)∧Below w.heap.size w w'∧w.heap.size<=m':=by
 obtain ⟨A,c,rfl,hr,hy⟩:=ht;obtain ⟨es,hvm,he1,he2⟩:=hm.ex;have HAT:=Hd (fun i=>dmap_at he1 he2 i);have HVM:=Hd hvm;have HR:=Hd hr;have HOK:=Hd ok;have HN:=Hd hn;clear hm hvm he1 he2 hr hy;have HB0:Hid (Below w.heap.size w ((w.alloc (.cells (Vc a b M A t.length c m).toArray 34)).alloc (.cells Vi.toArray 34))):=(bR.alloc nR _).alloc (by simp) _;have HKs:Hid (Blk ((w.alloc (.cells (Vc a b M A t.length c m).toArray 34)).alloc (.cells Vi.toArray 34)) w.heap.size (Vc a b M A t.length c m)):=(blk_new w (Vc a b M A t.length c m) _).alloc _
 have HKr:Hid (Blk ((w.alloc (.cells (Vc a b M A t.length c m).toArray 34)).alloc (.cells Vi.toArray 34)) (w.heap.size+1) Vi):=blk_at (w.alloc _) _ (by simp) Vi _;go_enter Tryz.func79,Tryz.ntmps79
 go_upto_region 1 with (fail)
 generalize ((w.alloc (.cells (Vc a b M A t.length c m).toArray 34)).alloc (.cells Vi.toArray 34))=w0 at *;have hmk:=make_dns w0;have hb1:Below w0.heap.size w0 (w0.alloc (.map #[] 0)):=bR.alloc nR _;have HM1:Hid (VM (w0.alloc (.map #[] 0)) w0.heap.size []):=VM.made w0;have HB1:Hid (Below w.heap.size w (w0.alloc (.map #[] 0))):=HB0.out.trans (hb1.mono HB0.out.size);have HKs1:=Hd (HKs.out.below' hb1);have HKr1:=Hd (HKr.out.below' hb1);have HK2:Hid (w.heap.size+1<w0.heap.size):=HKr.out.inside;clear hb1
 go_upto_region 2 with (fail)
 clear hmk HKs HKr HB0;generalize (w0.alloc (.map #[] 0))=w1 at *
 obtain ⟨k2,hk2⟩:∃ k2,w0.heap.size=k2:=⟨_,rfl⟩
 rw [hk2] at HM1 HK2 ⊢;clear hk2;have c3:=HKs1.out.c 3 rfl;have i0:=HKs1.out.inside;go_wp2_with (fail);refine (dwalk A t c HOK.out (by have:=HN.out;omega) (t.length+1) 0 w1 (SRow.below HR.out HB1.out) (.inl rfl) (by omega)).mono ?_;unfold KidsQ;rintro e w2 ⟨v2,rfl,hown,hb2⟩;have HL:Hid ((trm.walk t 0).length<=1001):=by have:=walk_le HOK.out (i:=0) (.inl rfl);have:=HN.out;show _<=_;omega
 have HW:Hid (∀ i,i∈trm.walk t 0↔has t i=true):=fun i=>walk_all HOK.out;have hbs:=fun g=>SOwn.block hown (g:=g);obtain ⟨vA,vc,rfl,-,-,hrow⟩:=hown.irow;have HROW:=Hd hrow
 have HVB:Hid (∀ b o,vA=some ⟨b,o,none⟩->k2<b):=fun b o e=>by
  subst e;have:=(hbs b rfl).1;have:=HM1.out.inside;omega
 have HM2:=Hd (HM1.out.below hb2);have HB2:=Hd (HB1.out.trans (hb2.mono HB1.out.size));have HKs2:=Hd (HKs1.out.below' hb2);have HKr2:=Hd (HKr1.out.below' hb2);clear hown hbs hrow hb2 HM1 HB1 HKs1 HKr1 c3 i0
 obtain ⟨l,hl⟩:∃ l,trm.walk t 0=l:=⟨_,rfl⟩
 rw [hl] at HL HW HROW ⊢;clear hl;have HKs2c:=Hd (And.intro (HKs2.out.cell 4) HKs2.out.inside);have HVW:Hid (∀ W,Below w2.heap.size w2 W->VM W m es):=fun W hb=>(HVM.out.below HB2.out).below hb;have HID:Hid (∀ i,i∈l->I64 i):=fun i hi=>has_64 HOK.out ((HW.out i).1 hi)
 have HS2:Hid (k2<w2.heap.size∧m<w.heap.size):=⟨HM2.out.inside,HVM.out.inside⟩
 go_wp2_with (fail)
 go_loopw [11,5] (fun x11 _ wr=>∃ (k:Nat) (e2:LV),k<=l.length∧x11=.int .i64 k∧Hid (VM wr k2 e2)∧Hid (First l k (fun i=>(omap.look es i).getD (.agg (Nd.zero.cs none 0).toArray)) e2)∧Hid (Below k2 w2 wr)∧Hid (∀ j,j<w2.heap.size->j≠k2->wr.heap[j]?=w2.heap[j]?)) (fun x11 _ _=>l.length - (intOf x11).toNat)
 case atStart=>exact ⟨0,[],Nat.zero_le _,rfl,HM2.out,First.start _ _,bR,fun _ _ _=>rfl⟩
 case round=>
  obtain ⟨k,e2,hk,rfl,HE,HF,HBL,HST⟩:=hrel;by_cases hlt:k<l.length
  ·have t1:decide (k<l.length)=true:=decide_eq_true hlt;obtain ⟨b9,o9,e9,h9⟩:=Row.at_ HROW.out hlt;have h8:=World.block_lt_of_cell? w2 _ h9;have hne:=HVB.out b9 o9 e9;subst e9;have hc:wr.cell? ⟨b9,o9+k,none⟩=some (.int .i64 l[k]):=(World.cell?_of_block (a:=⟨b9,o9+k,none⟩) (HST.out b9 h8 (by omega))).trans h9;have hi:=HID.out _ (List.getElem_mem hlt);have hvo:VM wr m es:=(HVW.out w2 bR).stays (HST.out m (by have:=HS2.out.2;have:=HB2.out.size;omega) (by have:=HS2.out.2;have:=HK2.out;omega));have hlk:=hvo.lookup (t:=tDNs) (E:=54) Tryz.underlying32 (zero_dn wr) hi
   obtain ⟨w3,hrun,hm3,hg3⟩:=HE.out.store (t:=tDNs) (E:=54) Tryz.underlying32 hi ((omap.look es l[k]).getD (.agg (Nd.zero.cs none 0).toArray)) (by have h1:=vput_len l[k] ((omap.look es l[k]).getD (.agg (Nd.zero.cs none 0).toArray)) e2;have h2:=HF.out.1;have:=HL.out;omega);have HE3:=Hd hm3;have HF3:=Hd (HF.out.step hlt);have HB3:Hid (Below k2 w2 w3):=HBL.out.grown hg3 (by have:=HS2.out.1;have:=HBL.out.size;omega) fun j hj=>by cases hj;exact nR
   have HS3:Hid (∀ j,j<w2.heap.size->j≠k2->w3.heap[j]?=w2.heap[j]?):=fun j hj hn=>(hg3.block j (Nat.lt_of_lt_of_le hj HBL.out.size) (fun e=>by cases e;exact hn rfl)).trans (HST.out j hj hn);have HLT:=Hd hlt;have hkb:(k:Int)<=1001:=by have:=HL.out;omega
   have c4:wr.cell? ⟨w.heap.size,4,none⟩=some (.map (some m)):=(World.cell?_of_block (a:=⟨w.heap.size,4,none⟩) (HST.out w.heap.size HKs2c.out.2 (by have h:=HK2.out;omega))).trans HKs2c.out.1;have i0:w.heap.size<wr.heap.size:=Nat.lt_of_lt_of_le HKs2c.out.2 HBL.out.size;clear hm3 hg3 hvo hi h8 hne h9 HE HF HBL HST hk;generalize l[k]=id at *;clear hlt;go_wp2_with (fail)
   go_roundw
   case rel=>exact ⟨k+1,_,HLT.out,by go_num,HE3,HF3,HB3,HS3⟩
   case measure=>have:=HLT.out;simp [intOf];omega
  ·obtain rfl:k=l.length:=by omega
   have HBW:=Hd (HB2.out.trans (HBL.out.mono (by have:=HK2.out;omega)));have HKs3:=Hd (HKs2.out.stays (HST.out w.heap.size HKs2.out.inside (by have h:=HK2.out;omega)));have HKr3:=Hd (HKr2.out.stays (HST.out (w.heap.size+1) HKr2.out.inside (by have h:=HK2.out;omega)))
   have HFL:Hid (∀ i,omap.look e2 i=if i∈l then some ((omap.look es i).getD (.agg (Nd.zero.cs none 0).toArray)) else none):=fun i=>by
    have h1:=HF.out.2 i;rw [List.take_length] at h1;exact h1
   have t1:decide (l.length<l.length)=false:=by simp
   clear HF HBL HST HKs2 HKr2 hk hlt
   go_upto_region 7 with (fail)
   have d4:=HKs3.out.cell 4;have f4:=HKs3.out.free 4;have i3:=HKs3.out.inside;have hne:k2≠w.heap.size:=by have h:=HK2.out;omega
   have HS:Hid (Wrote w.heap.size wr (wr.setCell ⟨w.heap.size,4,none⟩ (.map (some k2)))):=⟨4,[.map (some k2)],rfl⟩
   have HK4:Hid (Blk (wr.setCell ⟨w.heap.size,4,none⟩ (.map (some k2))) w.heap.size (Vc a b M A t.length c k2)):=HKs3.out.set 4 _;have HR4:=Hd (HS.out.blk (show w.heap.size+1≠w.heap.size by omega) HKr3.out);have HB4:=Hd (HS.out.below HBW.out nR);simp only [List.getElem?_cons_zero,List.getElem?_cons_succ] at d4
   go_upto_region 8 with (fail)
   generalize hw4:(wr.setCell ⟨w.heap.size,4,none⟩ (.map (some k2)))=w4 at *;clear hw4;go_wp2_with (first | (with_reducible refine gL ?_;first | (refine wt 34 0 rfl rfl rfl HK4.out ((Vc a b M A t.length c k2)) rfl Tryz.underlying34 rfl ?_)) | (with_reducible refine gS ?_;first | (refine wpl_stow 34 _ _ rfl rfl rfl _ 0 rfl ((Vc a b M A t.length c k2)) rfl (Vi) HR4.out ((Vc a b M A t.length c k2)) rfl (nE rfl) (by kernel_rfl) rfl ?_;intro w5 HW5 HK5)));have HBZ:=HW5.out.below HB4.out (by omega)
   exact blk_ret rfl rfl HK5.out Tryz.underlying34 rfl (by kernel_rfl) ⟨k2,rfl,⟨_,(HE.out.stays (HS.out.far hne)).stays (HW5.out.far (by have h:=HK2.out;omega)),fun i hi=>by
    by_cases e:i∈l
    ·exact (HW.out i).1 e
    ·rw [HFL.out i,if_neg e] at hi;exact absurd rfl hi,fun i hi=>⟨_,by rw [HFL.out i,if_pos ((HW.out i).2 hi)],(HAT.out i).below HBZ⟩⟩,HBZ,by have h:=HK2.out;omega⟩
end
section
open Go.RowKit pxm imm trm Go.Maps
theorem OpR.cs_plain (q:OpR):∀ u∈q.cs,u.oneCell'=true:=fun u hu=>List.all_eq_true.1 (Op9.one _ _ _) u hu
end
end Go.Proofs.YthoildbfghfhpaaGreat
