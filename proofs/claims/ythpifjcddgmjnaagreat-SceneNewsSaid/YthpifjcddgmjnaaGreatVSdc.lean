import Derived.Test.YthpifjcddgmjnaaGreatVSci
set_option maxHeartbeats 16000000
set_option maxRecDepth 100000
namespace Go.Proofs.YthpifjcddgmjnaaGreat
open Go.RowKit pxm imm trm Go.Maps
theorem room_len {M:Int} {x:PSc} {l:List Op9} (ok:Ok x.t) (h:Room M x l.length):(allS M x l).1.t.length≤900:=by
 obtain ⟨h1,h2⟩:=h
 rcases h2 with h2 | ⟨h2,h3⟩
 ·have:=allS_len (M:=M) l ok; omega
 ·rcases allS_room (M:=M) l ok with h4 | h4
  ·omega
  ·omega
structure Sane (x:PSc):Prop where
 ok:Ok x.t
 good:Good x
 set:Settled x fun _=>False
 fit:∀ i,Fit (x.nd i)
theorem Settled.ops {M:Int} {x:PSc} {l:List Op9} (h:Sane x) (hz:(allS M x l).2.2=0):Settled (allS M x l).1 (tch l):=
 (Settled.all l h.ok h.set hz).mono fun _ hj=>hj.elim (fun e=>e.elim) id
theorem setSt_ok {x:PSc} (h:Ok x.t):Ok (setSt x).1.t:=by rw [setSt_t]; exact h
theorem Sane.apply {M:Int} {x:PSc} (h:Sane x) {l:List Op9} (ho:∀ o∈l,OpOk o):Sane (applyS M setSt x l).1:=by
 unfold applyS
 split
 ·exact h
 split
 ·exact h
 split
 ·exact h
 ·rename_i h1 h2 h3
  have hz:(setSt (allS M x l).1).2=0:=by simpa using h3
  refine ⟨setSt_ok (allS_ok l h.ok),fun i=>?_,setSt_settled hz,fun i=>?_⟩
  ·show ((setSt (allS M x l).1).1.nd i).chk=0
   rw [setSt_nd]
   exact allS_good l h.good i
  ·show Fit ((setSt (allS M x l).1).1.nd i)
   rw [setSt_nd]
   exact allS_fit l ho h.fit i
theorem applied {w:World} {g b m:Nat} {s:Sh} {Z:ZZ} {x:PSc} (h:SceneAt w g b m s Z x) (hx:Sane x) (l:List OpR) (A:Option Addr) (c:Nat) (ho:OpsAt (SFoot b m s x.t) w A l) (hok:∀ q∈l,OpOk q.o) (hn:l.length≤1024→Room Z.2.2 x l.length) (hlen:l.length≤1000000) :
  Calls Tryz.prog 28 #[.pointer (some ⟨g,0,none⟩),.slice A l.length c] w (ApplyQ g b m Z s x (applyS Z.2.2 setSt x (l.map (·.o))) w):=by
 have hok':∀ o∈l.map (·.o),OpOk o:=fun o ho'=>by
  obtain ⟨q,h1,h2⟩:=List.mem_map.1 ho'
  rw [← h2]
  exact hok q h1
 refine apply_any h l A c ho hok hx.fit hn hlen setSt (fun W s1 E hl hz hs hoA=>?_) (fun e=>setSt_not e)
 have hr:=hn hl
 exact settle_any (Z:=⟨Z.1,Z.2,E⟩) hs (room_len h.tree.ok (by rw [List.length_map]; exact hr)) (allS_good _ hx.good) l A c hoA hok hl (Settled.ops hx hz)
end Go.Proofs.YthpifjcddgmjnaaGreat
namespace Go.Proofs.YthpifjcddgmjnaaGreat
open Go.RowKit pxm imm trm Go.Maps
theorem es_ge {es:LV} {t:T} (ok:Ok t) (h:∀ i,has t i=true→omap.look es i≠none):t.length + 1≤es.length:=by
 have hn:(0 :: ids t).Nodup:=List.nodup_cons.2 ⟨fun e=>ok.ne0 e rfl,ok.nd⟩
 have:=len_of_sub (m:=es.map (·.1)) hn fun i hi=>by
  have hh:has t i=true:=has_iff.2 (by rcases List.mem_cons.1 hi with e | e; exact .inl e; exact .inr e)
  cases hl:omap.look es i with
  | none=>exact absurd hl (h i hh)
  | some v=>exact List.mem_map.2 ⟨(i,v),omap.look_mem hl,rfl⟩
 rwa [List.length_cons,ids_len,List.length_map] at this
theorem SceneAt.es_len {es:LV} {t:T} (ok:Ok t) (hr:omap.Rises lt es) (h1:∀ i,omap.look es i≠none→has t i=true) (h2:∀ i,has t i=true→∃ v,omap.look es i=some v):es.length=t.length + 1:=
 Nat.le_antisymm (es_le hr h1) (es_ge ok fun i hi=>by obtain ⟨v,e⟩:=h2 i hi; rw [e]; simp)
section
variable {w:World} {g b m:Nat} {s:Sh} {Z:ZZ} {x:PSc} {g2 b2 m2:Nat} {s2:Sh} {Z2:ZZ} {y:PSc}
theorem mequal (h:SceneAt w g b m s Z x) (h2:SceneAt w g2 b2 m2 s2 Z2 y) (hfx:∀ i,Fit (x.nd i)) (hfy:∀ i,Fit (y.nd i)) (hal:∀ q,kids x.t q=kids y.t q) :
  Calls Tryz.prog 68 #[.map (some m),.map (some m2),.func (.func 69) #[] #[]] w fun e w'=>∃ r,e=.returned (.bool r)∧(r=true↔∀ i,has x.t i=true→eqN (x.nd i) (y.nd i)=true)∧Below w.heap.size w w':=by
 obtain ⟨es,hm,h11,h12⟩:=h.map
 obtain ⟨fs,hm2,h21,h22⟩:=h2.map
 have hlen:fs.length=es.length:=by
  rw [SceneAt.es_len h.tree.ok hm.rises h11 (fun i hi=>(h12 i hi).imp fun v h=>h.1),SceneAt.es_len h2.tree.ok hm2.rises h21 (fun i hi=>(h22 i hi).imp fun v h=>h.1),alike_len h.tree.ok h2.tree.ok hal]
 have HS:=Hd h
 have HS2:=Hd h2
 have HFX:=Hd hfx
 have HFY:=Hd hfy
 have HAL:=Hd hal
 have HM:=Hd (And.intro hm (And.intro h11 h12))
 have HM2:=Hd hm2
 have hl1:=fun ty=>hm.len und_places ty
 have hl2:=fun ty=>hm2.len und_places ty
 rw [hlen] at hl2
 have hown:=hm.own
 have hsm:∀ args w,(callFunc 69 args).run Tryz.prog w=.ok (.enter 69 args) w:=enters_of Tryz.func69 (by kernel_rfl) rfl
 clear h h2 hfx hfy hal hm hm2 h11 h12 h21 h22 hlen
 go_enter Tryz.func68,Tryz.ntmps68
 go_wp2_with (at_range; refine wpList_range_own _ rfl _ tPlaces rfl 3 tPlaced keyedI und_places anyE m es.length (mapV es) rfl hown ?_; intro w0 hrg0 hg0 hs0)
 go_frame
 have hb0:Below w.heap.size w w0:=⟨hg0.os,hg0.tape,hg0.output,hg0.size,fun k hk=>hg0.block k hk (by simp)⟩
 have HB0:=Hd hb0
 have HRG:=Hd hrg0
 clear hrg0 hg0 hs0 hb0 hl1 hl2 hown
 go_loopw [] (fun wr=>∃ (left:Lit→Bool) (cnt:Nat),Hid (wr.ranges Tryz.prog 3 anyE m w.heap.size es.length (mapV es) left cnt)∧Hid (Below w.heap.size w wr)∧Hid (∀ i,has x.t i=true→left (.int .i64 i)=false→eqN (x.nd i) (y.nd i)=true)) (fun wr=>wr.rangeLeft m w.heap.size)
 case atStart=>
  refine ⟨_,_,HRG.out,HB0.out,fun i hi hf=>?_⟩
  obtain ⟨v,hv,-⟩:=HM.out.2.2 i hi
  rw [has_mapV_of hv] at hf
  cases hf
 case round=>
  obtain ⟨left,cnt,hrg,hbw,hso⟩:=hrel
  generalize wr=wA at *
  clear HRG HB0
  go_wp2_with (at_next; refine wpList_next_ranges _ rfl _ rfl 3 keyedI anyE (Value.int .i64) id (fun key kl hk=>by obtain ⟨x,hx,_⟩:=Maps.keyOf_int_inv Tryz.underlying3 hk; exact ⟨x,hx⟩) (fun v y hv=>⟨v,rfl⟩) m w.heap.size es.length (mapV es) left cnt rfl hrg.out ?_ ?_)
  ·intro _ hl0
   have HL0:=Hd hl0
   clear hl0
   go_wp2_with (fail)
   go_ret
   exact ⟨true,rfl,⟨fun _ i hi=>hso.out i hi (HL0.out _),fun _=>rfl⟩,hbw.out⟩
  ·intro x2 c2 kl yd yp w2 cnt1 hkey hlk hv hat hrg1 hlt hg1 hs1 hen
   obtain ⟨rfl,hx64,hlb⟩:=cameV hkey hv hat
   have hhx:has x.t x2=true:=HM.out.2.1 x2 (by rw [hlb]; simp)
   have hhy:has y.t x2=true:=by rw [← alike_has HAL.out]; exact hhx
   obtain ⟨n1,A1,c1,u1,hc2,hr1,hn1⟩:∃ n1 A1 c1 u1,c2=.agg (plcs n1 A1 c1 u1).toArray∧Row eW w A1 n1.lk.l∧x.nd x2=n1:=by
    obtain ⟨v,e,A,c,e2,hv2⟩:=HM.out.2.2 x2 hhx
    rw [hlb] at e
    exact ⟨x.nd x2,A,c,x.ws x2,(Option.some.inj e).trans e2,hv2.1,rfl⟩
   subst hc2
   have hb1:Below w.heap.size w w2:=hbw.out.trans ⟨hg1.os,hg1.tape,hg1.output,hg1.size,fun k hk=>hg1.block k (by have:=hbw.out.size; omega) (fun e=>by have:=Option.some.inj e; omega)⟩
   obtain ⟨A2,d2,hlk2⟩:=HS2.out.look_b hx64 hhy
   obtain ⟨n2,hn2⟩:∃ n2,y.nd x2=n2:=⟨_,rfl⟩
   obtain ⟨u2,hu2⟩:∃ u2,y.ws x2=u2:=⟨_,rfl⟩
   rw [hn2,hu2] at hlk2
   have HLK2:=Hd hlk2
   have HF1:Hid (n1.lk.l.length≤300):=by rw [← hn1]; exact (HFX.out x2).len
   have HF2:Hid (n2.lk.l.length≤300):=by rw [← hn2]; exact (HFY.out x2).len
   have HR1:=Hd hr1
   have HNN:=Hd (And.intro hn1 hn2)
   have HHX:=Hd hhx
   have HB1:=Hd hb1
   have HRG1:=Hd hrg1
   have HME:Hid (w2.rangeLeft m w.heap.size < wA.rangeLeft m w.heap.size):=by show _ < _; rw [hrg1.left_eq,hrg.out.left_eq]; exact hlt
   have HZ1:Hid (Blk (w2.alloc (.cells #[.int .i64 0,.int .i64 0,.int .i64 0,.int .i64 0,.int .i64 0,.int .i64 0,.int .i64 0,.bool false,.bool false,.int .i64 0,.int .i64 0,.int .i64 0,.int .i64 0,.int .i64 0,.int .i64 0,.int .i64 0,.int .u32 0,.int .i64 0,.int .i64 0,.slice none 0 0,.int .i64 0,.int .i64 0,.int .i64 0,.int .i64 0,.int .i64 0,.int .i64 0] 143)) w2.heap.size [.int .i64 0,.int .i64 0,.int .i64 0,.int .i64 0,.int .i64 0,.int .i64 0,.int .i64 0,.bool false,.bool false,.int .i64 0,.int .i64 0,.int .i64 0,.int .i64 0,.int .i64 0,.int .i64 0,.int .i64 0,.int .u32 0,.int .i64 0,.int .i64 0,.slice none 0 0,.int .i64 0,.int .i64 0,.int .i64 0,.int .i64 0,.int .i64 0,.int .i64 0]):=blk_new w2 [.int .i64 0,.int .i64 0,.int .i64 0,.int .i64 0,.int .i64 0,.int .i64 0,.int .i64 0,.bool false,.bool false,.int .i64 0,.int .i64 0,.int .i64 0,.int .i64 0,.int .i64 0,.int .i64 0,.int .i64 0,.int .u32 0,.int .i64 0,.int .i64 0,.slice none 0 0,.int .i64 0,.int .i64 0,.int .i64 0,.int .i64 0,.int .i64 0,.int .i64 0] _
   have HBa:Hid (Below w2.heap.size w2 (w2.alloc (.cells #[.int .i64 0,.int .i64 0,.int .i64 0,.int .i64 0,.int .i64 0,.int .i64 0,.int .i64 0,.bool false,.bool false,.int .i64 0,.int .i64 0,.int .i64 0,.int .i64 0,.int .i64 0,.int .i64 0,.int .i64 0,.int .u32 0,.int .i64 0,.int .i64 0,.slice none 0 0,.int .i64 0,.int .i64 0,.int .i64 0,.int .i64 0,.int .i64 0,.int .i64 0] 143))):=(Below.refl _ _).alloc (Nat.le_refl _) _
   clear hkey hlk hv hat hrg1 hlt hg1 hs1 hlb hx64 hhx hhy hr1 hn1 hn2 hu2 hb1 hlk2
   go_upto_region 6 with (first | (with_reducible show wpList _ _ _ (Oper.mk _ (Op.store _ _ _) _ _ _ _ :: _) _ _; first | (refine wpl_stow 143 _ _ rfl rfl rfl _ 0 rfl (plcs n1 A1 c1 u1) rfl ([.int .i64 0,.int .i64 0,.int .i64 0,.int .i64 0,.int .i64 0,.int .i64 0,.int .i64 0,.bool false,.bool false,.int .i64 0,.int .i64 0,.int .i64 0,.int .i64 0,.int .i64 0,.int .i64 0,.int .i64 0,.int .u32 0,.int .i64 0,.int .i64 0,.slice none 0 0,.int .i64 0,.int .i64 0,.int .i64 0,.int .i64 0,.int .i64 0,.int .i64 0]) HZ1.out (plcs n1 A1 c1 u1) rfl (Nat.le_of_ble_eq_true rfl) (by kernel_rfl) (plcs_one _ _ _ _) ?_; intro w3 HW3 HK3)))
   have HB3:Hid (Below w2.heap.size w2 w3):=HW3.out.below HBa.out (Nat.le_refl _)
   have HB03:Hid (Below w.heap.size w w3):=HB1.out.trans (HB3.out.mono HB1.out.size)
   have hlk2:=(HLK2.out w3 HB03.out).2.1
   have HZ3:Hid (Blk (w3.alloc (.cells #[.int .i64 0,.int .i64 0,.int .i64 0,.int .i64 0,.int .i64 0,.int .i64 0,.int .i64 0,.bool false,.bool false,.int .i64 0,.int .i64 0,.int .i64 0,.int .i64 0,.int .i64 0,.int .i64 0,.int .i64 0,.int .u32 0,.int .i64 0,.int .i64 0,.slice none 0 0,.int .i64 0,.int .i64 0,.int .i64 0,.int .i64 0,.int .i64 0,.int .i64 0] 143)) w3.heap.size [.int .i64 0,.int .i64 0,.int .i64 0,.int .i64 0,.int .i64 0,.int .i64 0,.int .i64 0,.bool false,.bool false,.int .i64 0,.int .i64 0,.int .i64 0,.int .i64 0,.int .i64 0,.int .i64 0,.int .i64 0,.int .u32 0,.int .i64 0,.int .i64 0,.slice none 0 0,.int .i64 0,.int .i64 0,.int .i64 0,.int .i64 0,.int .i64 0,.int .i64 0]):=blk_new w3 [.int .i64 0,.int .i64 0,.int .i64 0,.int .i64 0,.int .i64 0,.int .i64 0,.int .i64 0,.bool false,.bool false,.int .i64 0,.int .i64 0,.int .i64 0,.int .i64 0,.int .i64 0,.int .i64 0,.int .i64 0,.int .u32 0,.int .i64 0,.int .i64 0,.slice none 0 0,.int .i64 0,.int .i64 0,.int .i64 0,.int .i64 0,.int .i64 0,.int .i64 0] _
   have HBb:Hid (Below w3.heap.size w3 (w3.alloc (.cells #[.int .i64 0,.int .i64 0,.int .i64 0,.int .i64 0,.int .i64 0,.int .i64 0,.int .i64 0,.bool false,.bool false,.int .i64 0,.int .i64 0,.int .i64 0,.int .i64 0,.int .i64 0,.int .i64 0,.int .i64 0,.int .u32 0,.int .i64 0,.int .i64 0,.slice none 0 0,.int .i64 0,.int .i64 0,.int .i64 0,.int .i64 0,.int .i64 0,.int .i64 0] 143))):=(Below.refl _ _).alloc (Nat.le_refl _) _
   obtain ⟨k8,hk8⟩:∃ k8,w2.heap.size=k8:=⟨_,rfl⟩
   rw [hk8] at HK3 ⊢
   clear HZ1 HBa HW3 hen hk8
   go_upto_region 7 with (first | (with_reducible show wpList _ _ _ (Oper.mk _ (Op.store _ _ _) _ _ _ _ :: _) _ _; first | (refine wpl_stow 143 _ _ rfl rfl rfl _ 0 rfl (plcs n2 A2 d2 u2) rfl ([.int .i64 0,.int .i64 0,.int .i64 0,.int .i64 0,.int .i64 0,.int .i64 0,.int .i64 0,.bool false,.bool false,.int .i64 0,.int .i64 0,.int .i64 0,.int .i64 0,.int .i64 0,.int .i64 0,.int .i64 0,.int .u32 0,.int .i64 0,.int .i64 0,.slice none 0 0,.int .i64 0,.int .i64 0,.int .i64 0,.int .i64 0,.int .i64 0,.int .i64 0]) HZ3.out (plcs n2 A2 d2 u2) rfl (Nat.le_of_ble_eq_true rfl) (by kernel_rfl) (plcs_one _ _ _ _) ?_; intro w4 HW4 HK4)))
   have HB4:Hid (Below w3.heap.size w3 w4):=HW4.out.below HBb.out (Nat.le_refl _)
   have HB04:Hid (Below w.heap.size w w4):=HB03.out.trans (HB4.out.mono HB03.out.size)
   have HK3b:Hid (Blk w4 k8 (plcs n1 A1 c1 u1)):=HK3.out.below' HB4.out
   have HB24:Hid (Below w2.heap.size w2 w4):=HB3.out.trans (HB4.out.mono HB3.out.size)
   have HSN:=Hd (same_node n1 n2 A1 A2 c1 d2 u1 u2 HF1.out HF2.out w4 (Row.below HR1.out HB04.out) (HLK2.out w4 HB04.out).2.2.1)
   unfold plv at HSN
   obtain ⟨k9,hk9⟩:∃ k9,w3.heap.size=k9:=⟨_,rfl⟩
   rw [hk9] at HK4 ⊢
   clear HZ3 HBb HW4 hlk2 hk9 HK3 HB3 HB4 HB03 HLK2 HR1
   go_wp2_with (first | (with_reducible show wpList _ _ _ (Oper.mk _ (Op.load _ _) _ _ _ _ :: _) _ _; first | (refine wpl_take 143 _ rfl rfl _ 0 rfl (plcs n1 A1 c1 u1) HK3b.out (plcs n1 A1 c1 u1) rfl _ Tryz.underlying143 rfl (by kernel_rfl) ?_) | (refine wpl_take 143 _ rfl rfl _ 0 rfl (plcs n2 A2 d2 u2) HK4.out (plcs n2 A2 d2 u2) rfl _ Tryz.underlying143 rfl (by kernel_rfl) ?_)))
   refine HSN.out.mono ?_
   rintro e w5 ⟨rfl,hb5⟩
   have HB5:Hid (Below w.heap.size w w5):=HB04.out.trans (hb5.mono HB04.out.size)
   have HRG5:Hid (w5.ranges Tryz.prog 3 anyE m w.heap.size es.length (mapV es) (fun z=>left z && !z.sameKey (.int .i64 x2)) cnt1):=HRG1.out.kept (below_grown (HB24.out.trans (hb5.mono HB24.out.size))) (by simp) (by simp)
   have HME5:Hid (w5.rangeLeft m w.heap.size < wA.rangeLeft m w.heap.size):=by show _ < _; rw [HRG5.out.left_eq,← HRG1.out.left_eq]; exact HME.out
   clear hb5 HSN HK3b HK4 HB24 HB04
   cases hq:eqN n1 n2 with
   | true=>
    have HSO5:Hid (∀ i,has x.t i=true→(left (.int .i64 i) && !(Lit.int .i64 i).sameKey (.int .i64 x2))=false→eqN (x.nd i) (y.nd i)=true):=fun i hi hl=>by
     by_cases e:i=x2
     ·rw [e,HNN.out.1,HNN.out.2]; exact hq
     ·have:(Lit.int .i64 i).sameKey (.int .i64 x2)=false:=by simp [Lit.sameKey,e]
      rw [this] at hl
      exact hso.out i hi (by simpa using hl)
    clear hq
    go_wp2_with (fail)
    go_roundw
    case rel=>exact ⟨_,_,HRG5,HB5,HSO5⟩
    case measure=>exact HME5.out
   | false=>
    have HNE:Hid (¬ ∀ i,has x.t i=true→eqN (x.nd i) (y.nd i)=true):=fun e=>by
     have:=e x2 HHX.out
     rw [HNN.out.1,HNN.out.2,hq] at this
     cases this
    clear hq
    go_wp2_with (fail)
    go_ret
    exact ⟨false,rfl,⟨fun e=>(nomatch e),fun e=>absurd e HNE.out⟩,HB5.out⟩
end
end Go.Proofs.YthpifjcddgmjnaaGreat
namespace Go.Proofs.YthpifjcddgmjnaaGreat
open Go.RowKit pxm imm trm Go.Maps
theorem size_same (a b c:Int) (w:World):(binOp .eql tSize (.agg #[.int .i64 a,.int .i64 b,.int .i64 c]) (.agg #[.int .i64 a,.int .i64 b,.int .i64 c])).run Tryz.prog w=.ok (.bool true) w:=by
 go_simp
def same (x y:PSc):Prop:=(∀ q,kids x.t q=kids y.t q)∧∀ i,has x.t i=true→eqN (x.nd i) (y.nd i)=true
def EqQ (x y:PSc) (w:World) (e:Ending) (w':World):Prop:=∃ r,e=.returned (.bool r)∧(r=true↔same x y)∧Below w.heap.size w w'
section
variable {w:World} {g b m:Nat} {s:Sh} {Z:ZZ} {x:PSc} {g2 b2 m2:Nat} {s2:Sh} {Z2:ZZ} {y:PSc}
theorem sequal (h:SceneAt w g b m s Z x) (h2:SceneAt w g2 b2 m2 s2 Z2 y) (hfx:∀ i,Fit (x.nd i)) (hfy:∀ i,Fit (y.nd i)) (hn:x.t.length≤1000) (hn2:y.t.length≤1000) (hz:Z2.1=Z.1∧Z2.2=Z.2) :
  Calls Tryz.prog 21 #[.pointer (some ⟨g,0,none⟩),.pointer (some ⟨g2,0,none⟩)] w (EqQ x y w):=by
 obtain ⟨za,zr,zE⟩:=Z2
 obtain ⟨rfl,rfl⟩:=hz
 have HFS:Hid (∀ W,regs.bl w W→SceneAt W g b m s Z x):=fun W hb=>h.below hb
 have HFT:Hid (∀ W,regs.bl w W→SceneAt W g2 b2 m2 s2 ⟨Z.1,Z.2,zE⟩ y):=fun W hb=>h2.below hb
 have HTS:Hid (∀ W,regs.bl w W→Calls Tryz.prog 67 #[.pointer (some ⟨b,0,none⟩),.pointer (some ⟨b2,0,none⟩)] W fun e w'=>∃ r,e=.returned (.bool r)∧(r=true↔∀ q,kids x.t q=kids y.t q)∧Below W.heap.size W w'):=fun W hb=>tsame (h.below hb).tree (h2.below hb).tree hn hn2
 have HME:Hid (∀ W,regs.bl w W→(∀ q,kids x.t q=kids y.t q)→Calls Tryz.prog 68 #[.map (some m),.map (some m2),.func (.func 69) #[] #[]] W fun e w'=>∃ r,e=.returned (.bool r)∧(r=true↔∀ i,has x.t i=true→eqN (x.nd i) (y.nd i)=true)∧Below W.heap.size W w'):=fun W hb hal=>mequal (h.below hb) (h2.below hb) hfx hfy hal
 clear h h2 hfx hfy hn hn2
 have hse:=fun W=>size_same Z.1 Z.2.1 Z.2.2 W
 go_enter Tryz.func21,Tryz.ntmps21
 go_upto_region 1 with (fail)
 by_cases hal:¬ ∀ q,kids x.t q=kids y.t q
 ·have HN:=Hd hal
  have HTS1:Hid (∀ W,regs.bl w W→Calls Tryz.prog 67 #[.pointer (some ⟨b,0,none⟩),.pointer (some ⟨b2,0,none⟩)] W fun e w'=>e=.returned (.bool false)∧Below W.heap.size W w'):=fun W hb=>(HTS.out W hb).mono fun e w' ⟨r,h1,h2,h3⟩=>⟨by rw [h1,show r=false from (by cases r with | false=>rfl | true=>exact absurd (h2.1 rfl) hal)],h3⟩
  clear HME HTS hal
  refine regs.wp_region_put (regs.bl) (regs.noJ) [5,6,7,8,9,10,11,12,13,14,15,16,17,18,19,20,21,22,23,24,25,26,27,28,29,30,31,32,33,34,35,4] (by kernel_rfl) (by kernel_rfl) (fun _=>regs.bl_refl _) (regs.bl_trans) (fun i=>(match i with
   | 0=>regs.Say.val _ (.pointer (some ⟨g,0,none⟩))
   | 1=>regs.Say.val _ (.pointer (some ⟨g,0,none⟩))
   | 2=>regs.Say.val _ (.pointer (some ⟨g,2,none⟩))
   | 3=>regs.Say.val _ (.agg ([.int .i64 Z.1,.int .i64 Z.2.1,.int .i64 Z.2.2]).toArray)
   | 4=>regs.Say.val _ (.pointer (some ⟨g2,0,none⟩))
   | 5=>regs.Say.val _ (.pointer (some ⟨g2,0,none⟩))
   | 6=>regs.Say.val _ (.pointer (some ⟨g2,2,none⟩))
   | 7=>regs.Say.val _ (.agg ([.int .i64 Z.1,.int .i64 Z.2.1,.int .i64 Z.2.2]).toArray)
   | 8=>regs.Say.val _ (.bool true)
   | 9=>regs.Say.val _ (.bool true)
   | 10=>regs.Say.val _ (.pointer (some ⟨g,0,none⟩))
   | 11=>regs.Say.val _ (.pointer (some ⟨g,0,none⟩))
   | 12=>regs.Say.val _ (.pointer (some ⟨g,1,none⟩))
   | 13=>regs.Say.val _ (.pointer (some ⟨b,0,none⟩))
   | 14=>regs.Say.val _ (.pointer (some ⟨g2,0,none⟩))
   | 15=>regs.Say.val _ (.pointer (some ⟨g2,0,none⟩))
   | 16=>regs.Say.val _ (.pointer (some ⟨g2,1,none⟩))
   | 17=>regs.Say.val _ (.pointer (some ⟨b2,0,none⟩))
   | 18=>regs.Say.val _ (.bool false)
   | 19=>regs.Say.val _ (.bool false)
   | 20=>regs.Say.val _ (.bool false)
   | 21=>regs.Say.val _ (undef)
   | 22=>regs.Say.val _ (undef)
   | 23=>regs.Say.val _ (undef)
   | 24=>regs.Say.val _ (undef)
   | 25=>regs.Say.val _ (undef)
   | 26=>regs.Say.val _ (undef)
   | 27=>regs.Say.val _ (undef)
   | 28=>regs.Say.val _ (undef)
   | 29=>regs.Say.val _ (undef)
   | 30=>regs.Say.val _ (.bool false)
   | 31=>regs.Say.val _ (.bool false)
   | _=>regs.Say.any _:regs.Say (regs.bl)).p) (fun _=>regs.Say.mono _) (by kernel_rfl) ((Below.refl _ _).drew) (regs.noJ_ok _ _) ⟨?_,?_,?_,?_,?_,?_,?_,?_,?_,?_,?_,?_,?_,?_,?_,?_,?_,?_,?_,?_,?_,?_,?_,?_,?_,?_,?_,?_,?_,?_,?_,?_,trivial⟩ ?_
  ·refine regs.StepOK.plain rfl fun L a w1 hh=>?_
   have h0:a.tmps[0]?.getD undef=.pointer (some ⟨g,0,none⟩):=rq (hh.old 0 rfl)
   have hJ:=Hd hh.st; clear hh; go_simp; exact ⟨_,rfl,regs.bl_refl _,rfl,hJ.out⟩
  ·refine regs.StepOK.plain rfl fun L a w1 hh=>?_
   have h5:=rq (hh.dep 0 5 (by kernel_rfl) (by kernel_rfl))
   have hJ:=Hd hh.st; clear hh; go_simp; exact ⟨_,rfl,regs.bl_refl _,rfl,hJ.out⟩
  ·refine regs.StepOK.plain rfl fun L a w1 hh=>?_
   have h6:=rq (hh.dep 1 6 (by kernel_rfl) (by kernel_rfl))
   have i0:=((HFS.out _ hh.rel).blk.blk).inside
   have hJ:=Hd hh.st; clear hh; go_simp; exact ⟨_,rfl,regs.bl_refl _,rfl,hJ.out⟩
  ·refine regs.StepOK.plain rfl fun L a w1 hh=>?_
   have h7:=rq (hh.dep 2 7 (by kernel_rfl) (by kernel_rfl))
   have hB:=Hd ((HFS.out _ hh.rel).blk.blk)
   have hJ:=Hd hh.st
   exact wp_take 111 _ rfl g 2 (by simpa [go_sem] using h7) _ hB.out ([.int .i64 Z.1,.int .i64 Z.2.1,.int .i64 Z.2.2]) rfl _ Tryz.underlying111 rfl (by kernel_rfl) ⟨_,rfl,regs.bl_refl _,rfl,hJ.out⟩
  ·refine regs.StepOK.plain rfl fun L a w1 hh=>?_
   have h1:a.tmps[1]?.getD undef=.pointer (some ⟨g2,0,none⟩):=rq (hh.old 1 rfl)
   have hJ:=Hd hh.st; clear hh; go_simp; exact ⟨_,rfl,regs.bl_refl _,rfl,hJ.out⟩
  ·refine regs.StepOK.plain rfl fun L a w1 hh=>?_
   have h9:=rq (hh.dep 4 9 (by kernel_rfl) (by kernel_rfl))
   have hJ:=Hd hh.st; clear hh; go_simp; exact ⟨_,rfl,regs.bl_refl _,rfl,hJ.out⟩
  ·refine regs.StepOK.plain rfl fun L a w1 hh=>?_
   have h10:=rq (hh.dep 5 10 (by kernel_rfl) (by kernel_rfl))
   have i0:=((HFT.out _ hh.rel).blk.blk).inside
   have hJ:=Hd hh.st; clear hh; go_simp; exact ⟨_,rfl,regs.bl_refl _,rfl,hJ.out⟩
  ·refine regs.StepOK.plain rfl fun L a w1 hh=>?_
   have h11:=rq (hh.dep 6 11 (by kernel_rfl) (by kernel_rfl))
   have hB:=Hd ((HFT.out _ hh.rel).blk.blk)
   have hJ:=Hd hh.st
   exact wp_take 111 _ rfl g2 2 (by simpa [go_sem] using h11) _ hB.out ([.int .i64 Z.1,.int .i64 Z.2.1,.int .i64 Z.2.2]) rfl _ Tryz.underlying111 rfl (by kernel_rfl) ⟨_,rfl,regs.bl_refl _,rfl,hJ.out⟩
  ·refine regs.StepOK.plain rfl fun L a w1 hh=>?_
   have h8:=rq (hh.dep 3 8 (by kernel_rfl) (by kernel_rfl))
   have h12:=rq (hh.dep 7 12 (by kernel_rfl) (by kernel_rfl))
   have hJ:=Hd hh.st; clear hh; go_simp; exact ⟨_,rfl,regs.bl_refl _,rfl,hJ.out⟩
  ·refine regs.StepOK.plain rfl fun L a w1 hh=>?_
   have h13:=rq (hh.dep 8 13 (by kernel_rfl) (by kernel_rfl))
   have hJ:=Hd hh.st; clear hh; go_simp; exact ⟨_,rfl,regs.bl_refl _,rfl,hJ.out⟩
  ·refine regs.StepOK.yes 9 true 14 rfl rfl (fun L a w1 hh=>hh.dep 9 14 (by kernel_rfl) (by kernel_rfl)) fun L a w1 hh=>?_
   have h0:a.tmps[0]?.getD undef=.pointer (some ⟨g,0,none⟩):=rq (hh.old 0 rfl)
   have hJ:=Hd hh.st; clear hh; go_simp; exact ⟨_,rfl,regs.bl_refl _,rfl,hJ.out⟩
  ·refine regs.StepOK.yes 9 true 14 rfl rfl (fun L a w1 hh=>hh.dep 9 14 (by kernel_rfl) (by kernel_rfl)) fun L a w1 hh=>?_
   have h15:=rq (hh.dep 10 15 (by kernel_rfl) (by kernel_rfl))
   have hJ:=Hd hh.st; clear hh; go_simp; exact ⟨_,rfl,regs.bl_refl _,rfl,hJ.out⟩
  ·refine regs.StepOK.yes 9 true 14 rfl rfl (fun L a w1 hh=>hh.dep 9 14 (by kernel_rfl) (by kernel_rfl)) fun L a w1 hh=>?_
   have h16:=rq (hh.dep 11 16 (by kernel_rfl) (by kernel_rfl))
   have i0:=((HFS.out _ hh.rel).blk.blk).inside
   have hJ:=Hd hh.st; clear hh; go_simp; exact ⟨_,rfl,regs.bl_refl _,rfl,hJ.out⟩
  ·refine regs.StepOK.yes 9 true 14 rfl rfl (fun L a w1 hh=>hh.dep 9 14 (by kernel_rfl) (by kernel_rfl)) fun L a w1 hh=>?_
   have h17:=rq (hh.dep 12 17 (by kernel_rfl) (by kernel_rfl))
   have hB:=Hd ((HFS.out _ hh.rel).blk.blk)
   have c0:w1.cell? ⟨g,1,none⟩=some (.pointer (some ⟨b,0,none⟩)):=hB.out.cell 1
   have i0:=hB.out.inside
   have hJ:=Hd hh.st; clear hh; go_simp; exact ⟨_,rfl,regs.bl_refl _,rfl,hJ.out⟩
  ·refine regs.StepOK.yes 9 true 14 rfl rfl (fun L a w1 hh=>hh.dep 9 14 (by kernel_rfl) (by kernel_rfl)) fun L a w1 hh=>?_
   have h1:a.tmps[1]?.getD undef=.pointer (some ⟨g2,0,none⟩):=rq (hh.old 1 rfl)
   have hJ:=Hd hh.st; clear hh; go_simp; exact ⟨_,rfl,regs.bl_refl _,rfl,hJ.out⟩
  ·refine regs.StepOK.yes 9 true 14 rfl rfl (fun L a w1 hh=>hh.dep 9 14 (by kernel_rfl) (by kernel_rfl)) fun L a w1 hh=>?_
   have h19:=rq (hh.dep 14 19 (by kernel_rfl) (by kernel_rfl))
   have hJ:=Hd hh.st; clear hh; go_simp; exact ⟨_,rfl,regs.bl_refl _,rfl,hJ.out⟩
  ·refine regs.StepOK.yes 9 true 14 rfl rfl (fun L a w1 hh=>hh.dep 9 14 (by kernel_rfl) (by kernel_rfl)) fun L a w1 hh=>?_
   have h20:=rq (hh.dep 15 20 (by kernel_rfl) (by kernel_rfl))
   have i0:=((HFT.out _ hh.rel).blk.blk).inside
   have hJ:=Hd hh.st; clear hh; go_simp; exact ⟨_,rfl,regs.bl_refl _,rfl,hJ.out⟩
  ·refine regs.StepOK.yes 9 true 14 rfl rfl (fun L a w1 hh=>hh.dep 9 14 (by kernel_rfl) (by kernel_rfl)) fun L a w1 hh=>?_
   have h21:=rq (hh.dep 16 21 (by kernel_rfl) (by kernel_rfl))
   have hB:=Hd ((HFT.out _ hh.rel).blk.blk)
   have c0:w1.cell? ⟨g2,1,none⟩=some (.pointer (some ⟨b2,0,none⟩)):=hB.out.cell 1
   have i0:=hB.out.inside
   have hJ:=Hd hh.st; clear hh; go_simp; exact ⟨_,rfl,regs.bl_refl _,rfl,hJ.out⟩
  ·refine regs.StepOK.yes 9 true 14 rfl rfl (fun L a w1 hh=>hh.dep 9 14 (by kernel_rfl) (by kernel_rfl)) fun L a w1 hh=>?_
   have h18:=rq (hh.dep 13 18 (by kernel_rfl) (by kernel_rfl))
   have h22:=rq (hh.dep 17 22 (by kernel_rfl) (by kernel_rfl))
   have hC:=Hd (HTS1.out _ hh.rel)
   have hJ:=Hd hh.st; clear hh; go_simp; refine hC.out.mono ?_
   rintro e w9 ⟨rfl,hb9⟩
   exact ⟨_,rfl,hb9,rfl,hJ.out⟩
  ·refine regs.StepOK.plain rfl fun L a w1 hh=>?_
   have h14:=rq (hh.dep 9 14 (by kernel_rfl) (by kernel_rfl))
   have h23:=rq (hh.dep 18 23 (by kernel_rfl) (by kernel_rfl))
   have hJ:=Hd hh.st; clear hh; go_simp; exact ⟨_,rfl,regs.bl_refl _,rfl,hJ.out⟩
  ·refine regs.StepOK.plain rfl fun L a w1 hh=>?_
   have h24:=rq (hh.dep 19 24 (by kernel_rfl) (by kernel_rfl))
   have hJ:=Hd hh.st; clear hh; go_simp; exact ⟨_,rfl,regs.bl_refl _,rfl,hJ.out⟩
  ·refine regs.StepOK.no 20 true 25 rfl rfl (fun L a w1 hh=>?_) fun L a w1 hh=>⟨rfl,hh.st⟩
   exact hh.dep 20 25 (by kernel_rfl) (by kernel_rfl)
  ·refine regs.StepOK.no 20 true 25 rfl rfl (fun L a w1 hh=>?_) fun L a w1 hh=>⟨rfl,hh.st⟩
   exact hh.dep 20 25 (by kernel_rfl) (by kernel_rfl)
  ·refine regs.StepOK.no 20 true 25 rfl rfl (fun L a w1 hh=>?_) fun L a w1 hh=>⟨rfl,hh.st⟩
   exact hh.dep 20 25 (by kernel_rfl) (by kernel_rfl)
  ·refine regs.StepOK.no 20 true 25 rfl rfl (fun L a w1 hh=>?_) fun L a w1 hh=>⟨rfl,hh.st⟩
   exact hh.dep 20 25 (by kernel_rfl) (by kernel_rfl)
  ·refine regs.StepOK.no 20 true 25 rfl rfl (fun L a w1 hh=>?_) fun L a w1 hh=>⟨rfl,hh.st⟩
   exact hh.dep 20 25 (by kernel_rfl) (by kernel_rfl)
  ·refine regs.StepOK.no 20 true 25 rfl rfl (fun L a w1 hh=>?_) fun L a w1 hh=>⟨rfl,hh.st⟩
   exact hh.dep 20 25 (by kernel_rfl) (by kernel_rfl)
  ·refine regs.StepOK.no 20 true 25 rfl rfl (fun L a w1 hh=>?_) fun L a w1 hh=>⟨rfl,hh.st⟩
   exact hh.dep 20 25 (by kernel_rfl) (by kernel_rfl)
  ·refine regs.StepOK.no 20 true 25 rfl rfl (fun L a w1 hh=>?_) fun L a w1 hh=>⟨rfl,hh.st⟩
   exact hh.dep 20 25 (by kernel_rfl) (by kernel_rfl)
  ·refine regs.StepOK.no 20 true 25 rfl rfl (fun L a w1 hh=>?_) fun L a w1 hh=>⟨rfl,hh.st⟩
   exact hh.dep 20 25 (by kernel_rfl) (by kernel_rfl)
  ·refine regs.StepOK.plain rfl fun L a w1 hh=>?_
   have h25:=rq (hh.dep 20 25 (by kernel_rfl) (by kernel_rfl))
   have hJ:=Hd hh.st; clear hh; go_simp; exact ⟨_,rfl,regs.bl_refl _,rfl,hJ.out⟩
  ·refine regs.StepOK.plain rfl fun L a w1 hh=>?_
   have h35:=rq (hh.dep 30 35 (by kernel_rfl) (by kernel_rfl))
   have hJ:=Hd hh.st; clear hh; go_simp; exact ⟨_,rfl,regs.bl_refl _,rfl,hJ.out⟩
  intro L w4 val hL hJ hR hv
  have h4:val 4=.bool false:=hv 31 4 (by kernel_rfl)
  have HR4:=Hd hR
  clear hv hL hJ hR
  simp only [regs.putAll,List.map_cons,List.map_nil,h4]
  simp only [Act.put,List.setIfInBounds_toArray,List.set_cons_zero,List.set_cons_succ]
  clear h4
  generalize val 5=v5,val 6=v6,val 7=v7,val 8=v8,val 9=v9,val 10=v10,val 11=v11,val 12=v12,val 13=v13,val 14=v14,val 15=v15,val 16=v16,val 17=v17,val 18=v18,val 19=v19,val 20=v20,val 21=v21,val 22=v22,val 23=v23,val 24=v24,val 25=v25,val 26=v26,val 27=v27,val 28=v28,val 29=v29,val 30=v30,val 31=v31,val 32=v32,val 33=v33,val 34=v34,val 35=v35 at *
  go_wp2_with (fail)
  go_ret
  exact ⟨false,rfl,⟨(fun e=>nomatch e),fun e=>absurd e.1 HN.out⟩,HR4.out⟩
 have hal:∀ q,kids x.t q=kids y.t q:=Classical.byContradiction hal
 have HA:=Hd hal
 have HTS1:Hid (∀ W,regs.bl w W→Calls Tryz.prog 67 #[.pointer (some ⟨b,0,none⟩),.pointer (some ⟨b2,0,none⟩)] W fun e w'=>e=.returned (.bool true)∧Below W.heap.size W w'):=fun W hb=>(HTS.out W hb).mono fun e w' ⟨r,h1,h2,h3⟩=>⟨by rw [h1,show r=true from h2.2 hal],h3⟩
 by_cases heq:¬ ∀ i,has x.t i=true→eqN (x.nd i) (y.nd i)=true
 ·have HN:=Hd heq
  have HME1:Hid (∀ W,regs.bl w W→Calls Tryz.prog 68 #[.map (some m),.map (some m2),.func (.func 69) #[] #[]] W fun e w'=>e=.returned (.bool false)∧Below W.heap.size W w'):=fun W hb=>(HME.out W hb hal).mono fun e w' ⟨r,h1,h2,h3⟩=>⟨by rw [h1,show r=false from (by cases r with | false=>rfl | true=>exact absurd (h2.1 rfl) heq)],h3⟩
  clear HME HTS hal heq
  refine regs.wp_region_put (regs.bl) (regs.noJ) [5,6,7,8,9,10,11,12,13,14,15,16,17,18,19,20,21,22,23,24,25,26,27,28,29,30,31,32,33,34,35,4] (by kernel_rfl) (by kernel_rfl) (fun _=>regs.bl_refl _) (regs.bl_trans) (fun i=>(match i with
   | 0=>regs.Say.val _ (.pointer (some ⟨g,0,none⟩))
   | 1=>regs.Say.val _ (.pointer (some ⟨g,0,none⟩))
   | 2=>regs.Say.val _ (.pointer (some ⟨g,2,none⟩))
   | 3=>regs.Say.val _ (.agg ([.int .i64 Z.1,.int .i64 Z.2.1,.int .i64 Z.2.2]).toArray)
   | 4=>regs.Say.val _ (.pointer (some ⟨g2,0,none⟩))
   | 5=>regs.Say.val _ (.pointer (some ⟨g2,0,none⟩))
   | 6=>regs.Say.val _ (.pointer (some ⟨g2,2,none⟩))
   | 7=>regs.Say.val _ (.agg ([.int .i64 Z.1,.int .i64 Z.2.1,.int .i64 Z.2.2]).toArray)
   | 8=>regs.Say.val _ (.bool true)
   | 9=>regs.Say.val _ (.bool true)
   | 10=>regs.Say.val _ (.pointer (some ⟨g,0,none⟩))
   | 11=>regs.Say.val _ (.pointer (some ⟨g,0,none⟩))
   | 12=>regs.Say.val _ (.pointer (some ⟨g,1,none⟩))
   | 13=>regs.Say.val _ (.pointer (some ⟨b,0,none⟩))
   | 14=>regs.Say.val _ (.pointer (some ⟨g2,0,none⟩))
   | 15=>regs.Say.val _ (.pointer (some ⟨g2,0,none⟩))
   | 16=>regs.Say.val _ (.pointer (some ⟨g2,1,none⟩))
   | 17=>regs.Say.val _ (.pointer (some ⟨b2,0,none⟩))
   | 18=>regs.Say.val _ (.bool true)
   | 19=>regs.Say.val _ (.bool true)
   | 20=>regs.Say.val _ (.bool true)
   | 21=>regs.Say.val _ (.pointer (some ⟨g,0,none⟩))
   | 22=>regs.Say.val _ (.pointer (some ⟨g,0,none⟩))
   | 23=>regs.Say.val _ (.pointer (some ⟨g,5,none⟩))
   | 24=>regs.Say.val _ (.map (some m))
   | 25=>regs.Say.val _ (.pointer (some ⟨g2,0,none⟩))
   | 26=>regs.Say.val _ (.pointer (some ⟨g2,0,none⟩))
   | 27=>regs.Say.val _ (.pointer (some ⟨g2,5,none⟩))
   | 28=>regs.Say.val _ (.map (some m2))
   | 29=>regs.Say.val _ (.bool false)
   | 30=>regs.Say.val _ (.bool false)
   | 31=>regs.Say.val _ (.bool false)
   | _=>regs.Say.any _:regs.Say (regs.bl)).p) (fun _=>regs.Say.mono _) (by kernel_rfl) ((Below.refl _ _).drew) (regs.noJ_ok _ _) ⟨?_,?_,?_,?_,?_,?_,?_,?_,?_,?_,?_,?_,?_,?_,?_,?_,?_,?_,?_,?_,?_,?_,?_,?_,?_,?_,?_,?_,?_,?_,?_,?_,trivial⟩ ?_
  ·refine regs.StepOK.plain rfl fun L a w1 hh=>?_
   have h0:a.tmps[0]?.getD undef=.pointer (some ⟨g,0,none⟩):=rq (hh.old 0 rfl)
   have hJ:=Hd hh.st; clear hh; go_simp; exact ⟨_,rfl,regs.bl_refl _,rfl,hJ.out⟩
  ·refine regs.StepOK.plain rfl fun L a w1 hh=>?_
   have h5:=rq (hh.dep 0 5 (by kernel_rfl) (by kernel_rfl))
   have hJ:=Hd hh.st; clear hh; go_simp; exact ⟨_,rfl,regs.bl_refl _,rfl,hJ.out⟩
  ·refine regs.StepOK.plain rfl fun L a w1 hh=>?_
   have h6:=rq (hh.dep 1 6 (by kernel_rfl) (by kernel_rfl))
   have i0:=((HFS.out _ hh.rel).blk.blk).inside
   have hJ:=Hd hh.st; clear hh; go_simp; exact ⟨_,rfl,regs.bl_refl _,rfl,hJ.out⟩
  ·refine regs.StepOK.plain rfl fun L a w1 hh=>?_
   have h7:=rq (hh.dep 2 7 (by kernel_rfl) (by kernel_rfl))
   have hB:=Hd ((HFS.out _ hh.rel).blk.blk)
   have hJ:=Hd hh.st
   exact wp_take 111 _ rfl g 2 (by simpa [go_sem] using h7) _ hB.out ([.int .i64 Z.1,.int .i64 Z.2.1,.int .i64 Z.2.2]) rfl _ Tryz.underlying111 rfl (by kernel_rfl) ⟨_,rfl,regs.bl_refl _,rfl,hJ.out⟩
  ·refine regs.StepOK.plain rfl fun L a w1 hh=>?_
   have h1:a.tmps[1]?.getD undef=.pointer (some ⟨g2,0,none⟩):=rq (hh.old 1 rfl)
   have hJ:=Hd hh.st; clear hh; go_simp; exact ⟨_,rfl,regs.bl_refl _,rfl,hJ.out⟩
  ·refine regs.StepOK.plain rfl fun L a w1 hh=>?_
   have h9:=rq (hh.dep 4 9 (by kernel_rfl) (by kernel_rfl))
   have hJ:=Hd hh.st; clear hh; go_simp; exact ⟨_,rfl,regs.bl_refl _,rfl,hJ.out⟩
  ·refine regs.StepOK.plain rfl fun L a w1 hh=>?_
   have h10:=rq (hh.dep 5 10 (by kernel_rfl) (by kernel_rfl))
   have i0:=((HFT.out _ hh.rel).blk.blk).inside
   have hJ:=Hd hh.st; clear hh; go_simp; exact ⟨_,rfl,regs.bl_refl _,rfl,hJ.out⟩
  ·refine regs.StepOK.plain rfl fun L a w1 hh=>?_
   have h11:=rq (hh.dep 6 11 (by kernel_rfl) (by kernel_rfl))
   have hB:=Hd ((HFT.out _ hh.rel).blk.blk)
   have hJ:=Hd hh.st
   exact wp_take 111 _ rfl g2 2 (by simpa [go_sem] using h11) _ hB.out ([.int .i64 Z.1,.int .i64 Z.2.1,.int .i64 Z.2.2]) rfl _ Tryz.underlying111 rfl (by kernel_rfl) ⟨_,rfl,regs.bl_refl _,rfl,hJ.out⟩
  ·refine regs.StepOK.plain rfl fun L a w1 hh=>?_
   have h8:=rq (hh.dep 3 8 (by kernel_rfl) (by kernel_rfl))
   have h12:=rq (hh.dep 7 12 (by kernel_rfl) (by kernel_rfl))
   have hJ:=Hd hh.st; clear hh; go_simp; exact ⟨_,rfl,regs.bl_refl _,rfl,hJ.out⟩
  ·refine regs.StepOK.plain rfl fun L a w1 hh=>?_
   have h13:=rq (hh.dep 8 13 (by kernel_rfl) (by kernel_rfl))
   have hJ:=Hd hh.st; clear hh; go_simp; exact ⟨_,rfl,regs.bl_refl _,rfl,hJ.out⟩
  ·refine regs.StepOK.yes 9 true 14 rfl rfl (fun L a w1 hh=>hh.dep 9 14 (by kernel_rfl) (by kernel_rfl)) fun L a w1 hh=>?_
   have h0:a.tmps[0]?.getD undef=.pointer (some ⟨g,0,none⟩):=rq (hh.old 0 rfl)
   have hJ:=Hd hh.st; clear hh; go_simp; exact ⟨_,rfl,regs.bl_refl _,rfl,hJ.out⟩
  ·refine regs.StepOK.yes 9 true 14 rfl rfl (fun L a w1 hh=>hh.dep 9 14 (by kernel_rfl) (by kernel_rfl)) fun L a w1 hh=>?_
   have h15:=rq (hh.dep 10 15 (by kernel_rfl) (by kernel_rfl))
   have hJ:=Hd hh.st; clear hh; go_simp; exact ⟨_,rfl,regs.bl_refl _,rfl,hJ.out⟩
  ·refine regs.StepOK.yes 9 true 14 rfl rfl (fun L a w1 hh=>hh.dep 9 14 (by kernel_rfl) (by kernel_rfl)) fun L a w1 hh=>?_
   have h16:=rq (hh.dep 11 16 (by kernel_rfl) (by kernel_rfl))
   have i0:=((HFS.out _ hh.rel).blk.blk).inside
   have hJ:=Hd hh.st; clear hh; go_simp; exact ⟨_,rfl,regs.bl_refl _,rfl,hJ.out⟩
  ·refine regs.StepOK.yes 9 true 14 rfl rfl (fun L a w1 hh=>hh.dep 9 14 (by kernel_rfl) (by kernel_rfl)) fun L a w1 hh=>?_
   have h17:=rq (hh.dep 12 17 (by kernel_rfl) (by kernel_rfl))
   have hB:=Hd ((HFS.out _ hh.rel).blk.blk)
   have c0:w1.cell? ⟨g,1,none⟩=some (.pointer (some ⟨b,0,none⟩)):=hB.out.cell 1
   have i0:=hB.out.inside
   have hJ:=Hd hh.st; clear hh; go_simp; exact ⟨_,rfl,regs.bl_refl _,rfl,hJ.out⟩
  ·refine regs.StepOK.yes 9 true 14 rfl rfl (fun L a w1 hh=>hh.dep 9 14 (by kernel_rfl) (by kernel_rfl)) fun L a w1 hh=>?_
   have h1:a.tmps[1]?.getD undef=.pointer (some ⟨g2,0,none⟩):=rq (hh.old 1 rfl)
   have hJ:=Hd hh.st; clear hh; go_simp; exact ⟨_,rfl,regs.bl_refl _,rfl,hJ.out⟩
  ·refine regs.StepOK.yes 9 true 14 rfl rfl (fun L a w1 hh=>hh.dep 9 14 (by kernel_rfl) (by kernel_rfl)) fun L a w1 hh=>?_
   have h19:=rq (hh.dep 14 19 (by kernel_rfl) (by kernel_rfl))
   have hJ:=Hd hh.st; clear hh; go_simp; exact ⟨_,rfl,regs.bl_refl _,rfl,hJ.out⟩
  ·refine regs.StepOK.yes 9 true 14 rfl rfl (fun L a w1 hh=>hh.dep 9 14 (by kernel_rfl) (by kernel_rfl)) fun L a w1 hh=>?_
   have h20:=rq (hh.dep 15 20 (by kernel_rfl) (by kernel_rfl))
   have i0:=((HFT.out _ hh.rel).blk.blk).inside
   have hJ:=Hd hh.st; clear hh; go_simp; exact ⟨_,rfl,regs.bl_refl _,rfl,hJ.out⟩
  ·refine regs.StepOK.yes 9 true 14 rfl rfl (fun L a w1 hh=>hh.dep 9 14 (by kernel_rfl) (by kernel_rfl)) fun L a w1 hh=>?_
   have h21:=rq (hh.dep 16 21 (by kernel_rfl) (by kernel_rfl))
   have hB:=Hd ((HFT.out _ hh.rel).blk.blk)
   have c0:w1.cell? ⟨g2,1,none⟩=some (.pointer (some ⟨b2,0,none⟩)):=hB.out.cell 1
   have i0:=hB.out.inside
   have hJ:=Hd hh.st; clear hh; go_simp; exact ⟨_,rfl,regs.bl_refl _,rfl,hJ.out⟩
  ·refine regs.StepOK.yes 9 true 14 rfl rfl (fun L a w1 hh=>hh.dep 9 14 (by kernel_rfl) (by kernel_rfl)) fun L a w1 hh=>?_
   have h18:=rq (hh.dep 13 18 (by kernel_rfl) (by kernel_rfl))
   have h22:=rq (hh.dep 17 22 (by kernel_rfl) (by kernel_rfl))
   have hC:=Hd (HTS1.out _ hh.rel)
   have hJ:=Hd hh.st; clear hh; go_simp; refine hC.out.mono ?_
   rintro e w9 ⟨rfl,hb9⟩
   exact ⟨_,rfl,hb9,rfl,hJ.out⟩
  ·refine regs.StepOK.plain rfl fun L a w1 hh=>?_
   have h14:=rq (hh.dep 9 14 (by kernel_rfl) (by kernel_rfl))
   have h23:=rq (hh.dep 18 23 (by kernel_rfl) (by kernel_rfl))
   have hJ:=Hd hh.st; clear hh; go_simp; exact ⟨_,rfl,regs.bl_refl _,rfl,hJ.out⟩
  ·refine regs.StepOK.plain rfl fun L a w1 hh=>?_
   have h24:=rq (hh.dep 19 24 (by kernel_rfl) (by kernel_rfl))
   have hJ:=Hd hh.st; clear hh; go_simp; exact ⟨_,rfl,regs.bl_refl _,rfl,hJ.out⟩
  ·refine regs.StepOK.yes 20 true 25 rfl rfl (fun L a w1 hh=>hh.dep 20 25 (by kernel_rfl) (by kernel_rfl)) fun L a w1 hh=>?_
   have h0:a.tmps[0]?.getD undef=.pointer (some ⟨g,0,none⟩):=rq (hh.old 0 rfl)
   have hJ:=Hd hh.st; clear hh; go_simp; exact ⟨_,rfl,regs.bl_refl _,rfl,hJ.out⟩
  ·refine regs.StepOK.yes 20 true 25 rfl rfl (fun L a w1 hh=>hh.dep 20 25 (by kernel_rfl) (by kernel_rfl)) fun L a w1 hh=>?_
   have h26:=rq (hh.dep 21 26 (by kernel_rfl) (by kernel_rfl))
   have hJ:=Hd hh.st; clear hh; go_simp; exact ⟨_,rfl,regs.bl_refl _,rfl,hJ.out⟩
  ·refine regs.StepOK.yes 20 true 25 rfl rfl (fun L a w1 hh=>hh.dep 20 25 (by kernel_rfl) (by kernel_rfl)) fun L a w1 hh=>?_
   have h27:=rq (hh.dep 22 27 (by kernel_rfl) (by kernel_rfl))
   have i0:=((HFS.out _ hh.rel).blk.blk).inside
   have hJ:=Hd hh.st; clear hh; go_simp; exact ⟨_,rfl,regs.bl_refl _,rfl,hJ.out⟩
  ·refine regs.StepOK.yes 20 true 25 rfl rfl (fun L a w1 hh=>hh.dep 20 25 (by kernel_rfl) (by kernel_rfl)) fun L a w1 hh=>?_
   have h28:=rq (hh.dep 23 28 (by kernel_rfl) (by kernel_rfl))
   have hB:=Hd ((HFS.out _ hh.rel).blk.blk)
   have c0:w1.cell? ⟨g,5,none⟩=some (.map (some m)):=hB.out.cell 5
   have i0:=hB.out.inside
   have hJ:=Hd hh.st; clear hh; go_simp; exact ⟨_,rfl,regs.bl_refl _,rfl,hJ.out⟩
  ·refine regs.StepOK.yes 20 true 25 rfl rfl (fun L a w1 hh=>hh.dep 20 25 (by kernel_rfl) (by kernel_rfl)) fun L a w1 hh=>?_
   have h1:a.tmps[1]?.getD undef=.pointer (some ⟨g2,0,none⟩):=rq (hh.old 1 rfl)
   have hJ:=Hd hh.st; clear hh; go_simp; exact ⟨_,rfl,regs.bl_refl _,rfl,hJ.out⟩
  ·refine regs.StepOK.yes 20 true 25 rfl rfl (fun L a w1 hh=>hh.dep 20 25 (by kernel_rfl) (by kernel_rfl)) fun L a w1 hh=>?_
   have h30:=rq (hh.dep 25 30 (by kernel_rfl) (by kernel_rfl))
   have hJ:=Hd hh.st; clear hh; go_simp; exact ⟨_,rfl,regs.bl_refl _,rfl,hJ.out⟩
  ·refine regs.StepOK.yes 20 true 25 rfl rfl (fun L a w1 hh=>hh.dep 20 25 (by kernel_rfl) (by kernel_rfl)) fun L a w1 hh=>?_
   have h31:=rq (hh.dep 26 31 (by kernel_rfl) (by kernel_rfl))
   have i0:=((HFT.out _ hh.rel).blk.blk).inside
   have hJ:=Hd hh.st; clear hh; go_simp; exact ⟨_,rfl,regs.bl_refl _,rfl,hJ.out⟩
  ·refine regs.StepOK.yes 20 true 25 rfl rfl (fun L a w1 hh=>hh.dep 20 25 (by kernel_rfl) (by kernel_rfl)) fun L a w1 hh=>?_
   have h32:=rq (hh.dep 27 32 (by kernel_rfl) (by kernel_rfl))
   have hB:=Hd ((HFT.out _ hh.rel).blk.blk)
   have c0:w1.cell? ⟨g2,5,none⟩=some (.map (some m2)):=hB.out.cell 5
   have i0:=hB.out.inside
   have hJ:=Hd hh.st; clear hh; go_simp; exact ⟨_,rfl,regs.bl_refl _,rfl,hJ.out⟩
  ·refine regs.StepOK.yes 20 true 25 rfl rfl (fun L a w1 hh=>hh.dep 20 25 (by kernel_rfl) (by kernel_rfl)) fun L a w1 hh=>?_
   have h29:=rq (hh.dep 24 29 (by kernel_rfl) (by kernel_rfl))
   have h33:=rq (hh.dep 28 33 (by kernel_rfl) (by kernel_rfl))
   have hC:=Hd (HME1.out _ hh.rel)
   have hJ:=Hd hh.st; clear hh; go_simp; refine hC.out.mono ?_
   rintro e w9 ⟨rfl,hb9⟩
   exact ⟨_,rfl,hb9,rfl,hJ.out⟩
  ·refine regs.StepOK.plain rfl fun L a w1 hh=>?_
   have h25:=rq (hh.dep 20 25 (by kernel_rfl) (by kernel_rfl))
   have h34:=rq (hh.dep 29 34 (by kernel_rfl) (by kernel_rfl))
   have hJ:=Hd hh.st; clear hh; go_simp; exact ⟨_,rfl,regs.bl_refl _,rfl,hJ.out⟩
  ·refine regs.StepOK.plain rfl fun L a w1 hh=>?_
   have h35:=rq (hh.dep 30 35 (by kernel_rfl) (by kernel_rfl))
   have hJ:=Hd hh.st; clear hh; go_simp; exact ⟨_,rfl,regs.bl_refl _,rfl,hJ.out⟩
  intro L w4 val hL hJ hR hv
  have h4:val 4=.bool false:=hv 31 4 (by kernel_rfl)
  have HR4:=Hd hR
  clear hv hL hJ hR
  simp only [regs.putAll,List.map_cons,List.map_nil,h4]
  simp only [Act.put,List.setIfInBounds_toArray,List.set_cons_zero,List.set_cons_succ]
  clear h4
  generalize val 5=v5,val 6=v6,val 7=v7,val 8=v8,val 9=v9,val 10=v10,val 11=v11,val 12=v12,val 13=v13,val 14=v14,val 15=v15,val 16=v16,val 17=v17,val 18=v18,val 19=v19,val 20=v20,val 21=v21,val 22=v22,val 23=v23,val 24=v24,val 25=v25,val 26=v26,val 27=v27,val 28=v28,val 29=v29,val 30=v30,val 31=v31,val 32=v32,val 33=v33,val 34=v34,val 35=v35 at *
  go_wp2_with (fail)
  go_ret
  exact ⟨false,rfl,⟨(fun e=>nomatch e),fun e=>absurd e.2 HN.out⟩,HR4.out⟩
 have heq:∀ i,has x.t i=true→eqN (x.nd i) (y.nd i)=true:=Classical.byContradiction heq
 have HN:=Hd heq
 have HME1:Hid (∀ W,regs.bl w W→Calls Tryz.prog 68 #[.map (some m),.map (some m2),.func (.func 69) #[] #[]] W fun e w'=>e=.returned (.bool true)∧Below W.heap.size W w'):=fun W hb=>(HME.out W hb hal).mono fun e w' ⟨r,h1,h2,h3⟩=>⟨by rw [h1,show r=true from h2.2 heq],h3⟩
 clear HME HTS hal heq
 refine regs.wp_region_put (regs.bl) (regs.noJ) [5,6,7,8,9,10,11,12,13,14,15,16,17,18,19,20,21,22,23,24,25,26,27,28,29,30,31,32,33,34,35,4] (by kernel_rfl) (by kernel_rfl) (fun _=>regs.bl_refl _) (regs.bl_trans) (fun i=>(match i with
  | 0=>regs.Say.val _ (.pointer (some ⟨g,0,none⟩))
  | 1=>regs.Say.val _ (.pointer (some ⟨g,0,none⟩))
  | 2=>regs.Say.val _ (.pointer (some ⟨g,2,none⟩))
  | 3=>regs.Say.val _ (.agg ([.int .i64 Z.1,.int .i64 Z.2.1,.int .i64 Z.2.2]).toArray)
  | 4=>regs.Say.val _ (.pointer (some ⟨g2,0,none⟩))
  | 5=>regs.Say.val _ (.pointer (some ⟨g2,0,none⟩))
  | 6=>regs.Say.val _ (.pointer (some ⟨g2,2,none⟩))
  | 7=>regs.Say.val _ (.agg ([.int .i64 Z.1,.int .i64 Z.2.1,.int .i64 Z.2.2]).toArray)
  | 8=>regs.Say.val _ (.bool true)
  | 9=>regs.Say.val _ (.bool true)
  | 10=>regs.Say.val _ (.pointer (some ⟨g,0,none⟩))
  | 11=>regs.Say.val _ (.pointer (some ⟨g,0,none⟩))
  | 12=>regs.Say.val _ (.pointer (some ⟨g,1,none⟩))
  | 13=>regs.Say.val _ (.pointer (some ⟨b,0,none⟩))
  | 14=>regs.Say.val _ (.pointer (some ⟨g2,0,none⟩))
  | 15=>regs.Say.val _ (.pointer (some ⟨g2,0,none⟩))
  | 16=>regs.Say.val _ (.pointer (some ⟨g2,1,none⟩))
  | 17=>regs.Say.val _ (.pointer (some ⟨b2,0,none⟩))
  | 18=>regs.Say.val _ (.bool true)
  | 19=>regs.Say.val _ (.bool true)
  | 20=>regs.Say.val _ (.bool true)
  | 21=>regs.Say.val _ (.pointer (some ⟨g,0,none⟩))
  | 22=>regs.Say.val _ (.pointer (some ⟨g,0,none⟩))
  | 23=>regs.Say.val _ (.pointer (some ⟨g,5,none⟩))
  | 24=>regs.Say.val _ (.map (some m))
  | 25=>regs.Say.val _ (.pointer (some ⟨g2,0,none⟩))
  | 26=>regs.Say.val _ (.pointer (some ⟨g2,0,none⟩))
  | 27=>regs.Say.val _ (.pointer (some ⟨g2,5,none⟩))
  | 28=>regs.Say.val _ (.map (some m2))
  | 29=>regs.Say.val _ (.bool true)
  | 30=>regs.Say.val _ (.bool true)
  | 31=>regs.Say.val _ (.bool true)
  | _=>regs.Say.any _:regs.Say (regs.bl)).p) (fun _=>regs.Say.mono _) (by kernel_rfl) ((Below.refl _ _).drew) (regs.noJ_ok _ _) ⟨?_,?_,?_,?_,?_,?_,?_,?_,?_,?_,?_,?_,?_,?_,?_,?_,?_,?_,?_,?_,?_,?_,?_,?_,?_,?_,?_,?_,?_,?_,?_,?_,trivial⟩ ?_
 ·refine regs.StepOK.plain rfl fun L a w1 hh=>?_
  have h0:a.tmps[0]?.getD undef=.pointer (some ⟨g,0,none⟩):=rq (hh.old 0 rfl)
  have hJ:=Hd hh.st; clear hh; go_simp; exact ⟨_,rfl,regs.bl_refl _,rfl,hJ.out⟩
 ·refine regs.StepOK.plain rfl fun L a w1 hh=>?_
  have h5:=rq (hh.dep 0 5 (by kernel_rfl) (by kernel_rfl))
  have hJ:=Hd hh.st; clear hh; go_simp; exact ⟨_,rfl,regs.bl_refl _,rfl,hJ.out⟩
 ·refine regs.StepOK.plain rfl fun L a w1 hh=>?_
  have h6:=rq (hh.dep 1 6 (by kernel_rfl) (by kernel_rfl))
  have i0:=((HFS.out _ hh.rel).blk.blk).inside
  have hJ:=Hd hh.st; clear hh; go_simp; exact ⟨_,rfl,regs.bl_refl _,rfl,hJ.out⟩
 ·refine regs.StepOK.plain rfl fun L a w1 hh=>?_
  have h7:=rq (hh.dep 2 7 (by kernel_rfl) (by kernel_rfl))
  have hB:=Hd ((HFS.out _ hh.rel).blk.blk)
  have hJ:=Hd hh.st
  exact wp_take 111 _ rfl g 2 (by simpa [go_sem] using h7) _ hB.out ([.int .i64 Z.1,.int .i64 Z.2.1,.int .i64 Z.2.2]) rfl _ Tryz.underlying111 rfl (by kernel_rfl) ⟨_,rfl,regs.bl_refl _,rfl,hJ.out⟩
 ·refine regs.StepOK.plain rfl fun L a w1 hh=>?_
  have h1:a.tmps[1]?.getD undef=.pointer (some ⟨g2,0,none⟩):=rq (hh.old 1 rfl)
  have hJ:=Hd hh.st; clear hh; go_simp; exact ⟨_,rfl,regs.bl_refl _,rfl,hJ.out⟩
 ·refine regs.StepOK.plain rfl fun L a w1 hh=>?_
  have h9:=rq (hh.dep 4 9 (by kernel_rfl) (by kernel_rfl))
  have hJ:=Hd hh.st; clear hh; go_simp; exact ⟨_,rfl,regs.bl_refl _,rfl,hJ.out⟩
 ·refine regs.StepOK.plain rfl fun L a w1 hh=>?_
  have h10:=rq (hh.dep 5 10 (by kernel_rfl) (by kernel_rfl))
  have i0:=((HFT.out _ hh.rel).blk.blk).inside
  have hJ:=Hd hh.st; clear hh; go_simp; exact ⟨_,rfl,regs.bl_refl _,rfl,hJ.out⟩
 ·refine regs.StepOK.plain rfl fun L a w1 hh=>?_
  have h11:=rq (hh.dep 6 11 (by kernel_rfl) (by kernel_rfl))
  have hB:=Hd ((HFT.out _ hh.rel).blk.blk)
  have hJ:=Hd hh.st
  exact wp_take 111 _ rfl g2 2 (by simpa [go_sem] using h11) _ hB.out ([.int .i64 Z.1,.int .i64 Z.2.1,.int .i64 Z.2.2]) rfl _ Tryz.underlying111 rfl (by kernel_rfl) ⟨_,rfl,regs.bl_refl _,rfl,hJ.out⟩
 ·refine regs.StepOK.plain rfl fun L a w1 hh=>?_
  have h8:=rq (hh.dep 3 8 (by kernel_rfl) (by kernel_rfl))
  have h12:=rq (hh.dep 7 12 (by kernel_rfl) (by kernel_rfl))
  have hJ:=Hd hh.st; clear hh; go_simp; exact ⟨_,rfl,regs.bl_refl _,rfl,hJ.out⟩
 ·refine regs.StepOK.plain rfl fun L a w1 hh=>?_
  have h13:=rq (hh.dep 8 13 (by kernel_rfl) (by kernel_rfl))
  have hJ:=Hd hh.st; clear hh; go_simp; exact ⟨_,rfl,regs.bl_refl _,rfl,hJ.out⟩
 ·refine regs.StepOK.yes 9 true 14 rfl rfl (fun L a w1 hh=>hh.dep 9 14 (by kernel_rfl) (by kernel_rfl)) fun L a w1 hh=>?_
  have h0:a.tmps[0]?.getD undef=.pointer (some ⟨g,0,none⟩):=rq (hh.old 0 rfl)
  have hJ:=Hd hh.st; clear hh; go_simp; exact ⟨_,rfl,regs.bl_refl _,rfl,hJ.out⟩
 ·refine regs.StepOK.yes 9 true 14 rfl rfl (fun L a w1 hh=>hh.dep 9 14 (by kernel_rfl) (by kernel_rfl)) fun L a w1 hh=>?_
  have h15:=rq (hh.dep 10 15 (by kernel_rfl) (by kernel_rfl))
  have hJ:=Hd hh.st; clear hh; go_simp; exact ⟨_,rfl,regs.bl_refl _,rfl,hJ.out⟩
 ·refine regs.StepOK.yes 9 true 14 rfl rfl (fun L a w1 hh=>hh.dep 9 14 (by kernel_rfl) (by kernel_rfl)) fun L a w1 hh=>?_
  have h16:=rq (hh.dep 11 16 (by kernel_rfl) (by kernel_rfl))
  have i0:=((HFS.out _ hh.rel).blk.blk).inside
  have hJ:=Hd hh.st; clear hh; go_simp; exact ⟨_,rfl,regs.bl_refl _,rfl,hJ.out⟩
 ·refine regs.StepOK.yes 9 true 14 rfl rfl (fun L a w1 hh=>hh.dep 9 14 (by kernel_rfl) (by kernel_rfl)) fun L a w1 hh=>?_
  have h17:=rq (hh.dep 12 17 (by kernel_rfl) (by kernel_rfl))
  have hB:=Hd ((HFS.out _ hh.rel).blk.blk)
  have c0:w1.cell? ⟨g,1,none⟩=some (.pointer (some ⟨b,0,none⟩)):=hB.out.cell 1
  have i0:=hB.out.inside
  have hJ:=Hd hh.st; clear hh; go_simp; exact ⟨_,rfl,regs.bl_refl _,rfl,hJ.out⟩
 ·refine regs.StepOK.yes 9 true 14 rfl rfl (fun L a w1 hh=>hh.dep 9 14 (by kernel_rfl) (by kernel_rfl)) fun L a w1 hh=>?_
  have h1:a.tmps[1]?.getD undef=.pointer (some ⟨g2,0,none⟩):=rq (hh.old 1 rfl)
  have hJ:=Hd hh.st; clear hh; go_simp; exact ⟨_,rfl,regs.bl_refl _,rfl,hJ.out⟩
 ·refine regs.StepOK.yes 9 true 14 rfl rfl (fun L a w1 hh=>hh.dep 9 14 (by kernel_rfl) (by kernel_rfl)) fun L a w1 hh=>?_
  have h19:=rq (hh.dep 14 19 (by kernel_rfl) (by kernel_rfl))
  have hJ:=Hd hh.st; clear hh; go_simp; exact ⟨_,rfl,regs.bl_refl _,rfl,hJ.out⟩
 ·refine regs.StepOK.yes 9 true 14 rfl rfl (fun L a w1 hh=>hh.dep 9 14 (by kernel_rfl) (by kernel_rfl)) fun L a w1 hh=>?_
  have h20:=rq (hh.dep 15 20 (by kernel_rfl) (by kernel_rfl))
  have i0:=((HFT.out _ hh.rel).blk.blk).inside
  have hJ:=Hd hh.st; clear hh; go_simp; exact ⟨_,rfl,regs.bl_refl _,rfl,hJ.out⟩
 ·refine regs.StepOK.yes 9 true 14 rfl rfl (fun L a w1 hh=>hh.dep 9 14 (by kernel_rfl) (by kernel_rfl)) fun L a w1 hh=>?_
  have h21:=rq (hh.dep 16 21 (by kernel_rfl) (by kernel_rfl))
  have hB:=Hd ((HFT.out _ hh.rel).blk.blk)
  have c0:w1.cell? ⟨g2,1,none⟩=some (.pointer (some ⟨b2,0,none⟩)):=hB.out.cell 1
  have i0:=hB.out.inside
  have hJ:=Hd hh.st; clear hh; go_simp; exact ⟨_,rfl,regs.bl_refl _,rfl,hJ.out⟩
 ·refine regs.StepOK.yes 9 true 14 rfl rfl (fun L a w1 hh=>hh.dep 9 14 (by kernel_rfl) (by kernel_rfl)) fun L a w1 hh=>?_
  have h18:=rq (hh.dep 13 18 (by kernel_rfl) (by kernel_rfl))
  have h22:=rq (hh.dep 17 22 (by kernel_rfl) (by kernel_rfl))
  have hC:=Hd (HTS1.out _ hh.rel)
  have hJ:=Hd hh.st; clear hh; go_simp; refine hC.out.mono ?_
  rintro e w9 ⟨rfl,hb9⟩
  exact ⟨_,rfl,hb9,rfl,hJ.out⟩
 ·refine regs.StepOK.plain rfl fun L a w1 hh=>?_
  have h14:=rq (hh.dep 9 14 (by kernel_rfl) (by kernel_rfl))
  have h23:=rq (hh.dep 18 23 (by kernel_rfl) (by kernel_rfl))
  have hJ:=Hd hh.st; clear hh; go_simp; exact ⟨_,rfl,regs.bl_refl _,rfl,hJ.out⟩
 ·refine regs.StepOK.plain rfl fun L a w1 hh=>?_
  have h24:=rq (hh.dep 19 24 (by kernel_rfl) (by kernel_rfl))
  have hJ:=Hd hh.st; clear hh; go_simp; exact ⟨_,rfl,regs.bl_refl _,rfl,hJ.out⟩
 ·refine regs.StepOK.yes 20 true 25 rfl rfl (fun L a w1 hh=>hh.dep 20 25 (by kernel_rfl) (by kernel_rfl)) fun L a w1 hh=>?_
  have h0:a.tmps[0]?.getD undef=.pointer (some ⟨g,0,none⟩):=rq (hh.old 0 rfl)
  have hJ:=Hd hh.st; clear hh; go_simp; exact ⟨_,rfl,regs.bl_refl _,rfl,hJ.out⟩
 ·refine regs.StepOK.yes 20 true 25 rfl rfl (fun L a w1 hh=>hh.dep 20 25 (by kernel_rfl) (by kernel_rfl)) fun L a w1 hh=>?_
  have h26:=rq (hh.dep 21 26 (by kernel_rfl) (by kernel_rfl))
  have hJ:=Hd hh.st; clear hh; go_simp; exact ⟨_,rfl,regs.bl_refl _,rfl,hJ.out⟩
 ·refine regs.StepOK.yes 20 true 25 rfl rfl (fun L a w1 hh=>hh.dep 20 25 (by kernel_rfl) (by kernel_rfl)) fun L a w1 hh=>?_
  have h27:=rq (hh.dep 22 27 (by kernel_rfl) (by kernel_rfl))
  have i0:=((HFS.out _ hh.rel).blk.blk).inside
  have hJ:=Hd hh.st; clear hh; go_simp; exact ⟨_,rfl,regs.bl_refl _,rfl,hJ.out⟩
 ·refine regs.StepOK.yes 20 true 25 rfl rfl (fun L a w1 hh=>hh.dep 20 25 (by kernel_rfl) (by kernel_rfl)) fun L a w1 hh=>?_
  have h28:=rq (hh.dep 23 28 (by kernel_rfl) (by kernel_rfl))
  have hB:=Hd ((HFS.out _ hh.rel).blk.blk)
  have c0:w1.cell? ⟨g,5,none⟩=some (.map (some m)):=hB.out.cell 5
  have i0:=hB.out.inside
  have hJ:=Hd hh.st; clear hh; go_simp; exact ⟨_,rfl,regs.bl_refl _,rfl,hJ.out⟩
 ·refine regs.StepOK.yes 20 true 25 rfl rfl (fun L a w1 hh=>hh.dep 20 25 (by kernel_rfl) (by kernel_rfl)) fun L a w1 hh=>?_
  have h1:a.tmps[1]?.getD undef=.pointer (some ⟨g2,0,none⟩):=rq (hh.old 1 rfl)
  have hJ:=Hd hh.st; clear hh; go_simp; exact ⟨_,rfl,regs.bl_refl _,rfl,hJ.out⟩
 ·refine regs.StepOK.yes 20 true 25 rfl rfl (fun L a w1 hh=>hh.dep 20 25 (by kernel_rfl) (by kernel_rfl)) fun L a w1 hh=>?_
  have h30:=rq (hh.dep 25 30 (by kernel_rfl) (by kernel_rfl))
  have hJ:=Hd hh.st; clear hh; go_simp; exact ⟨_,rfl,regs.bl_refl _,rfl,hJ.out⟩
 ·refine regs.StepOK.yes 20 true 25 rfl rfl (fun L a w1 hh=>hh.dep 20 25 (by kernel_rfl) (by kernel_rfl)) fun L a w1 hh=>?_
  have h31:=rq (hh.dep 26 31 (by kernel_rfl) (by kernel_rfl))
  have i0:=((HFT.out _ hh.rel).blk.blk).inside
  have hJ:=Hd hh.st; clear hh; go_simp; exact ⟨_,rfl,regs.bl_refl _,rfl,hJ.out⟩
 ·refine regs.StepOK.yes 20 true 25 rfl rfl (fun L a w1 hh=>hh.dep 20 25 (by kernel_rfl) (by kernel_rfl)) fun L a w1 hh=>?_
  have h32:=rq (hh.dep 27 32 (by kernel_rfl) (by kernel_rfl))
  have hB:=Hd ((HFT.out _ hh.rel).blk.blk)
  have c0:w1.cell? ⟨g2,5,none⟩=some (.map (some m2)):=hB.out.cell 5
  have i0:=hB.out.inside
  have hJ:=Hd hh.st; clear hh; go_simp; exact ⟨_,rfl,regs.bl_refl _,rfl,hJ.out⟩
 ·refine regs.StepOK.yes 20 true 25 rfl rfl (fun L a w1 hh=>hh.dep 20 25 (by kernel_rfl) (by kernel_rfl)) fun L a w1 hh=>?_
  have h29:=rq (hh.dep 24 29 (by kernel_rfl) (by kernel_rfl))
  have h33:=rq (hh.dep 28 33 (by kernel_rfl) (by kernel_rfl))
  have hC:=Hd (HME1.out _ hh.rel)
  have hJ:=Hd hh.st; clear hh; go_simp; refine hC.out.mono ?_
  rintro e w9 ⟨rfl,hb9⟩
  exact ⟨_,rfl,hb9,rfl,hJ.out⟩
 ·refine regs.StepOK.plain rfl fun L a w1 hh=>?_
  have h25:=rq (hh.dep 20 25 (by kernel_rfl) (by kernel_rfl))
  have h34:=rq (hh.dep 29 34 (by kernel_rfl) (by kernel_rfl))
  have hJ:=Hd hh.st; clear hh; go_simp; exact ⟨_,rfl,regs.bl_refl _,rfl,hJ.out⟩
 ·refine regs.StepOK.plain rfl fun L a w1 hh=>?_
  have h35:=rq (hh.dep 30 35 (by kernel_rfl) (by kernel_rfl))
  have hJ:=Hd hh.st; clear hh; go_simp; exact ⟨_,rfl,regs.bl_refl _,rfl,hJ.out⟩
 intro L w4 val hL hJ hR hv
 have h4:val 4=.bool true:=hv 31 4 (by kernel_rfl)
 have HR4:=Hd hR
 clear hv hL hJ hR
 simp only [regs.putAll,List.map_cons,List.map_nil,h4]
 simp only [Act.put,List.setIfInBounds_toArray,List.set_cons_zero,List.set_cons_succ]
 clear h4
 generalize val 5=v5,val 6=v6,val 7=v7,val 8=v8,val 9=v9,val 10=v10,val 11=v11,val 12=v12,val 13=v13,val 14=v14,val 15=v15,val 16=v16,val 17=v17,val 18=v18,val 19=v19,val 20=v20,val 21=v21,val 22=v22,val 23=v23,val 24=v24,val 25=v25,val 26=v26,val 27=v27,val 28=v28,val 29=v29,val 30=v30,val 31=v31,val 32=v32,val 33=v33,val 34=v34,val 35=v35 at *
 go_wp2_with (fail)
 go_ret
 exact ⟨true,rfl,⟨fun _=>⟨HA.out,HN.out⟩,fun _=>rfl⟩,HR4.out⟩
end
end Go.Proofs.YthpifjcddgmjnaaGreat
namespace Go.Proofs.YthpifjcddgmjnaaGreat
open Go.RowKit pxm imm trm Go.Maps
theorem eqN_iff {n1 n2:Nd}:eqN n1 n2=true↔n1=n2:=by
 obtain ⟨m1,o1,h1,c1,r1,k1,W1,H1,p1,iw1,ih1,l1⟩:=n1
 obtain ⟨m2,o2,h2,c2,r2,k2,W2,H2,p2,iw2,ih2,l2⟩:=n2
 unfold eqN eqNd eqLk eqB
 simp only [Bool.and_eq_true,decide_eq_true_eq,beq_iff_eq,Nd.mk.injEq,Lk.mk.injEq]
 constructor
 ·rintro ⟨a,b,c,d,e,f,g,h,i,j,k,l⟩
  exact ⟨a,c,d,e,b,f,g,h,by omega,j,k,l⟩
 ·rintro ⟨a,b,c,d,e,f,g,h,i,j,k,l⟩
  exact ⟨a,e,b,c,d,f,g,h,by omega,j,k,l⟩
theorem eqN_self (n:Nd):eqN n n=true:=eqN_iff.2 rfl
theorem same_self (x:PSc):same x x:=⟨fun _=>rfl,fun _ _=>eqN_self _⟩
def Lk.o:Lk:=⟨0,0,0,0,0,0,[]⟩
def Op9.o:Op9:=⟨0,0,0,0,Mp.o,Bx.o,false,0,Lk.o⟩
def PSc.new:PSc:=⟨[],fun _=>Nd.plain,fun _=>Mp.one⟩
theorem fit_lko:Fit { Nd.plain with lk:=Lk.o }:=⟨by decide,(by intro z hz; cases hz),by decide⟩
theorem PSc.new_sane:Sane PSc.new:=⟨ok_nil,fun _=>plain_chk,fun i hi _ _=>by
 have:i=0:=by
  rcases has_iff.1 hi with e | e
  ·exact e
  ·cases e
 subst this
 rw [worldOf_0]
 rfl,fun _=>fit_plain⟩
def aw1:Op9:={ Op9.o with k:=1,i:=1 }
def aw2:Op9:={ Op9.o with k:=4,i:=1,m:=⟨65536,0,0,65536,196608,0⟩ }
def aw3:Op9:={ Op9.o with k:=4,m:=⟨65536,0,0,65536,0,65536⟩ }
def aw4:Op9:={ Op9.o with k:=8,on:=true }
def aw5:Op9:={ Op9.o with k:=1,i:=2 }
theorem aw_ok {o:Op9} (h:o=aw1∨o=aw2∨o=aw3∨o=aw4∨o=aw5):OpOk o:=by
 rcases h with rfl | rfl | rfl | rfl | rfl <;> exact ⟨⟨by decide,by decide⟩,⟨by decide,by decide⟩,fit_lko⟩
def awT:T:=[(1,0)]
def awN:Int→Nd:=upd (upd (upd (fun _=>Nd.plain) 1 Nd.plain) 1 (setN Nd.plain aw2)) 0 (setN Nd.plain aw3)
theorem aw_all:allS 2 PSc.new [aw1,aw2,aw3]=(⟨awT,awN,upd (fun _=>Mp.one) 1 Mp.o⟩,3,0):=by
 have e1:doS 2 PSc.new aw1=(⟨awT,upd (fun _=>Nd.plain) 1 Nd.plain,upd (fun _=>Mp.one) 1 Mp.o⟩,0):=rfl
 have e2:doS 2 ⟨awT,upd (fun _=>Nd.plain) 1 Nd.plain,upd (fun _=>Mp.one) 1 Mp.o⟩ aw2=(⟨awT,upd (upd (fun _=>Nd.plain) 1 Nd.plain) 1 (setN Nd.plain aw2),upd (fun _=>Mp.one) 1 Mp.o⟩,0):=rfl
 have e3:doS 2 ⟨awT,upd (upd (fun _=>Nd.plain) 1 Nd.plain) 1 (setN Nd.plain aw2),upd (fun _=>Mp.one) 1 Mp.o⟩ aw3=(⟨awT,awN,upd (fun _=>Mp.one) 1 Mp.o⟩,0):=rfl
 rw [allS_cons,e1]
 simp only [ne_eq,not_true_eq_false,if_false]
 rw [allS_cons,e2]
 simp only [ne_eq,not_true_eq_false,if_false]
 rw [allS_cons,e3]
 simp only [ne_eq,not_true_eq_false,if_false]
 rfl
theorem aw_ids:1∈ids awT:=by decide
theorem aw_okT:Ok awT:=(addS_ok ok_nil 1 0 0).1
theorem aw_world1:worldOf awT awN 1=some ⟨65536,0,0,65536,196608,65536⟩:=by
 rw [worldOf_step aw_okT _ aw_ids,show par awT 1=0 from by decide,worldOf_0]
 decide
theorem aw_has {i:Int} (h:has awT i=true):i=0∨i=1:=by
 rcases has_iff.1 h with e | e
 ·exact .inl e
 ·right
  simpa [awT,ids] using e
noncomputable def awY:PSc:=(setSt ⟨awT,awN,upd (fun _=>Mp.one) 1 Mp.o⟩).1
theorem aw_set:setSt ⟨awT,awN,upd (fun _=>Mp.one) 1 Mp.o⟩=(awY,0):=by
 have:(setSt ⟨awT,awN,upd (fun _=>Mp.one) 1 Mp.o⟩).2=0:=by
  unfold setSt
  rw [if_pos fun i hi=>?_]
  rcases aw_has hi with rfl | rfl
  ·show worldOf awT awN 0≠none
   rw [worldOf_0]; simp
  ·show worldOf awT awN 1≠none
   rw [aw_world1]; simp
 show setSt _=_
 rw [← this]
 rfl
theorem awY_t:awY.t=awT:=setSt_t _
theorem awY_nd:awY.nd=awN:=setSt_nd _
theorem awY_ws:awY.ws 1=⟨65536,0,0,65536,196608,65536⟩:=by
 have h:=aw_set
 unfold awY
 unfold setSt at h ⊢
 split
 ·show (worldOf awT awN 1).getD (upd (fun _=>Mp.one) 1 Mp.o 1)=_
  rw [aw_world1]
  rfl
 ·rename_i h1
  rw [if_neg h1] at h
  injection h with _ h
  cases h
theorem aw_apply:applyS 2 setSt PSc.new [aw1,aw2,aw3]=(awY,3,0):=by
 unfold applyS
 rw [if_neg (by decide),aw_all,if_neg (by simp),aw_set,if_neg (by simp)]
 rfl
theorem aw_apply2 {x:PSc} (ht:x.t=awT):applyS 2 setSt x [aw4,aw5]=(x,1,36):=by
 obtain ⟨t,nd,ws⟩:=x
 subst ht
 have e1:doS 2 ⟨awT,nd,ws⟩ aw4=(⟨awT,upd nd 0 (setN (nd 0) aw4),ws⟩,0):=rfl
 have e2:doS 2 ⟨awT,upd nd 0 (setN (nd 0) aw4),ws⟩ aw5=(⟨awT,upd nd 0 (setN (nd 0) aw4),ws⟩,36):=rfl
 have e3:allS 2 ⟨awT,nd,ws⟩ [aw4,aw5]=(⟨awT,upd nd 0 (setN (nd 0) aw4),ws⟩,1,36):=by
  rw [allS_cons,e1]
  simp only [ne_eq,not_true_eq_false,if_false]
  rw [allS_cons,e2,if_pos (by simp)]
 unfold applyS
 rw [if_neg (by decide),e3,if_pos (by simp)]
 rfl
theorem awY_sane:Sane awY:=by
 have:=PSc.new_sane.apply (M:=2) (l:=[aw1,aw2,aw3]) fun o ho=>by
  simp only [List.mem_cons,List.not_mem_nil,or_false] at ho
  exact aw_ok (by rcases ho with h | h | h <;> simp [h])
 rw [aw_apply] at this
 exact this
end Go.Proofs.YthpifjcddgmjnaaGreat
