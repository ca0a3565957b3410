import Derived.Test.YtehmblcbccceaaaGreatLScj
namespace Go.Proofs.YtehmblcbccceaaaGreat
open Go.RowKit pxm imm trm Go.Maps
theorem es_ge {es : LV} {t : T} (ok : Ok t) (h : ∀ i,has t i = true → omap.look es i ≠ none) : t.length + 1 ≤ es.length := by
  have hn : (0 :: ids t).Nodup := List.nodup_cons.2 ⟨fun e => ok.ne0 e rfl,ok.nd⟩
  have := len_of_sub (m := es.map (·.1)) hn fun i hi => by
    have hh : has t i = true := has_iff.2 (by rcases List.mem_cons.1 hi with e | e; exact .inl e; exact .inr e)
    cases hl : omap.look es i with
    | none => exact absurd hl (h i hh)
    | some v => exact List.mem_map.2 ⟨(i,v),omap.look_mem hl,rfl⟩
  rwa [List.length_cons,ids_len,List.length_map] at this
theorem SceneAt.es_len {es : LV} {t : T} (ok : Ok t) (hr : omap.Rises lt es) (h1 : ∀ i,omap.look es i ≠ none → has t i = true) (h2 : ∀ i,has t i = true → ∃ v,omap.look es i = some v) : es.length = t.length + 1 :=
  Nat.le_antisymm (es_le hr h1) (es_ge ok fun i hi => by obtain ⟨v,e⟩ := h2 i hi; rw [e]; simp)
section
variable {w : World} {g b m : Nat} {s : Sh} {Z : ZZ} {x : PSc} {g2 b2 m2 : Nat} {s2 : Sh} {Z2 : ZZ} {y : PSc}
set_option maxHeartbeats 4000000 in
set_option maxRecDepth 100000 in
theorem mequal (h : SceneAt w g b m s Z x) (h2 : SceneAt w g2 b2 m2 s2 Z2 y) (hfx : ∀ i,Fit (x.nd i)) (hfy : ∀ i,Fit (y.nd i)) (hal : ∀ q,kids x.t q = kids y.t q) :
    Calls Tryz.prog 55 #[.map (some m),.map (some m2),.func (.func 56) #[] #[]] w fun e w' => ∃ r,e = .returned (.bool r) ∧ (r = true ↔ ∀ i,has x.t i = true → eqN (x.nd i) (y.nd i) = true) ∧ Below w.heap.size w w' := by
  obtain ⟨es,hm,h11,h12⟩ := h.map
  obtain ⟨fs,hm2,h21,h22⟩ := h2.map
  have hlen : fs.length = es.length := by
    rw [SceneAt.es_len h.tree.ok hm.rises h11 (fun i hi => (h12 i hi).imp fun v h => h.1),SceneAt.es_len h2.tree.ok hm2.rises h21 (fun i hi => (h22 i hi).imp fun v h => h.1),alike_len h.tree.ok h2.tree.ok hal]
  have HS := Lib.hid h
  have HS2 := Lib.hid h2
  have HFX := Lib.hid hfx
  have HFY := Lib.hid hfy
  have HAL := Lib.hid hal
  have HM := Lib.hid (And.intro hm (And.intro h11 h12))
  have HM2 := Lib.hid hm2
  have hl1 := fun ty => hm.len und_places ty
  have hl2 := fun ty => hm2.len und_places ty
  rw [hlen] at hl2
  have hown := hm.own
  have hsm : ∀ args w,(callFunc 56 args).run Tryz.prog w = .ok (.enter 56 args) w := enters_of Tryz.func56 (by kernel_rfl) rfl
  clear h h2 hfx hfy hal hm hm2 h11 h12 h21 h22 hlen
  go_enter Tryz.func55,Tryz.ntmps55
  go_wp2_with (at_range; refine wpList_range_own _ rfl _ tPlaces rfl 3 tPlaced keyedI und_places anyE m es.length (mapV es) rfl hown ?_; intro w0 hrg0 hg0 hs0)
  go_frame
  have hb0 : Below w.heap.size w w0 := ⟨hg0.os,hg0.tape,hg0.output,hg0.size,fun k hk => hg0.block k hk (by simp)⟩
  have HB0 := Lib.hid hb0
  have HRG := Lib.hid hrg0
  clear hrg0 hg0 hs0 hb0 hl1 hl2 hown
  go_loopw [] (fun wr => ∃ (left : Lit → Bool) (cnt : Nat),Hid (wr.ranges Tryz.prog 3 anyE m w.heap.size es.length (mapV es) left cnt) ∧ Hid (Below w.heap.size w wr) ∧ Hid (∀ i,has x.t i = true → left (.int .i64 i) = false → eqN (x.nd i) (y.nd i) = true)) (fun wr => wr.rangeLeft m w.heap.size)
  case atStart =>
    refine ⟨_,_,HRG.out,HB0.out,fun i hi hf => ?_⟩
    obtain ⟨v,hv,-⟩ := HM.out.2.2 i hi
    rw [has_mapV_of hv] at hf
    cases hf
  case round =>
    obtain ⟨left,cnt,hrg,hbw,hso⟩ := hrel
    generalize wr = wA at *
    clear HRG HB0
    go_wp2_with (at_next; refine wpList_next_ranges _ rfl _ rfl 3 keyedI anyE (Value.int .i64) id (fun key kl hk => by obtain ⟨x,hx,_⟩ := Maps.keyOf_int_inv Tryz.underlying3 hk; exact ⟨x,hx⟩) (fun v y hv => ⟨v,rfl⟩) m w.heap.size es.length (mapV es) left cnt rfl hrg.out ?_ ?_)
    · intro _ hl0
      have HL0 := Lib.hid hl0
      clear hl0
      go_wp2_with (fail)
      go_ret
      exact ⟨true,rfl,⟨fun _ i hi => hso.out i hi (HL0.out _),fun _ => rfl⟩,hbw.out⟩
    · intro x2 c2 kl yd yp w2 cnt1 hkey hlk hv hat hrg1 hlt hg1 hs1 hen
      obtain ⟨rfl,hx64,hlb⟩ := cameV hkey hv hat
      have hhx : has x.t x2 = true := HM.out.2.1 x2 (by rw [hlb]; simp)
      have hhy : has y.t x2 = true := by rw [← alike_has HAL.out]; exact hhx
      obtain ⟨n1,A1,c1,u1,hc2,hr1,hn1⟩ : ∃ n1 A1 c1 u1,c2 = .agg (plcs n1 A1 c1 u1).toArray ∧ Row eW w A1 n1.lk.l ∧ x.nd x2 = n1 := by
        obtain ⟨v,e,A,c,e2,hv2⟩ := HM.out.2.2 x2 hhx
        rw [hlb] at e
        exact ⟨x.nd x2,A,c,x.ws x2,(Option.some.inj e).trans e2,hv2.1,rfl⟩
      subst hc2
      have hb1 : Below w.heap.size w w2 := hbw.out.trans ⟨hg1.os,hg1.tape,hg1.output,hg1.size,fun k hk => hg1.block k (by have := hbw.out.size; omega) (fun e => by have := Option.some.inj e; omega)⟩
      obtain ⟨A2,d2,hlk2⟩ := HS2.out.look_b hx64 hhy
      obtain ⟨n2,hn2⟩ : ∃ n2,y.nd x2 = n2 := ⟨_,rfl⟩
      obtain ⟨u2,hu2⟩ : ∃ u2,y.ws x2 = u2 := ⟨_,rfl⟩
      rw [hn2,hu2] at hlk2
      have HLK2 := Lib.hid hlk2
      have HF1 : Hid (n1.lk.l.length ≤ 300) := by rw [← hn1]; exact (HFX.out x2).len
      have HF2 : Hid (n2.lk.l.length ≤ 300) := by rw [← hn2]; exact (HFY.out x2).len
      have HR1 := Lib.hid hr1
      have HNN := Lib.hid (And.intro hn1 hn2)
      have HHX := Lib.hid hhx
      have HB1 := Lib.hid hb1
      have HRG1 := Lib.hid hrg1
      have HME : Hid (w2.rangeLeft m w.heap.size < wA.rangeLeft m w.heap.size) := by show _ < _; rw [hrg1.left_eq,hrg.out.left_eq]; exact hlt
      have HZ1 : Hid (Blk (w2.alloc (.cells #[.int .i64 0,.int .i64 0,.int .i64 0,.int .i64 0,.int .i64 0,.int .i64 0,.int .i64 0,.bool false,.bool false,.int .i64 0,.int .i64 0,.int .i64 0,.int .i64 0,.int .i64 0,.int .i64 0,.int .i64 0,.int .u32 0,.int .i64 0,.int .i64 0,.slice none 0 0,.int .i64 0,.int .i64 0,.int .i64 0,.int .i64 0,.int .i64 0,.int .i64 0] 128)) w2.heap.size [.int .i64 0,.int .i64 0,.int .i64 0,.int .i64 0,.int .i64 0,.int .i64 0,.int .i64 0,.bool false,.bool false,.int .i64 0,.int .i64 0,.int .i64 0,.int .i64 0,.int .i64 0,.int .i64 0,.int .i64 0,.int .u32 0,.int .i64 0,.int .i64 0,.slice none 0 0,.int .i64 0,.int .i64 0,.int .i64 0,.int .i64 0,.int .i64 0,.int .i64 0]) := blk_new w2 [.int .i64 0,.int .i64 0,.int .i64 0,.int .i64 0,.int .i64 0,.int .i64 0,.int .i64 0,.bool false,.bool false,.int .i64 0,.int .i64 0,.int .i64 0,.int .i64 0,.int .i64 0,.int .i64 0,.int .i64 0,.int .u32 0,.int .i64 0,.int .i64 0,.slice none 0 0,.int .i64 0,.int .i64 0,.int .i64 0,.int .i64 0,.int .i64 0,.int .i64 0] _
      have HBa : Hid (Below w2.heap.size w2 (w2.alloc (.cells #[.int .i64 0,.int .i64 0,.int .i64 0,.int .i64 0,.int .i64 0,.int .i64 0,.int .i64 0,.bool false,.bool false,.int .i64 0,.int .i64 0,.int .i64 0,.int .i64 0,.int .i64 0,.int .i64 0,.int .i64 0,.int .u32 0,.int .i64 0,.int .i64 0,.slice none 0 0,.int .i64 0,.int .i64 0,.int .i64 0,.int .i64 0,.int .i64 0,.int .i64 0] 128))) := (Below.refl _ _).alloc (Nat.le_refl _) _
      clear hkey hlk hv hat hrg1 hlt hg1 hs1 hlb hx64 hhx hhy hr1 hn1 hn2 hu2 hb1 hlk2
      go_upto_region 6 with (first | (with_reducible show wpList _ _ _ (Oper.mk _ (Op.store _ _ _) _ _ _ _ :: _) _ _; first | (refine wpl_stow 128 _ _ rfl rfl rfl _ 0 rfl (plcs n1 A1 c1 u1) rfl ([.int .i64 0,.int .i64 0,.int .i64 0,.int .i64 0,.int .i64 0,.int .i64 0,.int .i64 0,.bool false,.bool false,.int .i64 0,.int .i64 0,.int .i64 0,.int .i64 0,.int .i64 0,.int .i64 0,.int .i64 0,.int .u32 0,.int .i64 0,.int .i64 0,.slice none 0 0,.int .i64 0,.int .i64 0,.int .i64 0,.int .i64 0,.int .i64 0,.int .i64 0]) HZ1.out (plcs n1 A1 c1 u1) rfl (Nat.le_of_ble_eq_true rfl) (by kernel_rfl) (plcs_one _ _ _ _) ?_; intro w3 HW3 HK3)))
      have HB3 : Hid (Below w2.heap.size w2 w3) := HW3.out.below HBa.out (Nat.le_refl _)
      have HB03 : Hid (Below w.heap.size w w3) := HB1.out.trans (HB3.out.mono HB1.out.size)
      have hlk2 := (HLK2.out w3 HB03.out).2.1
      have HZ3 : Hid (Blk (w3.alloc (.cells #[.int .i64 0,.int .i64 0,.int .i64 0,.int .i64 0,.int .i64 0,.int .i64 0,.int .i64 0,.bool false,.bool false,.int .i64 0,.int .i64 0,.int .i64 0,.int .i64 0,.int .i64 0,.int .i64 0,.int .i64 0,.int .u32 0,.int .i64 0,.int .i64 0,.slice none 0 0,.int .i64 0,.int .i64 0,.int .i64 0,.int .i64 0,.int .i64 0,.int .i64 0] 128)) w3.heap.size [.int .i64 0,.int .i64 0,.int .i64 0,.int .i64 0,.int .i64 0,.int .i64 0,.int .i64 0,.bool false,.bool false,.int .i64 0,.int .i64 0,.int .i64 0,.int .i64 0,.int .i64 0,.int .i64 0,.int .i64 0,.int .u32 0,.int .i64 0,.int .i64 0,.slice none 0 0,.int .i64 0,.int .i64 0,.int .i64 0,.int .i64 0,.int .i64 0,.int .i64 0]) := blk_new w3 [.int .i64 0,.int .i64 0,.int .i64 0,.int .i64 0,.int .i64 0,.int .i64 0,.int .i64 0,.bool false,.bool false,.int .i64 0,.int .i64 0,.int .i64 0,.int .i64 0,.int .i64 0,.int .i64 0,.int .i64 0,.int .u32 0,.int .i64 0,.int .i64 0,.slice none 0 0,.int .i64 0,.int .i64 0,.int .i64 0,.int .i64 0,.int .i64 0,.int .i64 0] _
      have HBb : Hid (Below w3.heap.size w3 (w3.alloc (.cells #[.int .i64 0,.int .i64 0,.int .i64 0,.int .i64 0,.int .i64 0,.int .i64 0,.int .i64 0,.bool false,.bool false,.int .i64 0,.int .i64 0,.int .i64 0,.int .i64 0,.int .i64 0,.int .i64 0,.int .i64 0,.int .u32 0,.int .i64 0,.int .i64 0,.slice none 0 0,.int .i64 0,.int .i64 0,.int .i64 0,.int .i64 0,.int .i64 0,.int .i64 0] 128))) := (Below.refl _ _).alloc (Nat.le_refl _) _
      obtain ⟨k8,hk8⟩ : ∃ k8,w2.heap.size = k8 := ⟨_,rfl⟩
      rw [hk8] at HK3 ⊢
      clear HZ1 HBa HW3 hen hk8
      go_upto_region 7 with (first | (with_reducible show wpList _ _ _ (Oper.mk _ (Op.store _ _ _) _ _ _ _ :: _) _ _; first | (refine wpl_stow 128 _ _ rfl rfl rfl _ 0 rfl (plcs n2 A2 d2 u2) rfl ([.int .i64 0,.int .i64 0,.int .i64 0,.int .i64 0,.int .i64 0,.int .i64 0,.int .i64 0,.bool false,.bool false,.int .i64 0,.int .i64 0,.int .i64 0,.int .i64 0,.int .i64 0,.int .i64 0,.int .i64 0,.int .u32 0,.int .i64 0,.int .i64 0,.slice none 0 0,.int .i64 0,.int .i64 0,.int .i64 0,.int .i64 0,.int .i64 0,.int .i64 0]) HZ3.out (plcs n2 A2 d2 u2) rfl (Nat.le_of_ble_eq_true rfl) (by kernel_rfl) (plcs_one _ _ _ _) ?_; intro w4 HW4 HK4)))
      have HB4 : Hid (Below w3.heap.size w3 w4) := HW4.out.below HBb.out (Nat.le_refl _)
      have HB04 : Hid (Below w.heap.size w w4) := HB03.out.trans (HB4.out.mono HB03.out.size)
      have HK3b : Hid (Blk w4 k8 (plcs n1 A1 c1 u1)) := HK3.out.below' HB4.out
      have HB24 : Hid (Below w2.heap.size w2 w4) := HB3.out.trans (HB4.out.mono HB3.out.size)
      have HSN := Lib.hid (same_node n1 n2 A1 A2 c1 d2 u1 u2 HF1.out HF2.out w4 (Row.below HR1.out HB04.out) (HLK2.out w4 HB04.out).2.2.1)
      unfold plv at HSN
      obtain ⟨k9,hk9⟩ : ∃ k9,w3.heap.size = k9 := ⟨_,rfl⟩
      rw [hk9] at HK4 ⊢
      clear HZ3 HBb HW4 hlk2 hk9 HK3 HB3 HB4 HB03 HLK2 HR1
      go_wp2_with (first | (with_reducible show wpList _ _ _ (Oper.mk _ (Op.load _ _) _ _ _ _ :: _) _ _; first | (refine wpl_take 128 _ rfl rfl _ 0 rfl (plcs n1 A1 c1 u1) HK3b.out (plcs n1 A1 c1 u1) rfl _ Tryz.underlying128 rfl (by kernel_rfl) ?_) | (refine wpl_take 128 _ rfl rfl _ 0 rfl (plcs n2 A2 d2 u2) HK4.out (plcs n2 A2 d2 u2) rfl _ Tryz.underlying128 rfl (by kernel_rfl) ?_)))
      refine HSN.out.mono ?_
      rintro e w5 ⟨rfl,hb5⟩
      have HB5 : Hid (Below w.heap.size w w5) := HB04.out.trans (hb5.mono HB04.out.size)
      have HRG5 : Hid (w5.ranges Tryz.prog 3 anyE m w.heap.size es.length (mapV es) (fun z => left z && !z.sameKey (.int .i64 x2)) cnt1) := HRG1.out.kept (below_grown (HB24.out.trans (hb5.mono HB24.out.size))) (by simp) (by simp)
      have HME5 : Hid (w5.rangeLeft m w.heap.size < wA.rangeLeft m w.heap.size) := by show _ < _; rw [HRG5.out.left_eq,← HRG1.out.left_eq]; exact HME.out
      clear hb5 HSN HK3b HK4 HB24 HB04
      cases hq : eqN n1 n2 with
      | true =>
        have HSO5 : Hid (∀ i,has x.t i = true → (left (.int .i64 i) && !(Lit.int .i64 i).sameKey (.int .i64 x2)) = false → eqN (x.nd i) (y.nd i) = true) := fun i hi hl => by
          by_cases e : i = x2
          · rw [e,HNN.out.1,HNN.out.2]; exact hq
          · have : (Lit.int .i64 i).sameKey (.int .i64 x2) = false := by simp [Lit.sameKey,e]
            rw [this] at hl
            exact hso.out i hi (by simpa using hl)
        clear hq
        go_wp2_with (fail)
        go_roundw
        case rel => exact ⟨_,_,HRG5,HB5,HSO5⟩
        case measure => exact HME5.out
      | false =>
        have HNE : Hid (¬ ∀ i,has x.t i = true → eqN (x.nd i) (y.nd i) = true) := fun e => by
          have := e x2 HHX.out
          rw [HNN.out.1,HNN.out.2,hq] at this
          cases this
        clear hq
        go_wp2_with (fail)
        go_ret
        exact ⟨false,rfl,⟨fun e => (nomatch e),fun e => absurd e HNE.out⟩,HB5.out⟩
end
end Go.Proofs.YtehmblcbccceaaaGreat
