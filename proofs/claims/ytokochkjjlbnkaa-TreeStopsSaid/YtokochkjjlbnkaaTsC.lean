/-
  Layer 12: a node's walk, as an iterator.
-/
import Derived.Test.YtokochkjjlbnkaaTsB
namespace Go.Proofs.Ytokochkjjlbnkaa
open Go.RowKit trm itr Go.Shelf

attribute [local go_sem] Oper.semAt_some
theorem nil_or_snoc {α : Type} (l : List α) : l = [] ∨ ∃ m b, l = m ++ [b] := by
  rcases List.eq_nil_or_concat l with h | ⟨m, b, h⟩
  · exact .inl h
  · exact .inr ⟨m, b, by rw [h, List.concat_eq_append]⟩
set_option maxRecDepth 100000 in
set_option maxHeartbeats 4000000 in
theorem walk_iter {nb : Nat} {s : Sh} {H : Int → Prop} {P : Int → Option Int} {K : Int → List Int} {t : T} {i : Int} (ok : Ok t) (hi : i = 0 ∨ i ∈ ids t) (hn : t.length ≤ 10000)
    (hH : ∀ x ∈ trm.walk t i, H x ∧ K x = kids t x) {W : World} (hc : W.cell? ⟨nb, 0, none⟩ = some (.pointer (some ⟨s.g i, 0, none⟩))) (hN : Nds W s H P K) :
    IterL Try.prog 60 #[.pointer (some ⟨nb, 0, none⟩)] (walkE s.g (wd t i 0)) (ST sT) (KT kT) W := by
  intro lp J Jx hJ hJx hY h0
  have HY := Lib.hid hY
  have HJ := Lib.hid hJ
  have HJx := Lib.hid hJx
  have HN := Lib.hid hN
  have HOK := Lib.hid (And.intro ok (And.intro hi (And.intro hn hH)))
  have HL : Hid ((wd t i 0).length ≤ 10001) := by have := walk_le ok hi; show _ ≤ _; rw [wd_len]; omega
  obtain ⟨n0, hn0⟩ : ∃ n0, W.heap.size = n0 := ⟨_, rfl⟩
  obtain ⟨w0, hw0⟩ : ∃ w0, w0 = (W.alloc (.cells #[.pointer (some ⟨s.g i, 0, none⟩), .int .i64 0] tStep)).alloc (.cells #[.slice (some ⟨n0, 0, none⟩) 1 1] tSteps) := ⟨_, rfl⟩
  have hbw : Below W.heap.size W w0 := by rw [hw0]; exact ((Below.refl _ _).alloc (Nat.le_refl _) _).alloc (by simp) _
  have HJ0 : Hid (J 0 w0) := hJ _ _ _ h0 (ST.below hbw)
  have HN0 : Hid (Nds w0 s H P K) := hN.kt (KT.below hbw)
  have HB0 : Hid (BlkT w0 (n0 + 1) [.slice (some ⟨n0, 0, none⟩) 1 1] tSteps) := by
    show _ = _
    rw [hw0]
    have := heap_alloc_new (W.alloc (.cells #[.pointer (some ⟨s.g i, 0, none⟩), .int .i64 0] tStep)) (.cells #[.slice (some ⟨n0, 0, none⟩) 1 1] tSteps)
    rw [World.size_alloc, hn0] at this
    exact this
  have HS0 : Hid (StOwn n0 s.g w0 (.slice (some ⟨n0, 0, none⟩) 1 1) [(i, 0)]) := by
    have h1 : SOwn tStep 2 (stepC s.g) (W.alloc (.cells #[.pointer (some ⟨s.g i, 0, none⟩), .int .i64 0] tStep)) W.heap.size (.slice (some ⟨W.heap.size, 0, none⟩) 1 1) [(i, 0)] := SOwn.lit (enc := stepC s.g) (stepC_len _) W [(i, 0)] (Nat.le_refl _) (by show 1 ≤ maxLen; decide)
    have h2 := SOwn.below h1 ((Below.refl _ _).alloc (Nat.le_refl _) (.cells #[.slice (some ⟨n0, 0, none⟩) 1 1] tSteps))
    rw [← hw0, hn0] at h2
    exact h2
  clear hY hJ hJx hN ok hi hn hH hbw h0
  refine (callsIn_wide (n := 0)).1 (callsIn_of_wp_marks Try.func60 rfl trivial ?_ rfl)
  simp only [Try.ntmps60, List.size_toArray, List.length_cons, List.length_nil, Nat.reduceAdd, Nat.reduceSub, Array.replicate_succ, Array.replicate_zero, List.push_toArray, List.append_toArray, List.nil_append, List.cons_append]
  gi_wp2_with (fail)
  rw [show ((W.alloc (Obj.cells #[Value.pointer (some { block := s.g i, off := 0 }), Value.int IntKind.i64 0] 132)).alloc (Obj.cells #[Value.slice (some { block := n0, off := 0 }) 1 1] 133)) = w0 from hw0.symm]
  clear hw0 hc
  refine loop_idx (fun (m : Nat) (a : Act) (w : World) => ∃ (k : Nat) (st : List (Int × Nat)) (v : Value) (ds : List Deferred) (u4 u5 u11 u12 u13 u14 u15 u16 u17 u18 u19 u20 u21 u22 u23 u24 u25 u26 u27 u28 u29 u30 u31 u32 u33 u34 u35 u36 : Value), a = { tmps := #[.func (.yield lp) #[] #[], .pointer (some ⟨nb, 0, none⟩), undef, .pointer (some ⟨n0 + 1, 0, none⟩), u4, u5, undef, undef, .pointer (some ⟨s.g i, 0, none⟩), .agg #[.pointer (some ⟨s.g i, 0, none⟩), .int .i64 0], .slice (some ⟨n0, 0, none⟩) 1 1, u11, u12, u13, u14, u15, u16, u17, u18, u19, u20, u21, u22, u23, u24, u25, u26, u27, u28, u29, u30, u31, u32, u33, u34, u35, u36, undef, undef, undef, undef, undef, undef, undef, undef, undef, undef], defers := ds } ∧ m = (wd t i 0).length - k ∧ k ≤ (wd t i 0).length ∧
    Hid (J k w) ∧ Hid (rest t st = (wd t i 0).drop k) ∧ Hid (∀ p ∈ st, p.1 ∈ trm.walk t i) ∧ Hid (BlkT w (n0 + 1) [v] tSteps) ∧ Hid (StOwn n0 s.g w v st) ∧ Hid (Nds w s H P K) ∧ Hid (Marks n0 w ds)) ?_
    (m := (wd t i 0).length) ⟨0, [(i, 0)], _, [], _, _, _, _, _, _, _, _, _, _, _, _, _, _, _, _, _, _, _, _, _, _, _, _, _, _, _, _, rfl, rfl, Nat.zero_le _, HJ0, rest_one t i 0, fun p hp => by rw [List.mem_singleton.1 hp, walk_eq HOK.out.1]; exact List.mem_cons_self, HB0, HS0, HN0, trivial⟩
  clear HJ0 HN0 HB0 HS0 w0 HN
  rintro m a w ⟨k, st, v, ds, u4, u5, u11, u12, u13, u14, u15, u16, u17, u18, u19, u20, u21, u22, u23, u24, u25, u26, u27, u28, u29, u30, u31, u32, u33, u34, u35, u36, rfl, rfl, hk, HJk, HRS, HMem, HBX, HST, HND, HMK⟩
  obtain ⟨A, c, rfl, hl1, hl2, hrow⟩ := HST.out.row (stepC_len _)
  rcases nil_or_snoc st with rfl | ⟨st0, ⟨x, d⟩, rfl⟩
  · have hkk : k = (wd t i 0).length := by
      have h1 := HRS.out
      have h2 : ([] : List (Int × Nat)) = (wd t i 0).drop k := h1
      have h3 := congrArg List.length h2
      rw [List.length_drop, List.length_nil] at h3
      omega
    have cb := HBX.out.blk.cell 0
    simp only [List.getElem?_cons_zero, List.length_nil] at cb
    have HF : Hid (J (walkE s.g (wd t i 0)).length w) := by rw [walkE_len, ← hkk]; exact HJk
    have HZ := Lib.hid hn0
    clear hrow hl1 hl2 hkk HJk HRS hn0
    gi_wp2_with (fail)
    refine postM_end n0 HMK.out fun w' hb => ⟨_, results_none rfl _ _ _, ⟨_, rfl⟩, .inl (HJ.out _ _ _ HF.out (by rw [HZ.out]; exact ST.bk hb (Nat.le_refl _)))⟩
  · have e1 : (st0 ++ [(x, d)]).length = st0.length + 1 := by simp
    obtain ⟨g, off, rfl, hcell⟩ := hrow (by simp)
    have hlt : st0.length < (st0 ++ [(x, d)]).length := by simp
    have c1 := hcell st0.length hlt 0 (.pointer (some ⟨s.g x, 0, none⟩)) (by rw [List.getElem_append_right (Nat.le_refl _)]; simp [stepC])
    have c2 := hcell st0.length hlt 1 (.int .i64 (d : Nat)) (by rw [List.getElem_append_right (Nat.le_refl _)]; simp [stepC])
    have cb := HBX.out.blk.cell 0
    have fb := HBX.out.blk.free 0
    have zb := HBX.out.inside
    simp only [List.getElem?_cons_zero] at cb
    obtain ⟨v1, hv1⟩ : ∃ v1, v1 = Value.slice (some ⟨g, off, none⟩) st0.length c := ⟨_, rfl⟩
    obtain ⟨wa, hwa⟩ : ∃ wa, wa = w.setCell ⟨n0 + 1, 0, none⟩ v1 := ⟨_, rfl⟩
    obtain ⟨w1, hw1⟩ : ∃ w1, w1 = wa.alloc (.cells #[.pointer (some ⟨s.g x, 0, none⟩), .int .i64 (d : Nat)] 132) := ⟨_, rfl⟩
    have hsz : wa.heap.size = w.heap.size := by rw [hwa]; simp [World.setCell]
    have hba : Below wa.heap.size wa w1 := by rw [hw1]; exact (Below.refl _ _).alloc (Nat.le_refl _) _
    have bxa : BlkT wa (n0 + 1) [v1] tSteps := by rw [hwa]; exact HBX.out.set 0 v1
    have HT1 : Hid (ST sT n0 w w1) := by
      have h1 : ST sT n0 w wa := by rw [hwa]; exact ST.set (a := ⟨n0 + 1, 0, none⟩) HBX.out (by decide) (Nat.le_succ _) v1
      exact h1.trans (ST.below hba)
    have HBX1 : Hid (BlkT w1 (n0 + 1) [v1] tSteps) := bxa.stays (hba.block _ (by rw [hsz]; exact zb))
    have HBS1 : Hid (BlkT w1 w.heap.size [.pointer (some ⟨s.g x, 0, none⟩), .int .i64 (d : Nat)] tStep) := by
      have := BlkT.new wa [.pointer (some ⟨s.g x, 0, none⟩), .int .i64 (d : Nat)] tStep
      rw [hsz] at this
      rw [hw1]
      exact this
    have HST1 : Hid (StOwn n0 s.g w1 v1 st0) := by
      have h1 := SOwn.take (stepC_len _) HST.out (m := st0.length) (by simp)
      rw [List.take_left] at h1
      have h2 : StOwn n0 s.g wa v1 st0 := by
        rw [hwa, hv1]
        refine SOwn.stays h1 fun k' hk' => heap_setCell_other _ _ _ _ fun (e : k' = n0 + 1) => ?_
        rcases h1.2 with ⟨e', _⟩ | ⟨g', cap, cur, e', _, hb', _⟩
        · rw [e'] at hk'
          cases hk'
        · rw [e'] at hk'
          have hk2 : g' = k' := Option.some.inj hk'
          rw [hk2, e] at hb'
          have := HBX.out.symm.trans hb'
          simp only [Option.some.injEq, Obj.cells.injEq] at this
          exact absurd this.2.1 (by decide)
      exact SOwn.below h2 hba
    have HNE1 : Hid (v1.ownBlock ≠ some w.heap.size) := fun e => by
      have h1 := SOwn.take (stepC_len _) HST.out (m := st0.length) (by simp)
      rw [hv1] at e
      have := (SOwn.block h1 e).2
      omega
    have HND1 : Hid (Nds w1 s H P K) := kt_st HND.out HT1.out
    have HMK1 : Hid (Marks n0 w1 ds) := HMK.out.kb (KB.trans (B := wa) (by rw [hwa]; exact KB.set (a := ⟨n0 + 1, 0, none⟩) HBX.out rfl v1) (KB.below hba))
    have HJ1 : Hid (J k w1) := HJ.out _ _ _ HJk.out (by rw [hn0]; exact HT1.out)
    have hrs := HRS.out
    rw [rest_snoc, wd_eq HOK.out.1] at hrs
    have hkl : k < (wd t i 0).length := by
      have h3 := congrArg List.length hrs
      rw [List.length_drop] at h3
      simp at h3
      omega
    have hkx : (wd t i 0)[k] = (x, d) := by
      have h3 : ((wd t i 0).drop k)[0]? = some (x, d) := by rw [← hrs]; rfl
      rw [List.getElem?_drop, Nat.add_zero, List.getElem?_eq_getElem hkl] at h3
      exact Option.some.inj h3
    have HRS1 : Hid ((((kids t x).flatMap fun k => wd t k (d + 1)) ++ rest t st0) = (wd t i 0).drop (k + 1)) := by
      show _ = _
      rw [← List.drop_drop, ← hrs]
      rfl
    have hkw : k < (walkE s.g (wd t i 0)).length := by rw [walkE_len]; exact hkl
    obtain ⟨fn, tmps, assign, body, hy, hR⟩ := HY.out k hkw w1 HJ1.out
    rw [walkE_at] at hy
    simp only [hkx] at hy
    rw [hw1, hwa, hv1] at hy
    have hE : (w.setCell ⟨n0 + 1, 0, none⟩ (.slice (some ⟨g, off, none⟩) st0.length c)).alloc (.cells #[.pointer (some ⟨s.g x, 0, none⟩), .int .i64 (d : Nat)] 132) = w1 := by rw [hw1, hwa, hv1]
    have HR := Lib.hid hR
    have HE := Lib.hid hE
    have HV1 := Lib.hid hv1
    have HX : Hid (x ∈ trm.walk t i) := HMem.out (x, d) (by simp)
    have HMem0 : Hid (∀ p ∈ st0, p.1 ∈ trm.walk t i) := fun p hp => HMem.out p (List.mem_append_left _ hp)
    have HKL := Lib.hid hkl
    have HDB : Hid (d ≤ 10000) := by
      have h1 : (x, d) ∈ wd t i 0 := by rw [← hkx]; exact List.getElem_mem hkl
      have h2 := wd_dep h1
      have h3 : x = 0 ∨ x ∈ ids t := by
        rcases (walk_mem HOK.out.1 HOK.out.2.1).1 HX.out with e | e
        · rw [e]; exact HOK.out.2.1
        · exact .inr (within_has e).1
      have h4 := depth_le HOK.out.1 h3
      have h5 := HOK.out.2.2.1
      show _ ≤ _
      omega
    have HSL : Hid (st0.length ≤ 10001) := by
      have h1 := rest_len HOK.out.1 st0
      have h2 := congrArg List.length hrs
      have h3 := HL.out
      rw [List.length_drop] at h2
      simp at h2
      show _ ≤ _
      omega
    have HSL2 : Hid (∀ l2 : List (Int × Nat), (st0 ++ l2).length ≤ 10001 + l2.length) := fun l2 => by have := HSL.out; rw [List.length_append]; omega
    rw [e1] at cb hl1
    rw [Nat.add_zero] at c1
    have hsl : (st0.length : Int) ≤ 10001 := by have := HSL.out; omega
    have hlc : st0.length + 1 ≤ c := hl1
    clear hw1 hwa hv1 hsz hba bxa HT1 hrs hkx hkw hR hE hkl hcell hrow hlt e1 HJk HRS HMem HBX HST HND HMK hl1 hl2 hk HJ1
    generalize st0.length = sl at *
    gi_wp2_with (fail)
    rw [HE.out]
    refine ⟨rfl, HR.out.mono ?_⟩
    rintro e W3 ⟨hf3, (⟨rfl, hJ3, hk3⟩ | ⟨rfl, hJx3⟩)⟩
    · have HJ3 := Lib.hid hJ3
      have HMK3 : Hid (Marks n0 W3 ds) := Marks.kbf (by rw [← hn0]; exact hf3) HMK1.out
      have HBX3 : Hid (BlkT W3 (n0 + 1) [v1] tSteps) := HBX1.out.kt hk3 (by decide)
      have HBS3 : Hid (BlkT W3 w.heap.size [.pointer (some ⟨s.g x, 0, none⟩), .int .i64 (d : Nat)] tStep) := HBS1.out.kt hk3 (by decide)
      have HST3 : Hid (StOwn n0 s.g W3 v1 st0) := SOwn.kt HST1.out hk3 (by decide)
      have HND3 : Hid (Nds W3 s H P K) := HND1.out.kt hk3
      have hxH := HOK.out.2.2.2 x HX.out
      have hnx := HND3.out x hxH.1
      obtain ⟨A2, cK, hv2, -, -, hat2⟩ := hnx.own.at_
      rw [hxH.2, ks_len] at hv2
      have s0 := HBS3.out.blk.cell 0
      have x2 := hnx.blk.blk.cell 2
      have xi := hnx.blk.inside
      have sz := HBS3.out.inside
      simp only [List.getElem?_cons_succ, List.getElem?_cons_zero] at s0 x2
      rw [hv2] at x2
      have HKX : Hid ((kids t x).length ≤ 10000) := Nat.le_trans (kids_le t x) HOK.out.2.2.1
      obtain ⟨ll, hll⟩ : ∃ ll, (kids t x).map s.g = ll := ⟨_, rfl⟩
      have hlll : (kids t x).length = ll.length := by rw [← hll, List.length_map]
      have HBK : Hid (∀ (bx : Nat) (W' : World), W'.cell? ⟨bx, 0, none⟩ = some (.slice A2 ll.length cK) → (∀ (k : Nat) (cur : Array Value) (fr : Nat × Nat), W3.heap[k]? = some (.cells cur tPtr fr) → W'.heap[k]? = W3.heap[k]?) → Back bx A2 cK ll W') := fun bx W' h1 h2 => by
        refine ⟨h1, fun j hj => ?_⟩
        obtain ⟨g2, e2, ho2, hc2⟩ := hat2 j (by rw [hxH.2, ks_len, hlll]; exact hj)
        refine ⟨g2, e2, ?_⟩
        obtain ⟨cur, fr, ht⟩ := hnx.own.typed ho2
        have : W'.cell? ⟨g2, j, none⟩ = W3.cell? ⟨g2, j, none⟩ := by simp only [World.cell?, h2 g2 cur fr ht]
        rw [this, hc2]
        have hkj : (ks s (K x))[j]'(by rw [hxH.2, ks_len, hlll]; exact hj) = some ll[j] := by
          rw [ks_get]
          simp only [hxH.2]
          congr 1
          rw [← List.getElem_map (f := s.g) (h := by rw [List.length_map, hlll]; exact hj)]
          simp only [hll]
        rw [hkj]
        rfl
      rw [hlll] at x2
      have HLL := Lib.hid (And.intro hll hlll)
      clear hJ3 hk3 hf3 hxH hnx hat2 hv2 hll hlll
      gi_wp2_with (fail)
      refine ⟨trivial, rfl, callsIn_wide.2 ((back_call A2 ll.length cK W3).mono ?_)⟩
      rintro e A0 ⟨rfl, hA0⟩
      have hbA : Below W3.heap.size W3 A0 := by rw [hA0]; exact (Below.refl _ _).alloc (Nat.le_refl _) _
      have hbx : BlkT A0 W3.heap.size [.slice A2 ll.length cK] 82 := by rw [hA0]; exact BlkT.new W3 _ _
      have HJA : Hid (J (k + 1) A0) := HJ.out _ _ _ HJ3.out (by rw [hn0]; exact ST.below hbA)
      have HMKA : Hid (Marks n0 A0 ds) := HMK3.out.kb (KB.below hbA)
      have HBXA : Hid (BlkT A0 (n0 + 1) [v1] tSteps) := HBX3.out.stays (hbA.block _ HBX3.out.inside)
      have HBSA : Hid (BlkT A0 w.heap.size [.pointer (some ⟨s.g x, 0, none⟩), .int .i64 (d : Nat)] tStep) := HBS3.out.stays (hbA.block _ sz)
      have HSTA : Hid (StOwn n0 s.g A0 v1 st0) := SOwn.below HST3.out hbA
      have HNDA : Hid (Nds A0 s H P K) := HND3.out.kt (KT.below hbA)
      have hnA : n0 ≤ A0.heap.size := by have := HBXA.out.inside; omega
      have HBKA : Hid (∀ W', (∀ (k : Nat) (cur : Array Value) (ty : TypeId) (fr : Nat × Nat), sT ty = false → A0.heap[k]? = some (.cells cur ty fr) → W'.heap[k]? = A0.heap[k]?) → Back W3.heap.size A2 cK ll W') := fun W' h1 => by
        have hb' : BlkT W' W3.heap.size [.slice A2 ll.length cK] 82 := hbx.stays (h1 _ _ _ _ (by decide) hbx)
        refine HBK.out _ W' (hb'.blk.cell 0) fun k cur fr hk => ?_
        have e1 := hbA.block k (Array.getElem?_eq_some_iff.1 hk).1
        exact (h1 k cur tPtr fr (by decide) (e1.trans hk)).trans e1
      have hlt2 : ∀ D, mk D ∈ ds → D < A0.heap.size := HMKA.out.lt
      have HA0 := Lib.hid hnA
      have HLT := Lib.hid hlt2
      clear hbA hbx hA0 hnA hlt2 HBK HBX3 HBS3 HST3 HND3 HMK3 HJ3 HBX1 HBS1 HST1 HND1 HMK1 cb fb zb c1 c2 s0 x2 xi sz
      gi_wp2_with (fail)
      refine (wpIn_wide (n := 0)).2 (wp_range (gf := 75) (lb := #[.pointer (some ⟨W3.heap.size, 0, none⟩)]) rfl (enters_of Try.func75 (by kernel_rfl) rfl) (es := backE ll) (R := fun _ => Eq)
        (Kp := fun A' B => Back W3.heap.size A2 cK ll A' → Back W3.heap.size A2 cK ll B) (fun W1 hb => back_iter (by have := HKX.out; have := HLL.out.2; omega) (HBKA.out W1 fun k cur ty fr _ hk => (hb.keep hk rfl).trans hk.symm)) (fun h k x => k (h x)) (fun A B hb h => h.bk hb) (fun n A B e k o _ hk _ => e ▸ hk)
        (fun e he => by obtain ⟨j, _, rfl⟩ := List.mem_map.1 he; rfl)
        (fun j W9 => ST sT n0 A0 W9 ∧ (∃ v', BlkT W9 (n0 + 1) [v'] tSteps ∧ StOwn n0 s.g W9 v' (st0 ++ ((kids t x).reverse.take j).map fun y => (y, d + 1)) ∧ v'.ownBlock ≠ some w.heap.size) ∧ BlkT W9 w.heap.size [.pointer (some ⟨s.g x, 0, none⟩), .int .i64 (d : Nat)] tStep ∧ Marks n0 W9 ds)
        (fun _ _ _ => False) (fun j A B h hr => ?hI) (fun _ _ _ _ h _ => h.elim) ⟨ST.refl _ _ _, ⟨v1, HBXA.out, by rw [List.take_zero, List.map_nil, List.append_nil]; exact HSTA.out, HNE1.out⟩, HBSA.out, HMKA.out⟩ ?a1 ?assign ?body ?done (fun _ _ _ _ _ _ h _ => h.elim))
      case hI =>
        obtain ⟨h1, ⟨v', h2, h3, hne⟩, h4, h5⟩ := h
        rcases hr with ⟨_, _, rfl⟩ | hb
        · exact ⟨h1, ⟨v', h2, h3, hne⟩, h4, h5⟩
        · exact ⟨h1.trans (ST.bk hb HA0.out), ⟨v', h2.bk hb, SOwn.bk h3 hb, hne⟩, h4.bk hb, h5.bk hb HLT.out⟩
      case assign =>
        intro l j hj W9 KK hKK
        rw [backE_at]
        gi_wp2
        exact hKK
      case done =>
        rintro D W9 hD ⟨h1, ⟨v', h2, h3, hne⟩, h4, h5⟩ hd
        have hkl := HKL.out
        rw [backE_len, ← HLL.out.2, List.take_of_length_le (by simp)] at h3
        refine ⟨(wd t i 0).length - (k + 1), by omega, k + 1, _, v', mk D :: ds, _, _, _, _, _, _, _, _, _, _, _, _, _, _, _, _, _, _, _, _, _, _, _, _, _, _, _, _, rfl, rfl, by omega, HJ.out _ _ _ HJA.out (by rw [hn0]; exact h1), by show _ = _; rw [rest_push]; exact HRS1.out, fun p hp => ?_, h2, h3, kt_st HNDA.out h1, ⟨D, rfl, by have := HA0.out; omega, hd, fun hm => by have := HLT.out D hm; omega⟩, h5⟩
        rcases List.mem_append.1 hp with hp | hp
        · exact HMem0.out p hp
        · obtain ⟨y, hy, rfl⟩ := List.mem_map.1 hp
          exact walk_down HOK.out.1 HOK.out.2.1 HX.out (List.mem_reverse.1 hy)
      case body =>
        rintro l j hj W9 ⟨h1, ⟨v', h2, h3, hne⟩, h4, h5⟩
        have hjl : j < ll.length := by rw [backE_len] at hj; exact hj
        have hj2 : j < (kids t x).reverse.length := by rw [List.length_reverse, HLL.out.2]; exact hjl
        obtain ⟨y, hy⟩ : ∃ y, (kids t x).reverse[j] = y := ⟨_, rfl⟩
        have hyl : ll.getD (ll.length - 1 - j) 0 = s.g y := by
          have hm : ll.length - 1 - j < ll.length := by omega
          rw [← hy, List.getElem_reverse, List.getD_eq_getElem?_getD, List.getElem?_eq_getElem hm, Option.getD_some]
          simp only [← HLL.out.1, List.getElem_map, List.length_map]
        rw [List.getD_eq_getElem?_getD] at hyl
        have htk : ((kids t x).reverse.take (j + 1)).map (fun y => (y, d + 1)) = ((kids t x).reverse.take j).map (fun y => (y, d + 1)) ++ [(y, d + 1)] := by
          rw [List.take_succ_eq_append_getElem hj2, List.map_append, hy]
          rfl
        obtain ⟨A3, n3, c3, rfl⟩ := SOwn.shape h3
        obtain ⟨v2, w7, hrun, own7, hgr, hat⟩ := app_step h3 (by have := h2.inside; omega) y (d + 1) (z := (d : Int) + 1) (by omega) (c := 1) (by
          have h6 := HSL2.out (((kids t x).reverse.take j).map fun y => (y, d + 1))
          have h7 := HKX.out
          rw [List.length_map, List.length_take, List.length_reverse] at h6
          omega)
        obtain ⟨A4, n4, c4, hv2⟩ := SOwn.shape own7
        have hbw : Below W9.heap.size W9 (W9.alloc (.cells #[.pointer (some ⟨s.g y, 0, none⟩), .int .i64 ((d : Int) + 1)] tStep)) := (Below.refl _ _).alloc (Nat.le_refl _) _
        have hno : ∀ g, (Value.slice A3 n3 c3).ownBlock = some g → ∃ cur, W9.heap[g]? = some (.cells cur tStep (0, 0)) := fun g hg => SOwn.typed h3 hg
        have b7 : BlkT w7 (n0 + 1) [.slice A3 n3 c3] tSteps := by
          refine (h2.stays (hbw.block _ h2.inside)).stays (hgr.block _ (by simp; have := h2.inside; omega) fun e => ?_)
          obtain ⟨cur, hc⟩ := hno _ e.symm
          have := h2.symm.trans hc
          simp only [Option.some.injEq, Obj.cells.injEq] at this
          exact absurd this.2.1 (by decide)
        have hst7 : ST sT n0 W9 w7 := (ST.below hbw).trans (ST.grown hgr fun j' hj' => by
          obtain ⟨cur, hc⟩ := hno _ hj'
          exact .inr ⟨(SOwn.block h3 hj').1, cur, tStep, _, (hbw.block _ (Array.getElem?_eq_some_iff.1 hc).1).trans hc, by decide⟩)
        have hkb7 : KB W9 w7 := (KB.below hbw).trans (KB.of_grown hgr fun j' o hj' ho => by
          obtain ⟨cur, hc⟩ := hno _ hj'
          rw [(hbw.block _ (Array.getElem?_eq_some_iff.1 hc).1).trans hc] at ho
          cases ho
          rfl)
        have hst8 : ST sT n0 W9 (w7.setCell ⟨n0 + 1, 0, none⟩ v2) := hst7.trans (ST.set (a := ⟨n0 + 1, 0, none⟩) b7 (by decide) (Nat.le_succ _) v2)
        have hkb8 : KB W9 (w7.setCell ⟨n0 + 1, 0, none⟩ v2) := hkb7.trans (KB.set (a := ⟨n0 + 1, 0, none⟩) b7 rfl v2)
        have hs7 : BlkT w7 w.heap.size [.pointer (some ⟨s.g x, 0, none⟩), .int .i64 (d : Nat)] tStep := by
          refine (h4.stays (hbw.block _ h4.inside)).stays (hgr.block _ (by simp; have := h4.inside; omega) fun e => hne e.symm)
        have HF : Hid (KB W9 (w7.setCell ⟨n0 + 1, 0, none⟩ v2) ∧ (Back W3.heap.size A2 cK ll W9 → Back W3.heap.size A2 cK ll (w7.setCell ⟨n0 + 1, 0, none⟩ v2)) ∧ ST sT n0 A0 (w7.setCell ⟨n0 + 1, 0, none⟩ v2) ∧
            (∃ v', BlkT (w7.setCell ⟨n0 + 1, 0, none⟩ v2) (n0 + 1) [v'] tSteps ∧ StOwn n0 s.g (w7.setCell ⟨n0 + 1, 0, none⟩ v2) v' (st0 ++ ((kids t x).reverse.take (j + 1)).map fun y => (y, d + 1)) ∧ v'.ownBlock ≠ some w.heap.size) ∧
            BlkT (w7.setCell ⟨n0 + 1, 0, none⟩ v2) w.heap.size [.pointer (some ⟨s.g x, 0, none⟩), .int .i64 (d : Nat)] tStep ∧ Marks n0 (w7.setCell ⟨n0 + 1, 0, none⟩ v2) ds) := by
          refine ⟨hkb8, fun _ => HBKA.out _ fun k' cur ty fr hty hk' => (h1.trans hst8).cells hk' hty, h1.trans hst8, ⟨v2, b7.set 0 v2, ?_, ?_⟩, hs7.stays (heap_setCell_other _ _ _ _ fun (e : w.heap.size = n0 + 1) => ?_), h5.kb hkb8⟩
          · rw [htk, ← List.append_assoc]
            refine SOwn.stays own7 fun k' hk' => heap_setCell_other _ _ _ _ fun (e : k' = n0 + 1) => ?_
            obtain ⟨cur, hc⟩ := SOwn.typed own7 hk'
            rw [e] at hc
            have := b7.symm.trans hc
            simp only [Option.some.injEq, Obj.cells.injEq] at this
            exact absurd this.2.1 (by decide)
          · rcases hat with e | e
            · rw [e]
              exact hne
            · rw [e]
              intro e2
              have := Option.some.inj e2
              have := h4.inside
              omega
          · rw [e] at hs7
            have := b7.symm.trans hs7
            simp at this
        rw [hyl]
        clear hne
        rw [hv2] at HF hrun
        have cb := h2.blk.cell 0
        have s1 := h4.blk.cell 1
        have cb7 := b7.blk.cell 0
        have fb7 := b7.blk.free 0
        have zb7 := b7.inside
        have zb := h2.inside
        have zs := h4.inside
        simp only [List.getElem?_cons_succ, List.getElem?_cons_zero] at cb s1 cb7
        have hdb : ((d : Nat) : Int) ≤ 10000 := by have := HDB.out; omega
        clear h1 h2 h3 h4 h5 hj hjl hj2 hy hyl htk own7 hgr hat hbw hno b7 hst7 hkb7 hst8 hkb8 hs7 hv2
        gi_wp2_with (gi_at_builtin; refine wpl_append_in rfl _ _ 133 133 133 rfl rfl _ _ _ _ rfl rfl hrun ?_; clear hrun)
        exact HF.out
    · have HJ3 := Lib.hid hJx3
      have HMK3 : Hid (Marks n0 W3 ds) := Marks.kbf (by rw [← hn0]; exact hf3) HMK1.out
      clear hJx3
      gi_wp2_with (fail)
      refine postM_ret n0 HMK3.out fun w' hb => ⟨_, results_none rfl _ _ _, ⟨_, rfl⟩, .inr ⟨k + 1, by rw [walkE_len]; have := HKL.out; omega, HJx.out _ _ _ HJ3.out (by rw [hn0]; exact ST.bk hb (Nat.le_refl _))⟩⟩
end Go.Proofs.Ytokochkjjlbnkaa
