/-
  Layer 12: TreeStops.
-/
import Derived.Test.YtokochkjjlbnkaaTtOpen
import Derived.Test.YtokochkjjlbnkaaTtC
namespace Go.Proofs.Ytokochkjjlbnkaa
open Go.RowKit trm itr Go.Shelf

attribute [local go_sem] Oper.semAt_some

abbrev tBool : TypeId := 4
theorem KX.trans {x : Nat} {A B C : World} (h : KX x A B) (k : KX x B C) : KX x A C :=
  ⟨k.os.trans h.os, k.tape.trans h.tape, k.output.trans h.output, Nat.le_trans h.size k.size, fun j hj hn => (k.same j (Nat.lt_of_lt_of_le hj h.size) hn).trans (h.same j hj hn)⟩
theorem results_cell_bool {fn : Func} {p : Tmp} (h : fn.results = #[.cell p tBool]) (tmps : Array Value) (w : World) {g : Nat} {v : Bool} (hp : tmps.getD p undef = .pointer (some ⟨g, 0, none⟩)) (hc : w.cell? ⟨g, 0, none⟩ = some (.bool v)) :
    (results fn tmps).run Try.prog w = .ok (.bool v) w := by
  have hp' : tmps[p]?.getD undef = .pointer (some ⟨g, 0, none⟩) := by simpa using hp
  simp [results, h, hp', asAddr, go_sem, hc]
/-- while the answer is stored -/
structure KJ (rg : Nat) (d : Bool) (w : World) : Prop where
  ex : ∃ v, BlkT w rg [v] tBool
  yes : d = true → BlkT w rg [.bool true] tBool
theorem KJ.below {rg : Nat} {d : Bool} {w w' : World} (h : KJ rg d w) (hb : Below w.heap.size w w') : KJ rg d w' := by
  obtain ⟨v, hv⟩ := h.ex
  exact ⟨⟨v, hv.stays (hb.block _ hv.inside)⟩, fun e => (h.yes e).stays (hb.block _ hv.inside)⟩
theorem KJ.put {rg : Nat} {d : Bool} {w : World} (h : KJ rg d w) : KJ rg true (w.setCell ⟨rg, 0, none⟩ (.bool true)) := by
  obtain ⟨v, hv⟩ := h.ex
  have := hv.set 0 (.bool true)
  exact ⟨⟨_, this⟩, fun _ => this⟩
def sayN (rg n : Nat) : regs.Say (KX rg) := ⟨fun x _ => ∃ A c, x = .slice A n c, fun _ _ _ h _ => h⟩
theorem min_of (N X m : Nat) (h : m = min N X) : (if (X : Int) < (N : Int) then (X : Int) else (N : Int)) = (m : Int) := by
  subst h
  split <;> omega
theorem min_run (P : Program) (w : World) (ts : Array TypeId) (t : TypeId) (N X m : Nat) (h : m = min N X) : (Builtin.min_ ts t #[.int .i64 (N : Int), .int .i64 (X : Int)]).run P w = .ok (.int .i64 (m : Int)) w := by
  rw [← min_of N X m h]
  simp [Builtin.min_, Builtin.min2]
set_option maxRecDepth 100000 in
set_option maxHeartbeats 4000000 in
theorem stops_in (A : Option Addr) (l : List O4) (c : Nat) (n : Int) (w : World) (hr : OpRow w A l) (ho : ∀ o ∈ l, o.ok) (_ : l.length ≤ 9223372036854775807) (hn1 : -9223372036854775808 ≤ n) (hn2 : n ≤ 9223372036854775807) :
    Calls Try.prog 6 #[.slice A l.length c, .int .i64 n] w fun e w' => e = .returned (.bool true) ∧ Below w.heap.size w w' := by
  have HN : Hid (-9223372036854775808 ≤ n ∧ n ≤ 9223372036854775807) := ⟨hn1, hn2⟩
  have HR := Lib.hid hr
  have HO := Lib.hid ho
  clear hr ho hn1 hn2
  obtain ⟨w0, hw0⟩ : ∃ w0, w0 = (w.alloc (.cells #[.int .i64 n] 3)).alloc (.cells #[.bool false] tBool) := ⟨_, rfl⟩
  have hb0 : Below w.heap.size w w0 := by rw [hw0]; exact ((Below.refl _ _).alloc (Nat.le_refl _) _).alloc (by simp) _
  have hs0 : w0.heap.size = w.heap.size + 2 := by rw [hw0]; simp
  have hx0 : BlkT w0 w.heap.size [.int .i64 n] 3 := by
    rw [hw0]
    exact (BlkT.new w [.int .i64 n] _).stays (heap_alloc_old _ _ _ (by simp))
  have hx1 : BlkT w0 (w.heap.size + 1) [.bool false] tBool := by
    rw [hw0]
    have := BlkT.new (w.alloc (.cells #[.int .i64 n] 3)) [.bool false] tBool
    rwa [World.size_alloc] at this
  have HW0 := Lib.hid hw0
  have HB0 := Lib.hid hb0
  have HS0 := Lib.hid hs0
  have HX0 := Lib.hid hx0
  have HX1 := Lib.hid hx1
  by_cases hbad : 60 < l.length ∨ n < 1
  · have HAW := Lib.hid (awake_any w0)
    refine calls_of_marks Try.func6 rfl ?_
    simp only [Try.ntmps6, List.size_toArray, List.length_cons, List.length_nil, Nat.reduceAdd, Nat.reduceSub, Array.replicate_succ, Array.replicate_zero, List.push_toArray, List.append_toArray, List.nil_append, List.cons_append]
    have hend : ∀ (tmps : Array Value) (W : World), tmps.getD 4 undef = .pointer (some ⟨w.heap.size + 1, 0, none⟩) → Below w0.heap.size w0 W → postM Try.prog Try.f6 (fun e w' => e = .returned (.bool true) ∧ Below w.heap.size w w') .ret { tmps := tmps, defers := [] } (W.setCell ⟨w.heap.size + 1, 0, none⟩ (.bool true)) := fun tmps W hp hb => by
      refine postM_ret w.heap.size trivial fun w' hbk => ?_
      have hx := (hx1.stays (hb.block _ hx1.inside)).set 0 (.bool true)
      have hx' : BlkT w' (w.heap.size + 1) [.bool true] tBool := hbk.keep hx rfl
      refine ⟨_, results_cell_bool rfl _ _ hp (hx'.blk.cell 0), rfl, ?_⟩
      have h1 := (hb0.trans (hb.mono hb0.size)).setCell (p := ⟨w.heap.size + 1, 0, none⟩) (by simp) (.bool true)
      exact h1.trans (hbk.below (Nat.le_refl _) h1.size)
    have HE := Lib.hid hend
    clear hb0 hs0 hx0 hx1 hend
    rw [hw0] at HAW HE
    clear hw0
    by_cases h60 : 60 < l.length
    · have t0 : decide ((60 : Int) < (l.length : Int)) = true := decide_eq_true (by omega)
      clear h60 hbad
      go_wp2_with (fail)
      refine HAW.out.mono ?_
      rintro e w1 ⟨rfl, hb⟩
      have HB := Lib.hid hb
      have hx := HX1.out.stays ((show Below w0.heap.size w0 w1 by rw [HW0.out]; exact hb).block _ HX1.out.inside)
      have cb := hx.blk.cell 0
      have fb := hx.blk.free 0
      have zb := hx.inside
      simp only [List.getElem?_cons_zero] at cb
      clear hb hx
      go_wp2_with (fail)
      refine HE.out _ _ ?_ HB.out
      rfl
    · have t0 : decide ((60 : Int) < (l.length : Int)) = false := decide_eq_false (by omega)
      have t1 : decide (n < (1 : Int)) = true := decide_eq_true (by omega)
      clear h60 hbad
      go_wp2_with (fail)
      refine HAW.out.mono ?_
      rintro e w1 ⟨rfl, hb⟩
      have HB := Lib.hid hb
      have hx := HX1.out.stays ((show Below w0.heap.size w0 w1 by rw [HW0.out]; exact hb).block _ HX1.out.inside)
      have cb := hx.blk.cell 0
      have fb := hx.blk.free 0
      have zb := hx.inside
      simp only [List.getElem?_cons_zero] at cb
      clear hb hx
      go_wp2_with (fail)
      refine HE.out _ _ ?_ HB.out
      rfl
  have t0 : decide ((60 : Int) < (l.length : Int)) = false := decide_eq_false (by omega)
  have t1 : decide (n < (1 : Int)) = false := decide_eq_false (by omega)
  have HL : Hid (l.length ≤ 60 ∧ 1 ≤ n) := by show _ ∧ _; omega
  obtain ⟨N, rfl⟩ : ∃ N : Nat, n = N := ⟨n.toNat, by omega⟩
  have HTN := Lib.hid (tnew w0)
  clear hbad hb0 hs0 hx0 hx1
  rw [hw0] at HTN
  clear hw0
  refine calls_of_marks Try.func6 rfl ?_
  simp only [Try.ntmps6, List.size_toArray, List.length_cons, List.length_nil, Nat.reduceAdd, Nat.reduceSub, Array.replicate_succ, Array.replicate_zero, List.push_toArray, List.append_toArray, List.nil_append, List.cons_append]
  go_wp2_with (fail)
  refine HTN.out.mono ?_
  rintro e w1 ⟨b, s, rfl, hT, hb, hf⟩
  rw [← HW0.out] at hb hf
  have HM := Lib.hid (MyPlay.made hb hT hf)
  clear hT hb hf HTN
  go_wp2_with (fail)
  generalize w1.alloc (.cells #[.pointer (some ⟨b, 0, none⟩), .slice none 0 0] tPlay) = w2 at *
  generalize w1.heap.size = g at *
  go_loopw [29] (fun x wr => ∃ k : Nat, k ≤ l.length ∧ x = .int .i64 k ∧ Hid (MyPlay w0 g b (runT [] (l.take k)) wr)) (fun x _ => l.length - (intOf x).toNat)
  case atStart => exact ⟨0, Nat.zero_le _, rfl, HM.out⟩
  case round =>
    obtain ⟨k, hk, rfl, HK⟩ := hrel
    by_cases hlt : k < l.length
    · have t1 : decide (k < l.length) = true := by simpa using hlt
      have HLT := Lib.hid hlt
      have hkb : (k : Int) ≤ 10000 := by have := HL.out; omega
      obtain ⟨b1, o1, rA, k1⟩ := HR.out.in_ hlt
      subst rA
      obtain ⟨c1, c2, c3, c4⟩ := k1 _ (HB0.out.trans (HK.out.bel.mono HB0.out.size))
      have HOK := Lib.hid (HO.out _ (List.getElem_mem hlt))
      have HS := Lib.hid (runT_snoc [] hlt)
      have HNN : Hid ((runT [] (l.take k)).length ≤ 1000) := by
        have h1 := (runT_ok ok_nil (l.take k)).2
        rw [List.length_take, List.length_nil] at h1
        have := HL.out
        show _ ≤ _
        omega
      clear k1
      generalize l[k] = o at *
      generalize runT [] (l.take k) = T0 at *
      obtain ⟨T1, hT1⟩ : ∃ x, runT [] (l.take (k + 1)) = x := ⟨_, rfl⟩
      have HT1 := Lib.hid hT1
      rw [hT1] at HS
      clear hT1
      obtain ⟨ok, oi, op, on⟩ := o
      simp only at c1 c2 c3 c4
      go_wp2_with (fail)
      have hb1 : Below wr.heap.size wr (wr.alloc (.cells #[.int .i64 ok, .int .i64 oi, .int .i64 op, .int .i64 on] tOp)) := (Below.refl _ _).alloc (Nat.le_refl _) _
      refine ((HK.out.below hb1).step HNN.out ⟨ok, oi, op, on⟩ HOK.out).mono ?_
      rintro e w3 ⟨rfl, hm3⟩
      rw [← HS.out] at hm3
      have HM3 := Lib.hid hm3
      clear hm3 hb1 c1 c2 c3 c4 HK
      go_wp2_with (fail)
      go_roundw
      case rel => exact ⟨k + 1, HLT.out, by go_num, by rw [HT1.out]; exact HM3⟩
      case measure => have := HLT.out; simp [intOf]; omega
    · obtain rfl : k = l.length := by omega
      have t1 : decide (l.length < l.length) = false := by simp
      generalize wr = wA at *
      have HT0 : Hid ((runT [] (l.take l.length)).length ≤ 60 ∧ Ok (runT [] (l.take l.length))) := by
        have h1 := runT_ok ok_nil (l.take l.length)
        refine ⟨Nat.le_trans h1.2 ?_, h1.1⟩
        rw [List.length_take, List.length_nil]
        have := HL.out
        omega
      generalize runT [] (l.take l.length) = t at *
      have HBK : Hid (Below w0.heap.size w0 wA) := HK.out.bel
      have HFT := Lib.hid HK.out.ex
      obtain ⟨s0, v0, hp, hpf⟩ := HK.out.ex
      have HP := Lib.hid hp
      obtain ⟨A0, c0, rfl, hdr, -⟩ := hp.doc
      have q0 := hp.blk.blk.cell 0
      have q1 := hp.blk.blk.cell 1
      have qi := hp.blk.inside
      have HW := Lib.hid (dwalk A0 t c0 HT0.out.2 (by have := HT0.out.1; omega) (t.length + 1) 0 wA hdr (.inl rfl) (by omega))
      obtain ⟨X, hX⟩ : ∃ q, trm.walk t 0 = q := ⟨_, rfl⟩
      have HXE := Lib.hid hX
      have HXL : Hid (X.length ≤ 61) := by show _ ≤ _; rw [← hX, walk_len HT0.out.2]; have := HT0.out.1; omega
      have HG := Lib.hid hpf
      rw [hX] at HW
      clear hX hp hpf hdr HM HK
      go_wp2_with (fail)
      refine HW.out.mono ?_
      rintro e w3 ⟨v, rfl, ho, hb3⟩
      obtain ⟨A1, c1, rfl, -, -, hr1⟩ := IOwn.irow ho
      have HB3 : Hid (Below wA.heap.size wA w3) := hb3
      have HR3 := Lib.hid hr1
      clear hb3 ho hr1 HW q0 q1 qi
      obtain ⟨w4, hw4⟩ : ∃ w4, w4 = (w3.alloc (.cells #[.slice A1 X.length c1] tInts)).alloc (.cells #[.int .i64 0] tInt) := ⟨_, rfl⟩
      have hb4 : Below w3.heap.size w3 w4 := by rw [hw4]; exact ((Below.refl _ _).alloc (Nat.le_refl _) _).alloc (by simp) _
      have hb5 : Below wA.heap.size wA w4 := HB3.out.trans (hb4.mono HB3.out.size)
      have hxx : BlkT w4 w3.heap.size [.slice A1 X.length c1] tInts := by
        rw [hw4]
        exact (BlkT.new w3 [.slice A1 X.length c1] _).stays (heap_alloc_old _ _ _ (by simp))
      have hxn : BlkT w4 (w3.heap.size + 1) [.int .i64 0] tInt := by
        rw [hw4]
        have := BlkT.new (w3.alloc (.cells #[.slice A1 X.length c1] tInts)) [.int .i64 0] tInt
        rwa [World.size_alloc] at this
      have hpl := HP.out.below hb5
      have HTW := Lib.hid (twalk hpl.tree (by have := HT0.out.1; omega))
      have q0 := hpl.blk.blk.cell 0
      have qi := hpl.blk.inside
      simp only [List.getElem?_cons_zero] at q0
      have HW4 := Lib.hid hw4
      have HX := Lib.hid hxx
      have HXN := Lib.hid hxn
      have HB4 : Hid (Below wA.heap.size wA w4) := hb5
      have HB34 : Hid (Below w3.heap.size w3 w4) := hb4
      rw [hw4] at HTW q0 qi
      clear hw4 hb4 hb5 hxx hxn hpl
      go_wp2_with (fail)
      refine HTW.out.mono ?_
      rintro e w5 ⟨ib, db, v1, v2, rfl, hi1, hi2, hx1, hx2, ho1, ho2, hb5⟩
      rw [← HW4.out] at hi1 hi2 ho1 ho2 hb5
      clear q0 qi HTW
      obtain ⟨nb, hnb⟩ : ∃ k, k = w3.heap.size + 1 := ⟨_, rfl⟩
      obtain ⟨xb, hxb⟩ : ∃ k, k = w3.heap.size := ⟨_, rfl⟩
      have hnn : nb < w4.heap.size := by rw [hnb]; exact HXN.out.inside
      obtain ⟨B1, B2, d1, d2, hprs⟩ := prs_of (x := nb) hnn hi1 hi2 hx1 hx2 ho1 ho2
      have HPR := Lib.hid hprs
      have HB5 : Hid (Below wA.heap.size wA w5) := HB4.out.trans (hb5.mono HB4.out.size)
      rw [← hnb] at HXN ⊢
      rw [← hxb] at HX hnb ⊢
      have HX5 := Lib.hid (HX.out.stays (hb5.block _ HX.out.inside))
      have HN5 := Lib.hid (HXN.out.stays (hb5.block _ HXN.out.inside))
      have HB35 : Hid (Below w3.heap.size w3 w5) := HB34.out.trans (hb5.mono HB34.out.size)
      have HNB : Hid (nb = xb + 1 ∧ wA.heap.size ≤ xb) := ⟨hnb, by rw [hxb]; exact HB3.out.size⟩
      have HGI : Hid (g < wA.heap.size ∧ w0.heap.size ≤ g) := ⟨HP.out.blk.inside, HG.out _ (.inl rfl)⟩
      have HLOW : Hid (∀ W, KX nb w5 W → Below w3.heap.size w3 W) := fun W hk => HB35.out.trans (hk.to_below (by rw [← hxb]; have := HNB.out; omega) HB35.out.size)
      have HROW : Hid (∀ W, KX nb w5 W → Row eI W A1 X) := fun W hk => Row.below HR3.out (HLOW.out W hk)
      have HALL : Hid (∀ W W', KX nb w5 W → KX (w.heap.size + 1) W W' → (W'.cell? ⟨g, 0, none⟩ = some (.pointer (some ⟨b, 0, none⟩)) ∧ g < W'.heap.size) ∧ (W'.cell? ⟨xb, 0, none⟩ = some (.slice A1 X.length c1) ∧ xb < W'.heap.size) ∧ (W'.cell? ⟨w.heap.size, 0, none⟩ = some (.int .i64 (N : Int)) ∧ w.heap.size < W'.heap.size) ∧
          (∀ v, BlkT W nb [v] tInt → BlkT W' nb [v] tInt) ∧ TreeAt W' b s0 t) := fun W W' hk hk' => by
        have hs0 := HS0.out
        have hl := HLOW.out W hk
        have hA : Below wA.heap.size wA W := HB3.out.trans (hl.mono HB3.out.size)
        have h0 := HBK.out.size
        have hg := HGI.out
        have hn := HNB.out
        have same : ∀ k, w0.heap.size ≤ k → k < wA.heap.size → W'.heap[k]? = wA.heap[k]? := fun k h1 h2 => (hk'.same k (Nat.lt_of_lt_of_le h2 hA.size) (by omega)).trans (hA.block k h2)
        have bg := HP.out.blk.stays (same g hg.2 hg.1)
        have bx := (HX5.out.stays (hk.same xb HX5.out.inside (by omega))).stays (hk'.same xb (Nat.lt_of_lt_of_le HX5.out.inside hk.size) (by omega))
        have hwl : w.heap.size < w0.heap.size := by omega
        have bn := ((HX0.out.stays (HBK.out.block _ hwl)).stays (hA.block _ (by omega))).stays (hk'.same w.heap.size (by have := hA.size; omega) (by omega))
        refine ⟨⟨bg.blk.cell 0, bg.inside⟩, ⟨bx.blk.cell 0, bx.inside⟩, ⟨bn.blk.cell 0, bn.inside⟩, fun v hv => hv.stays (hk'.same nb hv.inside (by omega)), HP.out.tree.stays fun k hk2 => same k (HG.out _ (.inr hk2)) (HP.out.tree.raw.inside k hk2)⟩
      have HRG : Hid (∀ W, KX nb w5 W → KJ (w.heap.size + 1) false W) := fun W hk => by
        have hs0 := HS0.out
        have h0 := HBK.out.size
        have hA : Below wA.heap.size wA W := HB3.out.trans ((HLOW.out W hk).mono HB3.out.size)
        exact ⟨⟨_, (HX1.out.stays (HBK.out.block _ (by omega))).stays (hA.block _ (by omega))⟩, fun e => (nomatch e)⟩
      have HBW : Hid (∀ W, KX nb w5 W → Below w0.heap.size w0 W) := fun W hk => HBK.out.trans ((HB3.out.trans ((HLOW.out W hk).mono HB3.out.size)).mono HBK.out.size)
      have HIX : Hid (idsL t = X) := by show (wd t 0 0).map _ = X; rw [wd_ids, HXE.out]
      have HEL : Hid ((pairE (idsL t) (depL t)).length = X.length) := by show _ = _; rw [pairE_len, HIX.out]
      clear hi1 hi2 hx1 hx2 ho1 ho2 hb5 hprs hnn HW4 HX HXN HB34 hnb hxb HB4
      go_wp2_with (fail)
      refine wp_range (gf := 43) (lb := #[.pointer (some ⟨ib, 0, none⟩), .pointer (some ⟨db, 0, none⟩)]) rfl (enters_of Try.func43 (by kernel_rfl) rfl) (es := pairE (idsL t) (depL t)) (R := fun _ => Eq)
        (Kp := fun A B => Prs ib db B1 B2 d1 d2 (idsL t) (depL t) A → Prs ib db B1 B2 d1 d2 (idsL t) (depL t) B)
        (fun W1 hb => pair_iter (by have := HXL.out; rw [HIX.out]; omega) (by simp [idsL, depL]) (HPR.out W1 ((KX.refl _ _).bk hb))) (fun h k x => k (h x)) (fun A B hb h => h.cells fun a v => cell_bk hb) (fun n A B e k o _ hk _ => e ▸ hk)
        (fun e he => by obtain ⟨j, _, rfl⟩ := List.mem_map.1 he; rfl)
        (fun k W => KX nb w5 W ∧ BlkT W nb [.int .i64 (k : Nat)] tInt ∧ k < N)
        (fun co k W => co = .exit 2 ∧ KX nb w5 W ∧ BlkT W nb [.int .i64 (k : Nat)] tInt ∧ k = N) (fun k A B h hr => ?hI) (fun co k A B h hr => ?hIx) ⟨KX.refl _ _, HN5.out, by have := HL.out; omega⟩ ?a1 ?assign ?body ?done ?stopd
      case hI =>
        obtain ⟨hk, hx, hlt⟩ := h
        rcases hr with ⟨n, hn, rfl⟩ | hb
        · exact ⟨hk, hx, hlt⟩
        · exact ⟨hk.bk hb, hx.bk hb, hlt⟩
      case hIx =>
        obtain ⟨hc, hk, hx, hlt⟩ := h
        rcases hr with ⟨n, hn, rfl⟩ | hb
        · exact ⟨hc, hk, hx, hlt⟩
        · exact ⟨hc, hk.bk hb, hx.bk hb, hlt⟩
      case assign =>
        intro l j hj W9 KK hKK
        rw [pairE_at]
        gi_wp2_with (fail)
        exact hKK
      case body =>
        rintro l j hj W9 ⟨hk, hx, hjN⟩
        have hjX : j < X.length := by rw [HEL.out] at hj; exact hj
        have h1 : (idsL t)[j]?.getD 0 = X[j] := by rw [HIX.out, List.getElem?_eq_getElem hjX]; rfl
        obtain ⟨b2, o2, rfl, k1⟩ := (HROW.out W9 hk).at_ hjX
        obtain ⟨-, ⟨cx, xi⟩, ⟨cn, ni⟩, -, -⟩ := HALL.out W9 W9 hk (KX.refl _ _)
        have cb := hx.blk.cell 0
        have fb := hx.blk.free 0
        have zb := hx.inside
        simp only [List.getElem?_cons_zero] at cb
        unfold eI at k1
        have t2 : decide (X.length ≤ j) = false := decide_eq_false (by omega)
        have hjb : (j : Int) ≤ 100000 := by have := HXL.out; omega
        have t5 : decide (j < X.length) = true := decide_eq_true hjX
        have HF : Hid (KB W9 (W9.setCell ⟨nb, 0, none⟩ (.int .i64 ((j : Int) + 1))) ∧ (Prs ib db B1 B2 d1 d2 (idsL t) (depL t) W9 → Prs ib db B1 B2 d1 d2 (idsL t) (depL t) (W9.setCell ⟨nb, 0, none⟩ (.int .i64 ((j : Int) + 1)))) ∧
            KX nb w5 (W9.setCell ⟨nb, 0, none⟩ (.int .i64 ((j : Int) + 1))) ∧ BlkT (W9.setCell ⟨nb, 0, none⟩ (.int .i64 ((j : Int) + 1))) nb [.int .i64 ((j + 1 : Nat) : Int)] tInt) := by
          have hk7 := hk.set (.int .i64 ((j : Int) + 1))
          exact ⟨KB.set (a := ⟨nb, 0, none⟩) hx rfl _, fun _ => HPR.out _ hk7, hk7, hx.set 0 _⟩
        have HSZ : Hid (nb ≠ w.heap.size) := by
          have h1 := HNB.out
          have h2 := HBK.out.size
          have h3 := HS0.out
          show _ ≠ _
          omega
        rw [h1]
        generalize X[j] = x at *
        have hne := HSZ.out
        by_cases hst : j + 1 = N
        · have t3 : decide ((j : Int) + 1 = (N : Int)) = true := decide_eq_true (by omega)
          have t4 : (((j : Int) + 1) == (N : Int)) = true := by simpa using t3
          have HN2 := Lib.hid hst
          clear hk hx hj h1 hjN hst
          gi_wp2_with (fail)
          exact ⟨HF.out.1, rfl, HF.out.2.2.1, HF.out.2.2.2, HN2.out⟩
        · have t3 : decide ((j : Int) + 1 = (N : Int)) = false := decide_eq_false (by omega)
          have t4 : (((j : Int) + 1) == (N : Int)) = false := by simpa using t3
          have HN2 : Hid (j + 1 < N) := by show _ < _; omega
          clear hk hx hj h1 hjN hst
          gi_wp2_with (fail)
          exact ⟨HF.out.1, HF.out.2.1, HF.out.2.2.1, HF.out.2.2.2, HN2.out⟩
      case done =>
        rintro D W9 hD ⟨hk, hx, hlt⟩ hd
        obtain ⟨m, hm⟩ : ∃ m : Nat, (pairE (idsL t) (depL t)).length = m := ⟨_, rfl⟩
        rw [hm] at hx hlt
        have hmin : m = min N X.length := by have := HEL.out; omega
        have HMN := Lib.hid hmin
        have HK9 := Lib.hid hk
        have HX9 := Lib.hid hx
        have HJ9 := Lib.hid (HRG.out W9 hk)
        have HFI : Hid (∀ (tmps : Array Value) (W8 : World), KX (w.heap.size + 1) W9 W8 → BlkT W8 (w.heap.size + 1) [.bool true] tBool → tmps.getD 4 undef = .pointer (some ⟨w.heap.size + 1, 0, none⟩) → postM Try.prog Try.f6 (fun e w' => e = .returned (.bool true) ∧ Below w.heap.size w w') .ret { tmps := tmps, defers := [mk D] } W8) := fun tmps W8 hk8 hb8 hp => by
          have h1 := HBW.out W9 HK9.out
          have h2 := HS0.out
          have h3 := (HBW.out w5 (KX.refl _ _)).size
          have hd8 : W8.heap[D]? = some (.deferred (some [])) := (hk8.same D (Array.getElem?_eq_some_iff.1 hd).1 (by omega)).trans hd
          refine postM_ret w.heap.size ⟨⟨D, rfl, by omega, hd8, by simp⟩, trivial⟩ fun w' hbk => ?_
          have hx' : BlkT w' (w.heap.size + 1) [.bool true] tBool := hbk.keep hb8 rfl
          refine ⟨_, results_cell_bool rfl _ _ hp (hx'.blk.cell 0), rfl, ?_⟩
          have h4 : Below w.heap.size w W8 := (HB0.out.trans (h1.mono HB0.out.size)).trans (hk8.to_below (by omega) (by have := HB0.out.size; have := h1.size; omega))
          exact h4.trans (hbk.below (Nat.le_refl _) h4.size)
        have HLW : Hid (∀ W, KX (w.heap.size + 1) W9 W → Calls Try.prog 25 #[.pointer (some ⟨b, 0, none⟩)] W fun e w' => ∃ A c, e = .returned (.slice A X.length c) ∧ Below W.heap.size W w') := fun W hkk => by
          refine (lwalk (HALL.out W9 W HK9.out hkk).2.2.2.2 (by have := HT0.out.1; omega)).mono ?_
          rintro e w' ⟨v, rfl, ho, hb⟩
          obtain ⟨A, c, rfl, -⟩ := SOwn.row ho rcs_len
          refine ⟨A, c, ?_, hb⟩
          have : (walkL t).length = X.length := by have := HIX.out; unfold walkL; rw [← this, idsL, List.length_map, List.length_map]
          rw [this]
        have HAW : Hid (∀ W, KX (w.heap.size + 1) W9 W → Calls Try.prog 9 #[] W fun e w' => e = .returned (.bool true) ∧ Below W.heap.size W w') := fun W _ => awake_any W
        clear hk hx hmin hd
        go_wp2_with (fail)
        refine regs.wp_region_put (KX (w.heap.size + 1)) (fun L wx => KJ (w.heap.size + 1) (L 20) wx) [67, 68, 69, 70, 71, 72, 73, 74, 75, 76, 77, 78, 79, 80, 81, 82, 83, 84, 85, 86] (by kernel_rfl) (by kernel_rfl) (fun _ => KX.refl _ _) (fun _ _ _ h k => h.trans k) (fun i => (match i with
          | 0 => regs.Say.val _ (.int .i64 (m : Int))
          | 1 => regs.Say.val _ (.int .i64 (N : Int))
          | 2 => regs.Say.val _ (.slice A1 X.length c1)
          | 3 => regs.Say.val _ (.int .i64 (X.length : Int))
          | 4 => regs.Say.val _ (.int .i64 (m : Int))
          | 5 => regs.Say.val _ (.bool true)
          | 6 => regs.Say.val _ (.bool true)
          | 7 => regs.Say.val _ (.pointer (some ⟨g, 0, none⟩))
          | 8 => regs.Say.val _ (.pointer (some ⟨g, 0, none⟩))
          | 9 => regs.Say.val _ (.pointer (some ⟨g, 0, none⟩))
          | 10 => regs.Say.val _ (.pointer (some ⟨b, 0, none⟩))
          | 11 => sayN (w.heap.size + 1) X.length
          | 12 => regs.Say.val _ (.int .i64 (X.length : Int))
          | 13 => regs.Say.val _ (.slice A1 X.length c1)
          | 14 => regs.Say.val _ (.int .i64 (X.length : Int))
          | 15 => regs.Say.val _ (.bool true)
          | 16 => regs.Say.val _ (.bool true)
          | 17 => regs.Say.val _ (.bool true)
          | 18 => regs.Say.val _ (.bool true)
          | 19 => regs.Say.val _ (.bool true)
          | 20 => regs.Say.any _
          | _ => regs.Say.any _ : regs.Say (KX (w.heap.size + 1))).p) (fun _ => regs.Say.mono _) (by kernel_rfl) ((KX.refl _ _).below (Below.refl _ _).drew) (HJ9.out.below (Below.refl _ _).drew) ⟨?_, ?_, ?_, ?_, ?_, ?_, ?_, ?_, ?_, ?_, ?_, ?_, ?_, ?_, ?_, ?_, ?_, ?_, ?_, ?_, ?_, trivial⟩ ?_
        · refine regs.StepOK.plain rfl fun L a w1 hh => ?_
          have h9 : a.tmps[9]?.getD undef = .pointer (some ⟨nb, 0, none⟩) := by rw [← Array.getD_eq_getD_getElem?]; exact hh.old 9 rfl
          obtain ⟨⟨p0, pi⟩, ⟨x0, xi⟩, ⟨n0, ni⟩, bn, -⟩ := HALL.out W9 _ HK9.out hh.rel
          have bm := (bn _ HX9.out).blk.cell 0
          have bi := (bn _ HX9.out).inside
          simp only [List.getElem?_cons_zero] at bm
          clear bn
          have hJ := Lib.hid hh.st
          clear hh
          go_simp
          exact ⟨_, rfl, KX.refl _ _, rfl, hJ.out⟩
        · refine regs.StepOK.plain rfl fun L a w1 hh => ?_
          have h3 : a.tmps[3]?.getD undef = .pointer (some ⟨w.heap.size, 0, none⟩) := by rw [← Array.getD_eq_getD_getElem?]; exact hh.old 3 rfl
          obtain ⟨⟨p0, pi⟩, ⟨x0, xi⟩, ⟨n0, ni⟩, bn, -⟩ := HALL.out W9 _ HK9.out hh.rel
          have bm := (bn _ HX9.out).blk.cell 0
          have bi := (bn _ HX9.out).inside
          simp only [List.getElem?_cons_zero] at bm
          clear bn
          have hJ := Lib.hid hh.st
          clear hh
          go_simp
          exact ⟨_, rfl, KX.refl _ _, rfl, hJ.out⟩
        · refine regs.StepOK.plain rfl fun L a w1 hh => ?_
          have h8 : a.tmps[8]?.getD undef = .pointer (some ⟨xb, 0, none⟩) := by rw [← Array.getD_eq_getD_getElem?]; exact hh.old 8 rfl
          obtain ⟨⟨p0, pi⟩, ⟨x0, xi⟩, ⟨n0, ni⟩, bn, -⟩ := HALL.out W9 _ HK9.out hh.rel
          have bm := (bn _ HX9.out).blk.cell 0
          have bi := (bn _ HX9.out).inside
          simp only [List.getElem?_cons_zero] at bm
          clear bn
          have hJ := Lib.hid hh.st
          clear hh
          go_simp
          exact ⟨_, rfl, KX.refl _ _, rfl, hJ.out⟩
        · refine regs.StepOK.plain rfl fun L a w1 hh => ?_
          have h69 : a.tmps[69]?.getD undef = .slice A1 X.length c1 := by rw [← Array.getD_eq_getD_getElem?]; exact hh.dep 2 69 (by kernel_rfl) (by kernel_rfl)
          have hJ := Lib.hid hh.st
          clear hh
          go_simp
          exact ⟨_, rfl, KX.refl _ _, rfl, hJ.out⟩
        · refine regs.StepOK.plain rfl fun L a w1 hh => ?_
          have h68 : a.tmps[68]?.getD undef = .int .i64 (N : Int) := by rw [← Array.getD_eq_getD_getElem?]; exact hh.dep 1 68 (by kernel_rfl) (by kernel_rfl)
          have h70 : a.tmps[70]?.getD undef = .int .i64 (X.length : Int) := by rw [← Array.getD_eq_getD_getElem?]; exact hh.dep 3 70 (by kernel_rfl) (by kernel_rfl)
          have hmn := fun (P : Program) (w : World) (ts : Array TypeId) (t : TypeId) => min_run P w ts t N X.length m HMN.out
          have hJ := Lib.hid hh.st
          clear hh
          go_simp
          exact ⟨_, rfl, KX.refl _ _, rfl, hJ.out⟩
        · refine regs.StepOK.plain rfl fun L a w1 hh => ?_
          have h67 : a.tmps[67]?.getD undef = .int .i64 (m : Int) := by rw [← Array.getD_eq_getD_getElem?]; exact hh.dep 0 67 (by kernel_rfl) (by kernel_rfl)
          have h71 : a.tmps[71]?.getD undef = .int .i64 (m : Int) := by rw [← Array.getD_eq_getD_getElem?]; exact hh.dep 4 71 (by kernel_rfl) (by kernel_rfl)
          have hJ := Lib.hid hh.st
          clear hh
          go_simp
          exact ⟨_, rfl, KX.refl _ _, rfl, hJ.out⟩
        · refine regs.StepOK.plain rfl fun L a w1 hh => ?_
          have h72 : a.tmps[72]?.getD undef = .bool true := by rw [← Array.getD_eq_getD_getElem?]; exact hh.dep 5 72 (by kernel_rfl) (by kernel_rfl)
          have hJ := Lib.hid hh.st
          clear hh
          go_simp
          exact ⟨_, rfl, KX.refl _ _, rfl, hJ.out⟩
        · refine regs.StepOK.yes 6 true 73 rfl rfl (fun L a w1 hh => hh.dep 6 73 (by kernel_rfl) (by kernel_rfl)) fun L a w1 hh => ?_
          have h5 : a.tmps[5]?.getD undef = .pointer (some ⟨g, 0, none⟩) := by rw [← Array.getD_eq_getD_getElem?]; exact hh.old 5 rfl
          have hJ := Lib.hid hh.st
          clear hh
          go_simp
          exact ⟨_, rfl, KX.refl _ _, rfl, hJ.out⟩
        · refine regs.StepOK.yes 6 true 73 rfl rfl (fun L a w1 hh => hh.dep 6 73 (by kernel_rfl) (by kernel_rfl)) fun L a w1 hh => ?_
          have h74 : a.tmps[74]?.getD undef = .pointer (some ⟨g, 0, none⟩) := by rw [← Array.getD_eq_getD_getElem?]; exact hh.dep 7 74 (by kernel_rfl) (by kernel_rfl)
          obtain ⟨⟨p0, pi⟩, ⟨x0, xi⟩, ⟨n0, ni⟩, bn, -⟩ := HALL.out W9 _ HK9.out hh.rel
          have bm := (bn _ HX9.out).blk.cell 0
          have bi := (bn _ HX9.out).inside
          simp only [List.getElem?_cons_zero] at bm
          clear bn
          have hJ := Lib.hid hh.st
          clear hh
          go_simp
          exact ⟨_, rfl, KX.refl _ _, rfl, hJ.out⟩
        · refine regs.StepOK.yes 6 true 73 rfl rfl (fun L a w1 hh => hh.dep 6 73 (by kernel_rfl) (by kernel_rfl)) fun L a w1 hh => ?_
          have h75 : a.tmps[75]?.getD undef = .pointer (some ⟨g, 0, none⟩) := by rw [← Array.getD_eq_getD_getElem?]; exact hh.dep 8 75 (by kernel_rfl) (by kernel_rfl)
          obtain ⟨⟨p0, pi⟩, ⟨x0, xi⟩, ⟨n0, ni⟩, bn, -⟩ := HALL.out W9 _ HK9.out hh.rel
          have bm := (bn _ HX9.out).blk.cell 0
          have bi := (bn _ HX9.out).inside
          simp only [List.getElem?_cons_zero] at bm
          clear bn
          have hJ := Lib.hid hh.st
          clear hh
          go_simp
          exact ⟨_, rfl, KX.refl _ _, rfl, hJ.out⟩
        · refine regs.StepOK.yes 6 true 73 rfl rfl (fun L a w1 hh => hh.dep 6 73 (by kernel_rfl) (by kernel_rfl)) fun L a w1 hh => ?_
          have h76 : a.tmps[76]?.getD undef = .pointer (some ⟨g, 0, none⟩) := by rw [← Array.getD_eq_getD_getElem?]; exact hh.dep 9 76 (by kernel_rfl) (by kernel_rfl)
          obtain ⟨⟨p0, pi⟩, ⟨x0, xi⟩, ⟨n0, ni⟩, bn, -⟩ := HALL.out W9 _ HK9.out hh.rel
          have bm := (bn _ HX9.out).blk.cell 0
          have bi := (bn _ HX9.out).inside
          simp only [List.getElem?_cons_zero] at bm
          clear bn
          have hJ := Lib.hid hh.st
          clear hh
          go_simp
          exact ⟨_, rfl, KX.refl _ _, rfl, hJ.out⟩
        · refine regs.StepOK.yes 6 true 73 rfl rfl (fun L a w1 hh => hh.dep 6 73 (by kernel_rfl) (by kernel_rfl)) fun L a w1 hh => ?_
          have h77 : a.tmps[77]?.getD undef = .pointer (some ⟨b, 0, none⟩) := by rw [← Array.getD_eq_getD_getElem?]; exact hh.dep 10 77 (by kernel_rfl) (by kernel_rfl)
          have hC := Lib.hid (HLW.out _ hh.rel)
          have hJ := Lib.hid hh.st
          clear hh
          go_simp
          refine hC.out.mono ?_
          rintro e w9 ⟨A9, c9, rfl, hb9⟩
          exact ⟨_, rfl, (KX.refl _ _).below hb9, ⟨A9, c9, rfl⟩, hJ.out.below hb9⟩
        · refine regs.StepOK.yes 6 true 73 rfl rfl (fun L a w1 hh => hh.dep 6 73 (by kernel_rfl) (by kernel_rfl)) fun L a w1 hh => ?_
          obtain ⟨A9, c9, e9⟩ := hh.dep 11 78 (by kernel_rfl) (by kernel_rfl)
          have h78 : a.tmps[78]?.getD undef = .slice A9 X.length c9 := by rw [← Array.getD_eq_getD_getElem?]; exact e9
          clear e9
          have hJ := Lib.hid hh.st
          clear hh
          go_simp
          exact ⟨_, rfl, KX.refl _ _, rfl, hJ.out⟩
        · refine regs.StepOK.yes 6 true 73 rfl rfl (fun L a w1 hh => hh.dep 6 73 (by kernel_rfl) (by kernel_rfl)) fun L a w1 hh => ?_
          have h8 : a.tmps[8]?.getD undef = .pointer (some ⟨xb, 0, none⟩) := by rw [← Array.getD_eq_getD_getElem?]; exact hh.old 8 rfl
          obtain ⟨⟨p0, pi⟩, ⟨x0, xi⟩, ⟨n0, ni⟩, bn, -⟩ := HALL.out W9 _ HK9.out hh.rel
          have bm := (bn _ HX9.out).blk.cell 0
          have bi := (bn _ HX9.out).inside
          simp only [List.getElem?_cons_zero] at bm
          clear bn
          have hJ := Lib.hid hh.st
          clear hh
          go_simp
          exact ⟨_, rfl, KX.refl _ _, rfl, hJ.out⟩
        · refine regs.StepOK.yes 6 true 73 rfl rfl (fun L a w1 hh => hh.dep 6 73 (by kernel_rfl) (by kernel_rfl)) fun L a w1 hh => ?_
          have h80 : a.tmps[80]?.getD undef = .slice A1 X.length c1 := by rw [← Array.getD_eq_getD_getElem?]; exact hh.dep 13 80 (by kernel_rfl) (by kernel_rfl)
          have hJ := Lib.hid hh.st
          clear hh
          go_simp
          exact ⟨_, rfl, KX.refl _ _, rfl, hJ.out⟩
        · refine regs.StepOK.yes 6 true 73 rfl rfl (fun L a w1 hh => hh.dep 6 73 (by kernel_rfl) (by kernel_rfl)) fun L a w1 hh => ?_
          have h79 : a.tmps[79]?.getD undef = .int .i64 (X.length : Int) := by rw [← Array.getD_eq_getD_getElem?]; exact hh.dep 12 79 (by kernel_rfl) (by kernel_rfl)
          have h81 : a.tmps[81]?.getD undef = .int .i64 (X.length : Int) := by rw [← Array.getD_eq_getD_getElem?]; exact hh.dep 14 81 (by kernel_rfl) (by kernel_rfl)
          have hJ := Lib.hid hh.st
          clear hh
          go_simp
          exact ⟨_, rfl, KX.refl _ _, rfl, hJ.out⟩
        · refine regs.StepOK.plain rfl fun L a w1 hh => ?_
          have h73 : a.tmps[73]?.getD undef = .bool true := by rw [← Array.getD_eq_getD_getElem?]; exact hh.dep 6 73 (by kernel_rfl) (by kernel_rfl)
          have h82 : a.tmps[82]?.getD undef = .bool true := by rw [← Array.getD_eq_getD_getElem?]; exact hh.dep 15 82 (by kernel_rfl) (by kernel_rfl)
          have hJ := Lib.hid hh.st
          clear hh
          go_simp
          exact ⟨_, rfl, KX.refl _ _, rfl, hJ.out⟩
        · refine regs.StepOK.plain rfl fun L a w1 hh => ?_
          have h83 : a.tmps[83]?.getD undef = .bool true := by rw [← Array.getD_eq_getD_getElem?]; exact hh.dep 16 83 (by kernel_rfl) (by kernel_rfl)
          have hJ := Lib.hid hh.st
          clear hh
          go_simp
          exact ⟨_, rfl, KX.refl _ _, rfl, hJ.out⟩
        · refine regs.StepOK.yes 17 true 84 rfl rfl (fun L a w1 hh => hh.dep 17 84 (by kernel_rfl) (by kernel_rfl)) fun L a w1 hh => ?_
          have hC := Lib.hid (HAW.out _ hh.rel)
          have hJ := Lib.hid hh.st
          clear hh
          go_simp
          refine hC.out.mono ?_
          rintro e w9 ⟨rfl, hb9⟩
          exact ⟨_, rfl, (KX.refl _ _).below hb9, rfl, hJ.out.below hb9⟩
        · refine regs.StepOK.plain rfl fun L a w1 hh => ?_
          have h84 : a.tmps[84]?.getD undef = .bool true := by rw [← Array.getD_eq_getD_getElem?]; exact hh.dep 17 84 (by kernel_rfl) (by kernel_rfl)
          have h85 : a.tmps[85]?.getD undef = .bool true := by rw [← Array.getD_eq_getD_getElem?]; exact hh.dep 18 85 (by kernel_rfl) (by kernel_rfl)
          have hJ := Lib.hid hh.st
          clear hh
          go_simp
          exact ⟨_, rfl, KX.refl _ _, rfl, hJ.out⟩
        · refine regs.StepOK.plain rfl fun L a w1 hh => ?_
          have h4 : a.tmps[4]?.getD undef = .pointer (some ⟨w.heap.size + 1, 0, none⟩) := by rw [← Array.getD_eq_getD_getElem?]; exact hh.old 4 rfl
          have h86 : a.tmps[86]?.getD undef = .bool true := by rw [← Array.getD_eq_getD_getElem?]; exact hh.dep 19 86 (by kernel_rfl) (by kernel_rfl)
          obtain ⟨v9, hv9⟩ := hh.st.ex
          have cr := hv9.blk.cell 0
          have fr := hv9.blk.free 0
          have ir := hv9.inside
          simp only [List.getElem?_cons_zero] at cr
          have hP := Lib.hid hh.st.put
          clear hh hv9
          go_simp
          exact ⟨(KX.refl _ _).set _, ⟨undef, trivial⟩, hP.out⟩
        intro L' w8 val hL hJ hR hv
        have HB8 := Lib.hid (hJ.yes (hL 20 (by decide)))
        have HK8 : Hid (KX (w.heap.size + 1) W9 w8) := hR
        clear hv hL hJ hR
        simp only [regs.putAll, List.map_cons, List.map_nil]
        simp only [Act.put, List.setIfInBounds_toArray, List.set_cons_zero, List.set_cons_succ]
        generalize val 67 = z67 at *
        generalize val 68 = z68 at *
        generalize val 69 = z69 at *
        generalize val 70 = z70 at *
        generalize val 71 = z71 at *
        generalize val 72 = z72 at *
        generalize val 73 = z73 at *
        generalize val 74 = z74 at *
        generalize val 75 = z75 at *
        generalize val 76 = z76 at *
        generalize val 77 = z77 at *
        generalize val 78 = z78 at *
        generalize val 79 = z79 at *
        generalize val 80 = z80 at *
        generalize val 81 = z81 at *
        generalize val 82 = z82 at *
        generalize val 83 = z83 at *
        generalize val 84 = z84 at *
        generalize val 85 = z85 at *
        generalize val 86 = z86 at *
        go_wp2_with (fail)
        exact HFI.out _ _ HK8.out HB8.out (by rfl)
      case stopd =>
        rintro D co m W9 hD hle ⟨rfl, hk, hx, hkN⟩ hd
        have hmin : m = min N X.length := by have := HEL.out; omega
        clear hkN
        have HMN := Lib.hid hmin
        have HK9 := Lib.hid hk
        have HX9 := Lib.hid hx
        have HJ9 := Lib.hid (HRG.out W9 hk)
        have HFI : Hid (∀ (tmps : Array Value) (W8 : World), KX (w.heap.size + 1) W9 W8 → BlkT W8 (w.heap.size + 1) [.bool true] tBool → tmps.getD 4 undef = .pointer (some ⟨w.heap.size + 1, 0, none⟩) → postM Try.prog Try.f6 (fun e w' => e = .returned (.bool true) ∧ Below w.heap.size w w') .ret { tmps := tmps, defers := [mk D] } W8) := fun tmps W8 hk8 hb8 hp => by
          have h1 := HBW.out W9 HK9.out
          have h2 := HS0.out
          have h3 := (HBW.out w5 (KX.refl _ _)).size
          have hd8 : W8.heap[D]? = some (.deferred (some [])) := (hk8.same D (Array.getElem?_eq_some_iff.1 hd).1 (by omega)).trans hd
          refine postM_ret w.heap.size ⟨⟨D, rfl, by omega, hd8, by simp⟩, trivial⟩ fun w' hbk => ?_
          have hx' : BlkT w' (w.heap.size + 1) [.bool true] tBool := hbk.keep hb8 rfl
          refine ⟨_, results_cell_bool rfl _ _ hp (hx'.blk.cell 0), rfl, ?_⟩
          have h4 : Below w.heap.size w W8 := (HB0.out.trans (h1.mono HB0.out.size)).trans (hk8.to_below (by omega) (by have := HB0.out.size; have := h1.size; omega))
          exact h4.trans (hbk.below (Nat.le_refl _) h4.size)
        have HLW : Hid (∀ W, KX (w.heap.size + 1) W9 W → Calls Try.prog 25 #[.pointer (some ⟨b, 0, none⟩)] W fun e w' => ∃ A c, e = .returned (.slice A X.length c) ∧ Below W.heap.size W w') := fun W hkk => by
          refine (lwalk (HALL.out W9 W HK9.out hkk).2.2.2.2 (by have := HT0.out.1; omega)).mono ?_
          rintro e w' ⟨v, rfl, ho, hb⟩
          obtain ⟨A, c, rfl, -⟩ := SOwn.row ho rcs_len
          refine ⟨A, c, ?_, hb⟩
          have : (walkL t).length = X.length := by have := HIX.out; unfold walkL; rw [← this, idsL, List.length_map, List.length_map]
          rw [this]
        have HAW : Hid (∀ W, KX (w.heap.size + 1) W9 W → Calls Try.prog 9 #[] W fun e w' => e = .returned (.bool true) ∧ Below W.heap.size W w') := fun W _ => awake_any W
        clear hk hx hmin hd
        go_wp2_with (fail)
        refine regs.wp_region_put (KX (w.heap.size + 1)) (fun L wx => KJ (w.heap.size + 1) (L 20) wx) [67, 68, 69, 70, 71, 72, 73, 74, 75, 76, 77, 78, 79, 80, 81, 82, 83, 84, 85, 86] (by kernel_rfl) (by kernel_rfl) (fun _ => KX.refl _ _) (fun _ _ _ h k => h.trans k) (fun i => (match i with
          | 0 => regs.Say.val _ (.int .i64 (m : Int))
          | 1 => regs.Say.val _ (.int .i64 (N : Int))
          | 2 => regs.Say.val _ (.slice A1 X.length c1)
          | 3 => regs.Say.val _ (.int .i64 (X.length : Int))
          | 4 => regs.Say.val _ (.int .i64 (m : Int))
          | 5 => regs.Say.val _ (.bool true)
          | 6 => regs.Say.val _ (.bool true)
          | 7 => regs.Say.val _ (.pointer (some ⟨g, 0, none⟩))
          | 8 => regs.Say.val _ (.pointer (some ⟨g, 0, none⟩))
          | 9 => regs.Say.val _ (.pointer (some ⟨g, 0, none⟩))
          | 10 => regs.Say.val _ (.pointer (some ⟨b, 0, none⟩))
          | 11 => sayN (w.heap.size + 1) X.length
          | 12 => regs.Say.val _ (.int .i64 (X.length : Int))
          | 13 => regs.Say.val _ (.slice A1 X.length c1)
          | 14 => regs.Say.val _ (.int .i64 (X.length : Int))
          | 15 => regs.Say.val _ (.bool true)
          | 16 => regs.Say.val _ (.bool true)
          | 17 => regs.Say.val _ (.bool true)
          | 18 => regs.Say.val _ (.bool true)
          | 19 => regs.Say.val _ (.bool true)
          | 20 => regs.Say.any _
          | _ => regs.Say.any _ : regs.Say (KX (w.heap.size + 1))).p) (fun _ => regs.Say.mono _) (by kernel_rfl) ((KX.refl _ _).below (Below.refl _ _).drew) (HJ9.out.below (Below.refl _ _).drew) ⟨?_, ?_, ?_, ?_, ?_, ?_, ?_, ?_, ?_, ?_, ?_, ?_, ?_, ?_, ?_, ?_, ?_, ?_, ?_, ?_, ?_, trivial⟩ ?_
        · refine regs.StepOK.plain rfl fun L a w1 hh => ?_
          have h9 : a.tmps[9]?.getD undef = .pointer (some ⟨nb, 0, none⟩) := by rw [← Array.getD_eq_getD_getElem?]; exact hh.old 9 rfl
          obtain ⟨⟨p0, pi⟩, ⟨x0, xi⟩, ⟨n0, ni⟩, bn, -⟩ := HALL.out W9 _ HK9.out hh.rel
          have bm := (bn _ HX9.out).blk.cell 0
          have bi := (bn _ HX9.out).inside
          simp only [List.getElem?_cons_zero] at bm
          clear bn
          have hJ := Lib.hid hh.st
          clear hh
          go_simp
          exact ⟨_, rfl, KX.refl _ _, rfl, hJ.out⟩
        · refine regs.StepOK.plain rfl fun L a w1 hh => ?_
          have h3 : a.tmps[3]?.getD undef = .pointer (some ⟨w.heap.size, 0, none⟩) := by rw [← Array.getD_eq_getD_getElem?]; exact hh.old 3 rfl
          obtain ⟨⟨p0, pi⟩, ⟨x0, xi⟩, ⟨n0, ni⟩, bn, -⟩ := HALL.out W9 _ HK9.out hh.rel
          have bm := (bn _ HX9.out).blk.cell 0
          have bi := (bn _ HX9.out).inside
          simp only [List.getElem?_cons_zero] at bm
          clear bn
          have hJ := Lib.hid hh.st
          clear hh
          go_simp
          exact ⟨_, rfl, KX.refl _ _, rfl, hJ.out⟩
        · refine regs.StepOK.plain rfl fun L a w1 hh => ?_
          have h8 : a.tmps[8]?.getD undef = .pointer (some ⟨xb, 0, none⟩) := by rw [← Array.getD_eq_getD_getElem?]; exact hh.old 8 rfl
          obtain ⟨⟨p0, pi⟩, ⟨x0, xi⟩, ⟨n0, ni⟩, bn, -⟩ := HALL.out W9 _ HK9.out hh.rel
          have bm := (bn _ HX9.out).blk.cell 0
          have bi := (bn _ HX9.out).inside
          simp only [List.getElem?_cons_zero] at bm
          clear bn
          have hJ := Lib.hid hh.st
          clear hh
          go_simp
          exact ⟨_, rfl, KX.refl _ _, rfl, hJ.out⟩
        · refine regs.StepOK.plain rfl fun L a w1 hh => ?_
          have h69 : a.tmps[69]?.getD undef = .slice A1 X.length c1 := by rw [← Array.getD_eq_getD_getElem?]; exact hh.dep 2 69 (by kernel_rfl) (by kernel_rfl)
          have hJ := Lib.hid hh.st
          clear hh
          go_simp
          exact ⟨_, rfl, KX.refl _ _, rfl, hJ.out⟩
        · refine regs.StepOK.plain rfl fun L a w1 hh => ?_
          have h68 : a.tmps[68]?.getD undef = .int .i64 (N : Int) := by rw [← Array.getD_eq_getD_getElem?]; exact hh.dep 1 68 (by kernel_rfl) (by kernel_rfl)
          have h70 : a.tmps[70]?.getD undef = .int .i64 (X.length : Int) := by rw [← Array.getD_eq_getD_getElem?]; exact hh.dep 3 70 (by kernel_rfl) (by kernel_rfl)
          have hmn := fun (P : Program) (w : World) (ts : Array TypeId) (t : TypeId) => min_run P w ts t N X.length m HMN.out
          have hJ := Lib.hid hh.st
          clear hh
          go_simp
          exact ⟨_, rfl, KX.refl _ _, rfl, hJ.out⟩
        · refine regs.StepOK.plain rfl fun L a w1 hh => ?_
          have h67 : a.tmps[67]?.getD undef = .int .i64 (m : Int) := by rw [← Array.getD_eq_getD_getElem?]; exact hh.dep 0 67 (by kernel_rfl) (by kernel_rfl)
          have h71 : a.tmps[71]?.getD undef = .int .i64 (m : Int) := by rw [← Array.getD_eq_getD_getElem?]; exact hh.dep 4 71 (by kernel_rfl) (by kernel_rfl)
          have hJ := Lib.hid hh.st
          clear hh
          go_simp
          exact ⟨_, rfl, KX.refl _ _, rfl, hJ.out⟩
        · refine regs.StepOK.plain rfl fun L a w1 hh => ?_
          have h72 : a.tmps[72]?.getD undef = .bool true := by rw [← Array.getD_eq_getD_getElem?]; exact hh.dep 5 72 (by kernel_rfl) (by kernel_rfl)
          have hJ := Lib.hid hh.st
          clear hh
          go_simp
          exact ⟨_, rfl, KX.refl _ _, rfl, hJ.out⟩
        · refine regs.StepOK.yes 6 true 73 rfl rfl (fun L a w1 hh => hh.dep 6 73 (by kernel_rfl) (by kernel_rfl)) fun L a w1 hh => ?_
          have h5 : a.tmps[5]?.getD undef = .pointer (some ⟨g, 0, none⟩) := by rw [← Array.getD_eq_getD_getElem?]; exact hh.old 5 rfl
          have hJ := Lib.hid hh.st
          clear hh
          go_simp
          exact ⟨_, rfl, KX.refl _ _, rfl, hJ.out⟩
        · refine regs.StepOK.yes 6 true 73 rfl rfl (fun L a w1 hh => hh.dep 6 73 (by kernel_rfl) (by kernel_rfl)) fun L a w1 hh => ?_
          have h74 : a.tmps[74]?.getD undef = .pointer (some ⟨g, 0, none⟩) := by rw [← Array.getD_eq_getD_getElem?]; exact hh.dep 7 74 (by kernel_rfl) (by kernel_rfl)
          obtain ⟨⟨p0, pi⟩, ⟨x0, xi⟩, ⟨n0, ni⟩, bn, -⟩ := HALL.out W9 _ HK9.out hh.rel
          have bm := (bn _ HX9.out).blk.cell 0
          have bi := (bn _ HX9.out).inside
          simp only [List.getElem?_cons_zero] at bm
          clear bn
          have hJ := Lib.hid hh.st
          clear hh
          go_simp
          exact ⟨_, rfl, KX.refl _ _, rfl, hJ.out⟩
        · refine regs.StepOK.yes 6 true 73 rfl rfl (fun L a w1 hh => hh.dep 6 73 (by kernel_rfl) (by kernel_rfl)) fun L a w1 hh => ?_
          have h75 : a.tmps[75]?.getD undef = .pointer (some ⟨g, 0, none⟩) := by rw [← Array.getD_eq_getD_getElem?]; exact hh.dep 8 75 (by kernel_rfl) (by kernel_rfl)
          obtain ⟨⟨p0, pi⟩, ⟨x0, xi⟩, ⟨n0, ni⟩, bn, -⟩ := HALL.out W9 _ HK9.out hh.rel
          have bm := (bn _ HX9.out).blk.cell 0
          have bi := (bn _ HX9.out).inside
          simp only [List.getElem?_cons_zero] at bm
          clear bn
          have hJ := Lib.hid hh.st
          clear hh
          go_simp
          exact ⟨_, rfl, KX.refl _ _, rfl, hJ.out⟩
        · refine regs.StepOK.yes 6 true 73 rfl rfl (fun L a w1 hh => hh.dep 6 73 (by kernel_rfl) (by kernel_rfl)) fun L a w1 hh => ?_
          have h76 : a.tmps[76]?.getD undef = .pointer (some ⟨g, 0, none⟩) := by rw [← Array.getD_eq_getD_getElem?]; exact hh.dep 9 76 (by kernel_rfl) (by kernel_rfl)
          obtain ⟨⟨p0, pi⟩, ⟨x0, xi⟩, ⟨n0, ni⟩, bn, -⟩ := HALL.out W9 _ HK9.out hh.rel
          have bm := (bn _ HX9.out).blk.cell 0
          have bi := (bn _ HX9.out).inside
          simp only [List.getElem?_cons_zero] at bm
          clear bn
          have hJ := Lib.hid hh.st
          clear hh
          go_simp
          exact ⟨_, rfl, KX.refl _ _, rfl, hJ.out⟩
        · refine regs.StepOK.yes 6 true 73 rfl rfl (fun L a w1 hh => hh.dep 6 73 (by kernel_rfl) (by kernel_rfl)) fun L a w1 hh => ?_
          have h77 : a.tmps[77]?.getD undef = .pointer (some ⟨b, 0, none⟩) := by rw [← Array.getD_eq_getD_getElem?]; exact hh.dep 10 77 (by kernel_rfl) (by kernel_rfl)
          have hC := Lib.hid (HLW.out _ hh.rel)
          have hJ := Lib.hid hh.st
          clear hh
          go_simp
          refine hC.out.mono ?_
          rintro e w9 ⟨A9, c9, rfl, hb9⟩
          exact ⟨_, rfl, (KX.refl _ _).below hb9, ⟨A9, c9, rfl⟩, hJ.out.below hb9⟩
        · refine regs.StepOK.yes 6 true 73 rfl rfl (fun L a w1 hh => hh.dep 6 73 (by kernel_rfl) (by kernel_rfl)) fun L a w1 hh => ?_
          obtain ⟨A9, c9, e9⟩ := hh.dep 11 78 (by kernel_rfl) (by kernel_rfl)
          have h78 : a.tmps[78]?.getD undef = .slice A9 X.length c9 := by rw [← Array.getD_eq_getD_getElem?]; exact e9
          clear e9
          have hJ := Lib.hid hh.st
          clear hh
          go_simp
          exact ⟨_, rfl, KX.refl _ _, rfl, hJ.out⟩
        · refine regs.StepOK.yes 6 true 73 rfl rfl (fun L a w1 hh => hh.dep 6 73 (by kernel_rfl) (by kernel_rfl)) fun L a w1 hh => ?_
          have h8 : a.tmps[8]?.getD undef = .pointer (some ⟨xb, 0, none⟩) := by rw [← Array.getD_eq_getD_getElem?]; exact hh.old 8 rfl
          obtain ⟨⟨p0, pi⟩, ⟨x0, xi⟩, ⟨n0, ni⟩, bn, -⟩ := HALL.out W9 _ HK9.out hh.rel
          have bm := (bn _ HX9.out).blk.cell 0
          have bi := (bn _ HX9.out).inside
          simp only [List.getElem?_cons_zero] at bm
          clear bn
          have hJ := Lib.hid hh.st
          clear hh
          go_simp
          exact ⟨_, rfl, KX.refl _ _, rfl, hJ.out⟩
        · refine regs.StepOK.yes 6 true 73 rfl rfl (fun L a w1 hh => hh.dep 6 73 (by kernel_rfl) (by kernel_rfl)) fun L a w1 hh => ?_
          have h80 : a.tmps[80]?.getD undef = .slice A1 X.length c1 := by rw [← Array.getD_eq_getD_getElem?]; exact hh.dep 13 80 (by kernel_rfl) (by kernel_rfl)
          have hJ := Lib.hid hh.st
          clear hh
          go_simp
          exact ⟨_, rfl, KX.refl _ _, rfl, hJ.out⟩
        · refine regs.StepOK.yes 6 true 73 rfl rfl (fun L a w1 hh => hh.dep 6 73 (by kernel_rfl) (by kernel_rfl)) fun L a w1 hh => ?_
          have h79 : a.tmps[79]?.getD undef = .int .i64 (X.length : Int) := by rw [← Array.getD_eq_getD_getElem?]; exact hh.dep 12 79 (by kernel_rfl) (by kernel_rfl)
          have h81 : a.tmps[81]?.getD undef = .int .i64 (X.length : Int) := by rw [← Array.getD_eq_getD_getElem?]; exact hh.dep 14 81 (by kernel_rfl) (by kernel_rfl)
          have hJ := Lib.hid hh.st
          clear hh
          go_simp
          exact ⟨_, rfl, KX.refl _ _, rfl, hJ.out⟩
        · refine regs.StepOK.plain rfl fun L a w1 hh => ?_
          have h73 : a.tmps[73]?.getD undef = .bool true := by rw [← Array.getD_eq_getD_getElem?]; exact hh.dep 6 73 (by kernel_rfl) (by kernel_rfl)
          have h82 : a.tmps[82]?.getD undef = .bool true := by rw [← Array.getD_eq_getD_getElem?]; exact hh.dep 15 82 (by kernel_rfl) (by kernel_rfl)
          have hJ := Lib.hid hh.st
          clear hh
          go_simp
          exact ⟨_, rfl, KX.refl _ _, rfl, hJ.out⟩
        · refine regs.StepOK.plain rfl fun L a w1 hh => ?_
          have h83 : a.tmps[83]?.getD undef = .bool true := by rw [← Array.getD_eq_getD_getElem?]; exact hh.dep 16 83 (by kernel_rfl) (by kernel_rfl)
          have hJ := Lib.hid hh.st
          clear hh
          go_simp
          exact ⟨_, rfl, KX.refl _ _, rfl, hJ.out⟩
        · refine regs.StepOK.yes 17 true 84 rfl rfl (fun L a w1 hh => hh.dep 17 84 (by kernel_rfl) (by kernel_rfl)) fun L a w1 hh => ?_
          have hC := Lib.hid (HAW.out _ hh.rel)
          have hJ := Lib.hid hh.st
          clear hh
          go_simp
          refine hC.out.mono ?_
          rintro e w9 ⟨rfl, hb9⟩
          exact ⟨_, rfl, (KX.refl _ _).below hb9, rfl, hJ.out.below hb9⟩
        · refine regs.StepOK.plain rfl fun L a w1 hh => ?_
          have h84 : a.tmps[84]?.getD undef = .bool true := by rw [← Array.getD_eq_getD_getElem?]; exact hh.dep 17 84 (by kernel_rfl) (by kernel_rfl)
          have h85 : a.tmps[85]?.getD undef = .bool true := by rw [← Array.getD_eq_getD_getElem?]; exact hh.dep 18 85 (by kernel_rfl) (by kernel_rfl)
          have hJ := Lib.hid hh.st
          clear hh
          go_simp
          exact ⟨_, rfl, KX.refl _ _, rfl, hJ.out⟩
        · refine regs.StepOK.plain rfl fun L a w1 hh => ?_
          have h4 : a.tmps[4]?.getD undef = .pointer (some ⟨w.heap.size + 1, 0, none⟩) := by rw [← Array.getD_eq_getD_getElem?]; exact hh.old 4 rfl
          have h86 : a.tmps[86]?.getD undef = .bool true := by rw [← Array.getD_eq_getD_getElem?]; exact hh.dep 19 86 (by kernel_rfl) (by kernel_rfl)
          obtain ⟨v9, hv9⟩ := hh.st.ex
          have cr := hv9.blk.cell 0
          have fr := hv9.blk.free 0
          have ir := hv9.inside
          simp only [List.getElem?_cons_zero] at cr
          have hP := Lib.hid hh.st.put
          clear hh hv9
          go_simp
          exact ⟨(KX.refl _ _).set _, ⟨undef, trivial⟩, hP.out⟩
        intro L' w8 val hL hJ hR hv
        have HB8 := Lib.hid (hJ.yes (hL 20 (by decide)))
        have HK8 : Hid (KX (w.heap.size + 1) W9 w8) := hR
        clear hv hL hJ hR
        simp only [regs.putAll, List.map_cons, List.map_nil]
        simp only [Act.put, List.setIfInBounds_toArray, List.set_cons_zero, List.set_cons_succ]
        generalize val 67 = z67 at *
        generalize val 68 = z68 at *
        generalize val 69 = z69 at *
        generalize val 70 = z70 at *
        generalize val 71 = z71 at *
        generalize val 72 = z72 at *
        generalize val 73 = z73 at *
        generalize val 74 = z74 at *
        generalize val 75 = z75 at *
        generalize val 76 = z76 at *
        generalize val 77 = z77 at *
        generalize val 78 = z78 at *
        generalize val 79 = z79 at *
        generalize val 80 = z80 at *
        generalize val 81 = z81 at *
        generalize val 82 = z82 at *
        generalize val 83 = z83 at *
        generalize val 84 = z84 at *
        generalize val 85 = z85 at *
        generalize val 86 = z86 at *
        go_wp2_with (fail)
        exact HFI.out _ _ HK8.out HB8.out (by rfl)
end Go.Proofs.Ytokochkjjlbnkaa
