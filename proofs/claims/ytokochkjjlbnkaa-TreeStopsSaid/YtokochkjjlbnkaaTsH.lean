/-
  Layer 12: the law's own walk.
-/
import Derived.Test.YtokochkjjlbnkaaTsG
namespace Go.Proofs.Ytokochkjjlbnkaa
open Go.RowKit trm itr Go.Shelf

attribute [local go_sem] Oper.semAt_some
/-- all stays but one block, and what is new -/
structure KX (x : Nat) (A W : World) : Prop where
  os : W.os = A.os
  tape : W.tape = A.tape
  output : W.output = A.output
  size : A.heap.size ≤ W.heap.size
  same : ∀ k, k < A.heap.size → k ≠ x → W.heap[k]? = A.heap[k]?
theorem KX.refl (x : Nat) (A : World) : KX x A A := ⟨rfl, rfl, rfl, Nat.le_refl _, fun _ _ _ => rfl⟩
theorem KX.below {x : Nat} {A W W' : World} (h : KX x A W) (hb : Below A.heap.size W W') : KX x A W' := ⟨hb.os.trans h.os, hb.tape.trans h.tape, hb.output.trans h.output, Nat.le_trans h.size hb.size, fun k hk hn => (hb.block k hk).trans (h.same k hk hn)⟩
theorem KX.grown {x : Nat} {A W W' : World} {row : Option Nat} (h : KX x A W) (hg : W.grownBy W' row) (hr : ∀ j, row = some j → A.heap.size ≤ j) : KX x A W' := ⟨hg.os.trans h.os, hg.tape.trans h.tape, hg.output.trans h.output, Nat.le_trans h.size hg.size, fun k hk hn => (hg.block k (Nat.lt_of_lt_of_le hk h.size) fun e => by have := hr k e.symm; omega).trans (h.same k hk hn)⟩
theorem KX.set {x : Nat} {A W : World} (h : KX x A W) (v : Value) : KX x A (W.setCell ⟨x, 0, none⟩ v) := ⟨h.os, h.tape, h.output, by simpa [World.setCell] using h.size, fun k hk hn => (heap_setCell_other _ _ _ _ hn).trans (h.same k hk hn)⟩
theorem KX.bk {x : Nat} {A W W' : World} (h : KX x A W) (hb : Bk A.heap.size W W') : KX x A W' := h.below (hb.below (Nat.le_refl _) h.size)
theorem KX.to_below {x n : Nat} {A W : World} (h : KX x A W) (hn : n ≤ x) (hs : n ≤ A.heap.size) : Below n A W := ⟨h.os, h.tape, h.output, h.size, fun k hk => h.same k (by omega) (by omega)⟩
/-- what the iterator of a tree's walk reads, still -/
theorem prs_of {ib db x base : Nat} {v1 v2 : Value} {l1 l2 : List Int} {w : World} (hx : x < base) (h1 : base ≤ ib) (h2 : base ≤ db) (b1 : BlkT w ib [v1] tInts) (b2 : BlkT w db [v2] tInts) (o1 : IOwn w base v1 l1) (o2 : IOwn w base v2 l2) :
    ∃ A1 A2 c1 c2, ∀ W, KX x w W → Prs ib db A1 A2 c1 c2 l1 l2 W := by
  obtain ⟨A1, c1, e1, -, -, r1⟩ := IOwn.irow o1
  obtain ⟨A2, c2, e2, -, -, r2⟩ := IOwn.irow o2
  refine ⟨A1, A2, c1, c2, fun W hk => ?_⟩
  have o1' : IOwn W base v1 l1 := SOwn.stays o1 fun k hk' => by
    have := SOwn.block o1 hk'
    exact hk.same k this.2 (by omega)
  have o2' : IOwn W base v2 l2 := SOwn.stays o2 fun k hk' => by
    have := SOwn.block o2 hk'
    exact hk.same k this.2 (by omega)
  obtain ⟨A1', c1', e1', -, -, r1'⟩ := IOwn.irow o1'
  obtain ⟨A2', c2', e2', -, -, r2'⟩ := IOwn.irow o2'
  have f1 := e1.symm.trans e1'
  have f2 := e2.symm.trans e2'
  injection f1 with f1 _ _
  injection f2 with f2 _ _
  have q1 := (b1.stays (hk.same ib b1.inside (by omega))).blk.cell 0
  have q2 := (b2.stays (hk.same db b2.inside (by omega))).blk.cell 0
  rw [e1] at q1
  rw [e2] at q2
  exact ⟨q1, q2, by rw [f1]; exact r1', by rw [f2]; exact r2'⟩
/-- a walk's rows, as the law has them -/
def walkL (t : T) : List (Int × Int) := (wd t 0 0).map fun p => (p.1, (p.2 : Int))
abbrev tPair : TypeId := 79
abbrev tPairs : TypeId := 48
theorem info_pair : (Try.prog.info? tPair).map (fun i => (i.zero, i.size, i.bytes)) = some (some (.agg #[.int .i64 0, .int .i64 0]), 2, 16) := by kernel_rfl
abbrev WOwn (w : World) (base : Nat) (v : Value) (l : List (Int × Int)) : Prop := SOwn tPair 2 rcs w base v l
theorem app_pair {w : World} {base : Nat} {v : Value} {l : List (Int × Int)} (h : WOwn w base v l) (x y : Int) {c : Nat} (hn : l.length ≤ 900000000) (hbase : base ≤ w.heap.size) :
    ∃ v' w', (Builtin.append_ #[tPairs, tPairs] tPairs #[v, .slice (some ⟨w.heap.size, 0, none⟩) 1 c]).run Try.prog (w.alloc (.cells #[.int .i64 x, .int .i64 y] tPair)) = .ok v' w' ∧ WOwn w' base v' (l ++ [(x, y)]) ∧
      (w.alloc (.cells #[.int .i64 x, .int .i64 y] tPair)).grownBy w' v.ownBlock ∧ (v'.ownBlock = v.ownBlock ∨ v'.ownBlock = some (w.heap.size + 1)) := by
  obtain ⟨v', w', h1, h2, h3, h4⟩ := SOwn.app (P := Try.prog) (xs := [(x, y)]) (c := c) (g := w.heap.size) (o := 0) Try.underlying48 info_pair rfl (by decide) (by decide) rcs_len rcs_plain
    (h.below ((Below.refl _ _).alloc (Nat.le_refl _) (.cells #[.int .i64 x, .int .i64 y] tPair))) (fun _ => srow_new (enc := rcs) rcs_len w [(x, y)] _ rfl) (by simp; omega) (by simp; omega)
  refine ⟨v', w', h1, h2, h3, ?_⟩
  simpa using h4
section
variable {w : World} {b : Nat} {s : Sh} {t : T}
def LWalkQ (t : T) (w : World) (e : Ending) (w' : World) : Prop := ∃ v, e = .returned v ∧ WOwn w' w.heap.size v (walkL t) ∧ Below w.heap.size w w'
set_option maxRecDepth 100000 in
set_option maxHeartbeats 2000000 in
theorem lwalk (h : TreeAt w b s t) (hn : t.length ≤ 1000) : Calls Try.prog 25 #[.pointer (some ⟨b, 0, none⟩)] w (LWalkQ t w) := by
  unfold LWalkQ
  obtain ⟨w0, hw0⟩ : ∃ w0, w0 = w.alloc (.cells #[.slice none 0 0] tPairs) := ⟨_, rfl⟩
  have hb0 : Below w.heap.size w w0 := by rw [hw0]; exact (Below.refl _ _).alloc (Nat.le_refl _) _
  have hx0 : BlkT w0 w.heap.size [.slice none 0 0] tPairs := by rw [hw0]; exact BlkT.new w _ _
  have HC := Lib.hid (twalk (h.below hb0) hn)
  have HLE : Hid ((wd t 0 0).length ≤ 1001) := by
    have := walk_le h.ok (.inl rfl : (0 : Int) = 0 ∨ 0 ∈ ids t)
    rw [wd_len]
    show _ ≤ _
    omega
  have HB0 := Lib.hid hb0
  have HX0 := Lib.hid hx0
  have HW0 := Lib.hid hw0
  clear h hn hb0 hx0
  rw [hw0] at HC
  clear hw0
  refine calls_of_marks Try.func25 rfl ?_
  simp only [Try.ntmps25, List.size_toArray, List.length_cons, List.length_nil, Nat.reduceAdd, Nat.reduceSub, Array.replicate_succ, Array.replicate_zero, List.push_toArray, List.append_toArray, List.nil_append, List.cons_append]
  go_wp2_with (fail)
  refine HC.out.mono ?_
  rintro e w2 ⟨ib, db, v1, v2, rfl, hi1, hi2, hx1, hx2, ho1, ho2, hb2⟩
  rw [← HW0.out] at hi1 hi2 ho1 ho2 hb2
  have hsz : w0.heap.size = w.heap.size + 1 := by rw [HW0.out]; simp
  obtain ⟨A1, A2, c1, c2, hprs⟩ := prs_of (x := w.heap.size) (by omega) hi1 hi2 hx1 hx2 ho1 ho2
  have HPR := Lib.hid hprs
  have HB2 : Hid (Below w.heap.size w w2) := HB0.out.trans (hb2.mono HB0.out.size)
  have HX2 : Hid (BlkT w2 w.heap.size [.slice none 0 0] tPairs) := HX0.out.stays (hb2.block _ HX0.out.inside)
  clear hi1 hi2 hx1 hx2 ho1 ho2 hb2 hsz hprs HC HB0 HX0
  go_wp2_with (fail)
  refine wp_range (gf := 43) (lb := #[.pointer (some ⟨ib, 0, none⟩), .pointer (some ⟨db, 0, none⟩)]) rfl (enters_of Try.func43 (by kernel_rfl) rfl) (es := pairE (idsL t) (depL t)) (R := fun _ => Eq)
    (Kp := fun A B => Prs ib db A1 A2 c1 c2 (idsL t) (depL t) A → Prs ib db A1 A2 c1 c2 (idsL t) (depL t) B)
    (fun W1 hb => pair_iter (by have := HLE.out; simp [idsL]; omega) (by simp [idsL, depL]) (HPR.out W1 ((KX.refl _ _).bk hb))) (fun h k x => k (h x)) (fun A B hb h => h.cells fun a v => cell_bk hb) (fun n A B e k o _ hk _ => e ▸ hk)
    (fun e he => by obtain ⟨j, _, rfl⟩ := List.mem_map.1 he; rfl)
    (fun k W => KX w.heap.size w2 W ∧ ∃ v, BlkT W w.heap.size [v] tPairs ∧ WOwn W w2.heap.size v ((walkL t).take k))
    (fun _ _ _ => False) (fun k A B h hr => ?hI) (fun _ _ _ _ h _ => h.elim) ⟨KX.refl _ _, _, HX2.out, SOwn.nil _ _⟩ ?a1 ?assign ?body ?done (fun _ _ _ _ _ _ h _ => h.elim)
  case hI =>
    obtain ⟨hk, v, hx, ho⟩ := h
    rcases hr with ⟨n, hn, rfl⟩ | hb
    · exact ⟨hk, v, hx, ho⟩
    · exact ⟨hk.bk hb, v, hx.bk hb, SOwn.bk ho hb⟩
  case assign =>
    intro l j hj W9 KK hKK
    rw [pairE_at]
    gi_wp2
    exact hKK
  case done =>
    rintro D W9 hD ⟨hk, v, hx, ho⟩ hd
    rw [pairE_len, List.take_of_length_le (by simp [walkL, idsL])] at ho
    have hs2 := HB2.out.size
    have hDw : w.heap.size ≤ D := Nat.le_trans hs2 hD
    have cb := hx.blk.cell 0
    have zb := hx.inside
    simp only [List.getElem?_cons_zero] at cb
    have HZ := Lib.hid (And.intro hk (And.intro ho hd))
    clear hk hx ho hs2
    go_wp2_with (fail)
    refine postM_ret w.heap.size ⟨⟨D, rfl, hDw, hd, by simp⟩, trivial⟩ fun w' hb => ⟨_, results_tmp rfl _ _ _, ?_⟩
    obtain ⟨hk, ho, -⟩ := HZ.out
    have hb3 := HB2.out.trans (hk.to_below (Nat.le_refl _) HB2.out.size)
    exact ⟨v, rfl, SOwn.weaken (SOwn.bk ho hb) HB2.out.size, hb3.trans (hb.below (Nat.le_refl _) hb3.size)⟩
  case body =>
    rintro l j hj W9 ⟨hk, v, hx, ho⟩
    have hjl : j < (wd t 0 0).length := by rw [pairE_len, idsL] at hj; simpa using hj
    obtain ⟨x, d, hxd⟩ : ∃ x d, (wd t 0 0)[j] = (x, d) := ⟨_, _, rfl⟩
    have h1 : ((idsL t)[j]?.getD 0 : Int) = x := by rw [idsL, List.getElem?_map, List.getElem?_eq_getElem hjl, hxd]; rfl
    have h2 : ((depL t)[j]?.getD 0 : Int) = (d : Int) := by rw [depL, List.getElem?_map, List.getElem?_eq_getElem hjl, hxd]; rfl
    have htk : (walkL t).take (j + 1) = (walkL t).take j ++ [(x, (d : Int))] := by
      unfold walkL
      rw [List.take_succ_eq_append_getElem (by rw [List.length_map]; exact hjl), List.getElem_map, hxd]
    have hll : ((walkL t).take j).length ≤ 900000000 := by have := HLE.out; rw [List.length_take, walkL, List.length_map]; omega
    have hsz := hk.size
    obtain ⟨v', w7, hrun, own7, hgr, hat⟩ := app_pair ho x (d : Int) (c := 1) hll hsz
    obtain ⟨A3, n3, c3, rfl⟩ := SOwn.shape ho
    obtain ⟨A4, n4, c4, hv4⟩ := SOwn.shape own7
    have hbw : Below W9.heap.size W9 (W9.alloc (.cells #[.int .i64 x, .int .i64 (d : Int)] tPair)) := (Below.refl _ _).alloc (Nat.le_refl _) _
    have hob : ∀ j', (Value.slice A3 n3 c3).ownBlock = some j' → w2.heap.size ≤ j' ∧ j' < W9.heap.size := fun j' hj' => SOwn.block ho hj'
    have hs2 := HB2.out.size
    have hwx : w.heap.size < w2.heap.size := HX2.out.inside
    have b7 : BlkT w7 w.heap.size [.slice A3 n3 c3] tPairs := (hx.stays (hbw.block _ hx.inside)).stays (hgr.block _ (by simp; have := hx.inside; omega) fun e => by have := hob _ e.symm; omega)
    have HF : Hid (KB W9 (w7.setCell ⟨w.heap.size, 0, none⟩ v') ∧ (Prs ib db A1 A2 c1 c2 (idsL t) (depL t) W9 → Prs ib db A1 A2 c1 c2 (idsL t) (depL t) (w7.setCell ⟨w.heap.size, 0, none⟩ v')) ∧
        KX w.heap.size w2 (w7.setCell ⟨w.heap.size, 0, none⟩ v') ∧ ∃ v, BlkT (w7.setCell ⟨w.heap.size, 0, none⟩ v') w.heap.size [v] tPairs ∧ WOwn (w7.setCell ⟨w.heap.size, 0, none⟩ v') w2.heap.size v ((walkL t).take (j + 1))) := by
      have hk7 : KX w.heap.size w2 (w7.setCell ⟨w.heap.size, 0, none⟩ v') := ((hk.below (hbw.mono hk.size)).grown hgr fun j' hj' => (hob j' hj').1).set v'
      refine ⟨((KB.below hbw).trans (KB.of_grown hgr fun j' o hj' ho' => ?_)).trans (KB.set (a := ⟨w.heap.size, 0, none⟩) b7 rfl v'), fun _ => HPR.out _ hk7, hk7, v', b7.set 0 v', ?_⟩
      · obtain ⟨cu, hc⟩ := SOwn.typed ho hj'
        rw [(hbw.block _ (Array.getElem?_eq_some_iff.1 hc).1).trans hc] at ho'
        cases ho'
        rfl
      · rw [htk]
        refine SOwn.stays own7 fun k' hk' => heap_setCell_other _ _ _ _ fun (e : k' = w.heap.size) => ?_
        have := (SOwn.block own7 hk').1
        omega
    rw [h1, h2]
    rw [hv4] at HF hrun
    have cb := hx.blk.cell 0
    have zb := hx.inside
    have cb7 := b7.blk.cell 0
    have fb7 := b7.blk.free 0
    have zb7 := b7.inside
    simp only [List.getElem?_cons_zero] at cb cb7
    clear hk hx ho hj hjl hxd h1 h2 htk hll hsz own7 hgr hat hv4 hbw hob hs2 hwx b7
    gi_wp2_with (gi_at_builtin; refine wpl_append_in rfl _ _ 48 48 48 rfl rfl _ _ _ _ rfl rfl hrun ?_; clear hrun)
    exact HF.out
end
end Go.Proofs.Ytokochkjjlbnkaa
