/-
  Layer 19: ops copied; an op's plain form, by the program and by the document.
-/
import Derived.Test.YtgadheamldianaaEvL
namespace Go.Proofs.Ytgadheamldianaa
open Go.RowKit pxm imm

/-- all stays but one block, and what is new -/
structure KX (x : Nat) (A W : World) : Prop where
  os : W.os = A.os
  tape : W.tape = A.tape
  output : W.output = A.output
  size : A.heap.size ≤ W.heap.size
  same : ∀ k, k < A.heap.size → k ≠ x → W.heap[k]? = A.heap[k]?
theorem KX.refl (x : Nat) (A : World) : KX x A A := ⟨rfl, rfl, rfl, Nat.le_refl _, fun _ _ _ => rfl⟩
theorem KX.trans {x : Nat} {A B C : World} (h : KX x A B) (k : KX x B C) : KX x A C := ⟨k.os.trans h.os, k.tape.trans h.tape, k.output.trans h.output, Nat.le_trans h.size k.size, fun j hj hn => (k.same j (Nat.lt_of_lt_of_le hj h.size) hn).trans (h.same j hj hn)⟩
theorem KX.of_below {x : Nat} {A W : World} (hb : Below A.heap.size A W) : KX x A W := ⟨hb.os, hb.tape, hb.output, hb.size, fun k hk _ => hb.block k hk⟩
theorem KX.to_below {x n : Nat} {A W : World} (h : KX x A W) (hn : n ≤ x) (hs : n ≤ A.heap.size) : Below n A W := ⟨h.os, h.tape, h.output, h.size, fun k hk => h.same k (by omega) (by omega)⟩
theorem KX.wrote {x : Nat} {A W : World} (hW : Wrote x A W) : KX x A W := by
  have hb := hW.below (Below.refl 0 A) (Nat.zero_le _)
  exact ⟨hb.os, hb.tape, hb.output, hb.size, fun k _ hn => hW.far hn⟩
/-- pixels that lie behind a border -/
def Pa (w : World) (base : Nat) (A : Option Addr) (l : List Nat) : Prop := Row eW w A l ∧ ∀ a, A = some a → l ≠ [] → base ≤ a.block
theorem Row.inside {w : World} {A : Option Addr} {l : List Nat} (h : Row eW w A l) {a : Addr} (e : A = some a) (hne : l ≠ []) : a.block < w.heap.size := by
  obtain ⟨b, off, e2, hc⟩ := h (List.length_pos_iff.2 hne)
  rw [e] at e2
  obtain rfl := Option.some.inj e2
  exact World.block_lt_of_cell? w ⟨b, off + 0, none⟩ (hc 0 (List.length_pos_iff.2 hne))
theorem Row.stays_ {w w' : World} {A : Option Addr} {l : List Nat} (h : Row eW w A l) (hb : ∀ a, A = some a → l ≠ [] → w'.heap[a.block]? = w.heap[a.block]?) : Row eW w' A l := fun hn => by
  have hne := List.length_pos_iff.1 hn
  obtain ⟨b, off, e, hc⟩ := h hn
  refine ⟨b, off, e, fun j hj => ?_⟩
  have h1 := hc j hj
  simp only [World.cell?, hb _ e hne] at h1 ⊢
  exact h1
theorem Pa.stays {w w' : World} {base : Nat} {A : Option Addr} {l : List Nat} (h : Pa w base A l) (hb : ∀ k, k < w.heap.size → base ≤ k → w'.heap[k]? = w.heap[k]?) : Pa w' base A l :=
  ⟨h.1.stays_ fun a e hne => hb _ (h.1.inside e hne) (h.2 a e hne), h.2⟩
theorem Pa.of {w : World} {base B : Nat} {A : Option Addr} {l : List Nat} {c : Nat} (h : Pxs w base A l c) (hB : B ≤ base) : Pa w B A l :=
  ⟨h.1, fun a e hne => by
    obtain ⟨b, off, e2, -⟩ := h.1 (List.length_pos_iff.2 hne)
    rw [e] at e2
    obtain rfl := Option.some.inj e2
    exact Nat.le_trans hB (h.2.1 b off e).1⟩
theorem Pa.ge {w : World} {base B : Nat} {A : Option Addr} {l : List Nat} (h : Pa w base A l) (hB : B ≤ base) : Pa w B A l := ⟨h.1, fun a e hne => Nat.le_trans hB (h.2 a e hne)⟩
theorem Pa.no (w : World) (base : Nat) : Pa w base none [] := ⟨Row.none_ rfl, fun _ e => (nomatch e)⟩
def OpQ (o : Op9) (w : World) (e : Ending) (w' : World) : Prop := ∃ A9 c9, e = .returned (.agg (o.cs A9 c9).toArray) ∧ Pa w' w.heap.size A9 o.lk.l ∧ Below w.heap.size w w'
theorem OpQ.of {o : Op9} {w w' : World} {A9 : Option Addr} {c9 : Nat} (h1 : Pa w' w.heap.size A9 o.lk.l) (h2 : Below w.heap.size w w') : OpQ o w (.returned (.agg (o.cs A9 c9).toArray)) w' := ⟨A9, c9, rfl, h1, h2⟩
/-- an op's plain form -/
def plainO (o : Op9) : Op9 :=
  if o.k = 1 ∨ o.k = 3 then { Op9.o with k := o.k, i := o.i, p := o.p, n := o.n } else if o.k = 2 then { Op9.o with k := o.k, i := o.i } else if o.k = 4 then { Op9.o with k := o.k, i := o.i, m := o.m }
  else if o.k = 5 then { Op9.o with k := o.k, i := o.i, on := o.on, r := o.r } else if o.k = 6 then { Op9.o with k := o.k, i := o.i, N := o.N } else if o.k = 7 then { Op9.o with k := o.k, i := o.i, lk := o.lk }
  else if o.k = 8 then { Op9.o with k := o.k, i := o.i, on := o.on } else { Op9.o with k := o.k }
theorem build_p1 (k i p n : Int) (w : World) : (Instr.build 52 #[(0, .int .i64 k), (1, .int .i64 i), (2, .int .i64 p), (3, .int .i64 n)]).run Try.prog w = .ok (.agg (({ Op9.o with k := k, i := i, p := p, n := n } : Op9).cs none 0).toArray) w := by kernel_rfl
theorem build_p2 (k i : Int) (w : World) : (Instr.build 52 #[(0, .int .i64 k), (1, .int .i64 i)]).run Try.prog w = .ok (.agg (({ Op9.o with k := k, i := i } : Op9).cs none 0).toArray) w := by kernel_rfl
theorem build_p4 (k i : Int) (m : Mp) (w : World) : (Instr.build 52 #[(0, .int .i64 k), (1, .int .i64 i), (4, .agg m.cs.toArray)]).run Try.prog w = .ok (.agg (({ Op9.o with k := k, i := i, m := m } : Op9).cs none 0).toArray) w := by kernel_rfl
theorem build_p5 (k i : Int) (b : Bool) (r : Bx) (w : World) : (Instr.build 52 #[(0, .int .i64 k), (1, .int .i64 i), (6, .bool b), (5, .agg r.cs4.toArray)]).run Try.prog w = .ok (.agg (({ Op9.o with k := k, i := i, on := b, r := r } : Op9).cs none 0).toArray) w := by kernel_rfl
theorem build_p6 (k i n : Int) (w : World) : (Instr.build 52 #[(0, .int .i64 k), (1, .int .i64 i), (7, .int .i64 n)]).run Try.prog w = .ok (.agg (({ Op9.o with k := k, i := i, N := n } : Op9).cs none 0).toArray) w := by kernel_rfl
theorem build_p7 (k i : Int) (q : Lk) (A : Option Addr) (c : Nat) (w : World) : (Instr.build 52 #[(0, .int .i64 k), (1, .int .i64 i), (8, .agg (q.cs A c).toArray)]).run Try.prog w = .ok (.agg (({ Op9.o with k := k, i := i, lk := q } : Op9).cs A c).toArray) w := by kernel_rfl
theorem build_p8 (k i : Int) (b : Bool) (w : World) : (Instr.build 52 #[(0, .int .i64 k), (1, .int .i64 i), (6, .bool b)]).run Try.prog w = .ok (.agg (({ Op9.o with k := k, i := i, on := b } : Op9).cs none 0).toArray) w := by kernel_rfl
theorem build_p0 (k : Int) (w : World) : (Instr.build 52 #[(0, .int .i64 k)]).run Try.prog w = .ok (.agg (({ Op9.o with k := k } : Op9).cs none 0).toArray) w := by kernel_rfl
set_option maxHeartbeats 2000000 in
set_option maxRecDepth 100000 in
theorem copyop_any (o : Op9) (A : Option Addr) (c : Nat) (w : World) (hr : Row eW w A o.lk.l) (hn : o.lk.l.length ≤ 20000000) : Calls Try.prog 20 #[.agg (o.cs A c).toArray] w (OpQ o w) := by
  have HR := Lib.hid hr
  have HC := Lib.hid (fun w hr => copylook_any o.lk A c w hr hn)
  unfold LkQ at HC
  clear hn
  clear hr
  have HB0 : Hid (Below w.heap.size w ((w.alloc (.cells (o.cs A c).toArray 52)).alloc (.cells #[.int .i64 0, .int .i64 0, .int .i64 0, .int .i64 0, .int .i64 0, .int .i64 0, .int .i64 0, .int .i64 0, .int .i64 0, .int .i64 0, .int .i64 0, .int .i64 0, .int .i64 0, .int .i64 0, .bool false, .int .i64 0, .int .i64 0, .int .i64 0, .int .i64 0, .int .u32 0, .int .i64 0, .int .i64 0, .slice none 0 0] 52))) := ((Below.refl _ _).alloc (Nat.le_refl _) _).alloc (by simp) _
  have HK0 : Hid (Blk ((w.alloc (.cells (o.cs A c).toArray 52)).alloc (.cells #[.int .i64 0, .int .i64 0, .int .i64 0, .int .i64 0, .int .i64 0, .int .i64 0, .int .i64 0, .int .i64 0, .int .i64 0, .int .i64 0, .int .i64 0, .int .i64 0, .int .i64 0, .int .i64 0, .bool false, .int .i64 0, .int .i64 0, .int .i64 0, .int .i64 0, .int .u32 0, .int .i64 0, .int .i64 0, .slice none 0 0] 52)) w.heap.size (o.cs A c)) := (blk_new w (o.cs A c) _).alloc _
  have HKr0 : Hid (Blk ((w.alloc (.cells (o.cs A c).toArray 52)).alloc (.cells #[.int .i64 0, .int .i64 0, .int .i64 0, .int .i64 0, .int .i64 0, .int .i64 0, .int .i64 0, .int .i64 0, .int .i64 0, .int .i64 0, .int .i64 0, .int .i64 0, .int .i64 0, .int .i64 0, .bool false, .int .i64 0, .int .i64 0, .int .i64 0, .int .i64 0, .int .u32 0, .int .i64 0, .int .i64 0, .slice none 0 0] 52)) (w.heap.size + 1) [.int .i64 0, .int .i64 0, .int .i64 0, .int .i64 0, .int .i64 0, .int .i64 0, .int .i64 0, .int .i64 0, .int .i64 0, .int .i64 0, .int .i64 0, .int .i64 0, .int .i64 0, .int .i64 0, .bool false, .int .i64 0, .int .i64 0, .int .i64 0, .int .i64 0, .int .u32 0, .int .i64 0, .int .i64 0, .slice none 0 0]) := blk_at (w.alloc _) _ (by simp) [.int .i64 0, .int .i64 0, .int .i64 0, .int .i64 0, .int .i64 0, .int .i64 0, .int .i64 0, .int .i64 0, .int .i64 0, .int .i64 0, .int .i64 0, .int .i64 0, .int .i64 0, .int .i64 0, .bool false, .int .i64 0, .int .i64 0, .int .i64 0, .int .i64 0, .int .u32 0, .int .i64 0, .int .i64 0, .slice none 0 0] _
  have HSZ : Hid (w.heap.size + 2 ≤ ((w.alloc (.cells (o.cs A c).toArray 52)).alloc (.cells #[.int .i64 0, .int .i64 0, .int .i64 0, .int .i64 0, .int .i64 0, .int .i64 0, .int .i64 0, .int .i64 0, .int .i64 0, .int .i64 0, .int .i64 0, .int .i64 0, .int .i64 0, .int .i64 0, .bool false, .int .i64 0, .int .i64 0, .int .i64 0, .int .i64 0, .int .u32 0, .int .i64 0, .int .i64 0, .slice none 0 0] 52)).heap.size) := by simp [Hid]
  go_enter Try.func20, Try.ntmps20
  go_upto_region 1 with (fail)
  have i0 := HK0.out.inside
  go_wp2_with (first | (with_reducible show wpList _ _ _ (Oper.mk _ (Op.load _ _) _ _ _ _ :: _) _ _; first | (refine wpl_take 50 _ rfl rfl _ 16 rfl _ HK0.out (o.lk.cs A c) rfl _ Try.underlying50 rfl (by kernel_rfl) ?_)))
  refine (HC.out _ (HR.out.below HB0.out)).mono ?_
  rintro e w1 ⟨A9, c9, rfl, hx, hb⟩
  have HX := Lib.hid hx
  have HB : Hid (Below w.heap.size w w1) := bel2 HB0.out hb
  have HK1 := Lib.hid (HK0.out.below' hb)
  have HKr1 := Lib.hid (HKr0.out.below' hb)
  generalize ((w.alloc (.cells (o.cs A c).toArray 52)).alloc (.cells #[.int .i64 0, .int .i64 0, .int .i64 0, .int .i64 0, .int .i64 0, .int .i64 0, .int .i64 0, .int .i64 0, .int .i64 0, .int .i64 0, .int .i64 0, .int .i64 0, .int .i64 0, .int .i64 0, .bool false, .int .i64 0, .int .i64 0, .int .i64 0, .int .i64 0, .int .u32 0, .int .i64 0, .int .i64 0, .slice none 0 0] 52)) = wz at *
  clear hb hx HC HB0 HK0 HKr0 i0
  have i0 := HK1.out.inside
  go_upto_region 2 with (first | (with_reducible show wpList _ _ _ (Oper.mk _ (Op.store _ _ _) _ _ _ _ :: _) _ _; first | (refine wpl_stow 50 _ _ rfl rfl rfl _ 16 rfl (o.lk.cs A9 c9) rfl (o.cs A c) HK1.out (o.cs A9 c9) rfl (Nat.le_of_ble_eq_true rfl) (by kernel_rfl) (Lk.one _ _ _) ?_; intro w2 HW2 HK2)))
  have HKr2 := Lib.hid (HW2.out.blk (show w.heap.size + 1 ≠ w.heap.size by omega) HKr1.out)
  go_wp2_with (first | (with_reducible show wpList _ _ _ (Oper.mk _ (Op.load _ _) _ _ _ _ :: _) _ _; first | (refine wpl_take 52 _ rfl rfl _ 0 rfl _ HK2.out (o.cs A9 c9) rfl _ Try.underlying52 rfl (by kernel_rfl) ?_)) | (with_reducible show wpList _ _ _ (Oper.mk _ (Op.store _ _ _) _ _ _ _ :: _) _ _; first | (refine wpl_stow 52 _ _ rfl rfl rfl _ 0 rfl (o.cs A9 c9) rfl ([.int .i64 0, .int .i64 0, .int .i64 0, .int .i64 0, .int .i64 0, .int .i64 0, .int .i64 0, .int .i64 0, .int .i64 0, .int .i64 0, .int .i64 0, .int .i64 0, .int .i64 0, .int .i64 0, .bool false, .int .i64 0, .int .i64 0, .int .i64 0, .int .i64 0, .int .u32 0, .int .i64 0, .int .i64 0, .slice none 0 0]) HKr2.out (o.cs A9 c9) rfl (Nat.le_of_ble_eq_true rfl) (by kernel_rfl) (Op9.one _ _ _) ?_; intro w3 HW3 HK3)))
  exact blk_ret rfl rfl HK3.out Try.underlying52 rfl (by kernel_rfl) (OpQ.of (((Pa.of HX.out HSZ.out).stays fun k _ hk => (HW3.out.far (by omega)).trans (HW2.out.far (by omega))).ge (by omega)) (HW3.out.below (HW2.out.below HB.out (Nat.le_refl _)) (by omega)))
theorem plainO_k (o : Op9) : (plainO o).k = o.k := by
  unfold plainO
  split <;> try rfl
  split <;> try rfl
  split <;> try rfl
  split <;> try rfl
  split <;> try rfl
  split <;> try rfl
  split <;> rfl
/-- while an op is laid into its variable -/
structure RJ (r : Nat) (o : Op9) (d : Bool) (w : World) : Prop where
  no : d = false → Blk w r [.int .i64 0, .int .i64 0, .int .i64 0, .int .i64 0, .int .i64 0, .int .i64 0, .int .i64 0, .int .i64 0, .int .i64 0, .int .i64 0, .int .i64 0, .int .i64 0, .int .i64 0, .int .i64 0, .bool false, .int .i64 0, .int .i64 0, .int .i64 0, .int .i64 0, .int .u32 0, .int .i64 0, .int .i64 0, .slice none 0 0]
  yes : d = true → ∃ A c, Blk w r (o.cs A c) ∧ Pa w (r + 1) A o.lk.l
theorem RJ.below {r : Nat} {o : Op9} {d : Bool} {w w' : World} (h : RJ r o d w) (hb : Below w.heap.size w w') : RJ r o d w' := ⟨fun e => (h.no e).below' hb, fun e => by
  obtain ⟨A, c, h1, h2⟩ := h.yes e
  exact ⟨A, c, h1.below' hb, h2.stays fun k hk _ => hb.block k hk⟩⟩
set_option maxHeartbeats 4000000 in
set_option maxRecDepth 100000 in
theorem plainop_any (o : Op9) (A : Option Addr) (c : Nat) (w : World) (hr : Row eW w A o.lk.l) (hn : o.lk.l.length ≤ 20000000) : Calls Try.prog 17 #[.agg (o.cs A c).toArray] w (OpQ (plainO o) w) := by
  have HR := Lib.hid hr
  have HC := Lib.hid (fun w hr => copylook_any o.lk A c w hr hn)
  unfold LkQ at HC
  clear hn
  clear hr
  have HB0 : Hid (Below w.heap.size w ((w.alloc (.cells (o.cs A c).toArray 52)).alloc (.cells #[.int .i64 0, .int .i64 0, .int .i64 0, .int .i64 0, .int .i64 0, .int .i64 0, .int .i64 0, .int .i64 0, .int .i64 0, .int .i64 0, .int .i64 0, .int .i64 0, .int .i64 0, .int .i64 0, .bool false, .int .i64 0, .int .i64 0, .int .i64 0, .int .i64 0, .int .u32 0, .int .i64 0, .int .i64 0, .slice none 0 0] 52))) := ((Below.refl _ _).alloc (Nat.le_refl _) _).alloc (by simp) _
  have HK0 : Hid (Blk ((w.alloc (.cells (o.cs A c).toArray 52)).alloc (.cells #[.int .i64 0, .int .i64 0, .int .i64 0, .int .i64 0, .int .i64 0, .int .i64 0, .int .i64 0, .int .i64 0, .int .i64 0, .int .i64 0, .int .i64 0, .int .i64 0, .int .i64 0, .int .i64 0, .bool false, .int .i64 0, .int .i64 0, .int .i64 0, .int .i64 0, .int .u32 0, .int .i64 0, .int .i64 0, .slice none 0 0] 52)) w.heap.size (o.cs A c)) := (blk_new w (o.cs A c) _).alloc _
  have HKr0 : Hid (Blk ((w.alloc (.cells (o.cs A c).toArray 52)).alloc (.cells #[.int .i64 0, .int .i64 0, .int .i64 0, .int .i64 0, .int .i64 0, .int .i64 0, .int .i64 0, .int .i64 0, .int .i64 0, .int .i64 0, .int .i64 0, .int .i64 0, .int .i64 0, .int .i64 0, .bool false, .int .i64 0, .int .i64 0, .int .i64 0, .int .i64 0, .int .u32 0, .int .i64 0, .int .i64 0, .slice none 0 0] 52)) (w.heap.size + 1) [.int .i64 0, .int .i64 0, .int .i64 0, .int .i64 0, .int .i64 0, .int .i64 0, .int .i64 0, .int .i64 0, .int .i64 0, .int .i64 0, .int .i64 0, .int .i64 0, .int .i64 0, .int .i64 0, .bool false, .int .i64 0, .int .i64 0, .int .i64 0, .int .i64 0, .int .u32 0, .int .i64 0, .int .i64 0, .slice none 0 0]) := blk_at (w.alloc _) _ (by simp) [.int .i64 0, .int .i64 0, .int .i64 0, .int .i64 0, .int .i64 0, .int .i64 0, .int .i64 0, .int .i64 0, .int .i64 0, .int .i64 0, .int .i64 0, .int .i64 0, .int .i64 0, .int .i64 0, .bool false, .int .i64 0, .int .i64 0, .int .i64 0, .int .i64 0, .int .u32 0, .int .i64 0, .int .i64 0, .slice none 0 0] _
  have HSZ : Hid (w.heap.size + 2 ≤ ((w.alloc (.cells (o.cs A c).toArray 52)).alloc (.cells #[.int .i64 0, .int .i64 0, .int .i64 0, .int .i64 0, .int .i64 0, .int .i64 0, .int .i64 0, .int .i64 0, .int .i64 0, .int .i64 0, .int .i64 0, .int .i64 0, .int .i64 0, .int .i64 0, .bool false, .int .i64 0, .int .i64 0, .int .i64 0, .int .i64 0, .int .u32 0, .int .i64 0, .int .i64 0, .slice none 0 0] 52)).heap.size) := by simp [Hid]
  obtain ⟨X, hX⟩ : ∃ X, plainO o = X := ⟨_, rfl⟩
  rw [hX]
  have HPX := Lib.hid hX
  clear hX
  go_enter Try.func17, Try.ntmps17
  go_upto_region 1 with (fail)
  generalize ((w.alloc (.cells (o.cs A c).toArray 52)).alloc (.cells #[.int .i64 0, .int .i64 0, .int .i64 0, .int .i64 0, .int .i64 0, .int .i64 0, .int .i64 0, .int .i64 0, .int .i64 0, .int .i64 0, .int .i64 0, .int .i64 0, .int .i64 0, .int .i64 0, .bool false, .int .i64 0, .int .i64 0, .int .i64 0, .int .i64 0, .int .u32 0, .int .i64 0, .int .i64 0, .slice none 0 0] 52)) = wz at *
  have c0 : wz.cell? ⟨w.heap.size, 0, none⟩ = some (.int .i64 o.k) := HK0.out.cell 0
  have c1 : wz.cell? ⟨w.heap.size, 1, none⟩ = some (.int .i64 o.i) := HK0.out.cell 1
  have c2 : wz.cell? ⟨w.heap.size, 2, none⟩ = some (.int .i64 o.p) := HK0.out.cell 2
  have c3 : wz.cell? ⟨w.heap.size, 3, none⟩ = some (.int .i64 o.n) := HK0.out.cell 3
  have c14 : wz.cell? ⟨w.heap.size, 14, none⟩ = some (.bool o.on) := HK0.out.cell 14
  have c15 : wz.cell? ⟨w.heap.size, 15, none⟩ = some (.int .i64 o.N) := HK0.out.cell 15
  have i0 : w.heap.size < wz.heap.size := HK0.out.inside
  have i1 : w.heap.size + 1 < wz.heap.size := HKr0.out.inside
  by_cases h1 : o.k = 1
  · have t1 : (o.k == 1) = true := by simpa using h1
    obtain rfl : X = { Op9.o with k := o.k, i := o.i, p := o.p, n := o.n } := by rw [← HPX.out]; unfold plainO; rw [if_pos (Or.inl h1)]
    clear h1 HPX
    go_wp2_with (first | (with_reducible show wpList _ _ _ (Oper.mk _ (Op.store _ _ _) _ _ _ _ :: _) _ _; first | (refine wpl_stow 52 _ _ rfl rfl rfl _ 0 rfl (({ Op9.o with k := o.k, i := o.i, p := o.p, n := o.n } : Op9).cs none 0) rfl ([.int .i64 0, .int .i64 0, .int .i64 0, .int .i64 0, .int .i64 0, .int .i64 0, .int .i64 0, .int .i64 0, .int .i64 0, .int .i64 0, .int .i64 0, .int .i64 0, .int .i64 0, .int .i64 0, .bool false, .int .i64 0, .int .i64 0, .int .i64 0, .int .i64 0, .int .u32 0, .int .i64 0, .int .i64 0, .slice none 0 0]) HKr0.out (({ Op9.o with k := o.k, i := o.i, p := o.p, n := o.n } : Op9).cs none 0) rfl (Nat.le_of_ble_eq_true rfl) (by kernel_rfl) (Op9.one _ _ _) ?_; intro w3 HW3 HK3)) | (with_reducible show wpList _ _ _ (Oper.mk _ (Op.build _ _) _ _ _ _ :: _) _ _; refine wpl_build _ _ rfl rfl (by simp [go_sem]) (build_p1 o.k o.i o.p o.n _) ?_))
    exact blk_ret rfl rfl HK3.out Try.underlying52 rfl (by kernel_rfl) (OpQ.of (Pa.no _ _) (HW3.out.below HB0.out (by omega)))
  by_cases h3 : o.k = 3
  · have t1 : (o.k == 1) = false := by simpa using h1
    have t3 : (o.k == 3) = true := by simpa using h3
    obtain rfl : X = { Op9.o with k := o.k, i := o.i, p := o.p, n := o.n } := by rw [← HPX.out]; unfold plainO; rw [if_pos (Or.inr h3)]
    clear h1 h3 HPX
    go_wp2_with (first | (with_reducible show wpList _ _ _ (Oper.mk _ (Op.store _ _ _) _ _ _ _ :: _) _ _; first | (refine wpl_stow 52 _ _ rfl rfl rfl _ 0 rfl (({ Op9.o with k := o.k, i := o.i, p := o.p, n := o.n } : Op9).cs none 0) rfl ([.int .i64 0, .int .i64 0, .int .i64 0, .int .i64 0, .int .i64 0, .int .i64 0, .int .i64 0, .int .i64 0, .int .i64 0, .int .i64 0, .int .i64 0, .int .i64 0, .int .i64 0, .int .i64 0, .bool false, .int .i64 0, .int .i64 0, .int .i64 0, .int .i64 0, .int .u32 0, .int .i64 0, .int .i64 0, .slice none 0 0]) HKr0.out (({ Op9.o with k := o.k, i := o.i, p := o.p, n := o.n } : Op9).cs none 0) rfl (Nat.le_of_ble_eq_true rfl) (by kernel_rfl) (Op9.one _ _ _) ?_; intro w3 HW3 HK3)) | (with_reducible show wpList _ _ _ (Oper.mk _ (Op.build _ _) _ _ _ _ :: _) _ _; refine wpl_build _ _ rfl rfl (by simp [go_sem]) (build_p1 o.k o.i o.p o.n _) ?_))
    exact blk_ret rfl rfl HK3.out Try.underlying52 rfl (by kernel_rfl) (OpQ.of (Pa.no _ _) (HW3.out.below HB0.out (by omega)))
  by_cases h2 : o.k = 2
  · have t1 : (o.k == 1) = false := by simpa using h1
    have t3 : (o.k == 3) = false := by simpa using h3
    have t2 : (o.k == 2) = true := by simpa using h2
    obtain rfl : X = { Op9.o with k := o.k, i := o.i } := by rw [← HPX.out]; unfold plainO; rw [if_neg (not_or.2 ⟨h1, h3⟩), if_pos h2]
    clear h1 h3 h2 HPX
    go_wp2_with (first | (with_reducible show wpList _ _ _ (Oper.mk _ (Op.store _ _ _) _ _ _ _ :: _) _ _; first | (refine wpl_stow 52 _ _ rfl rfl rfl _ 0 rfl (({ Op9.o with k := o.k, i := o.i } : Op9).cs none 0) rfl ([.int .i64 0, .int .i64 0, .int .i64 0, .int .i64 0, .int .i64 0, .int .i64 0, .int .i64 0, .int .i64 0, .int .i64 0, .int .i64 0, .int .i64 0, .int .i64 0, .int .i64 0, .int .i64 0, .bool false, .int .i64 0, .int .i64 0, .int .i64 0, .int .i64 0, .int .u32 0, .int .i64 0, .int .i64 0, .slice none 0 0]) HKr0.out (({ Op9.o with k := o.k, i := o.i } : Op9).cs none 0) rfl (Nat.le_of_ble_eq_true rfl) (by kernel_rfl) (Op9.one _ _ _) ?_; intro w3 HW3 HK3)) | (with_reducible show wpList _ _ _ (Oper.mk _ (Op.build _ _) _ _ _ _ :: _) _ _; refine wpl_build _ _ rfl rfl (by simp [go_sem]) (build_p2 o.k o.i _) ?_))
    exact blk_ret rfl rfl HK3.out Try.underlying52 rfl (by kernel_rfl) (OpQ.of (Pa.no _ _) (HW3.out.below HB0.out (by omega)))
  by_cases h4 : o.k = 4
  · have t1 : (o.k == 1) = false := by simpa using h1
    have t3 : (o.k == 3) = false := by simpa using h3
    have t2 : (o.k == 2) = false := by simpa using h2
    have t4 : (o.k == 4) = true := by simpa using h4
    obtain rfl : X = { Op9.o with k := o.k, i := o.i, m := o.m } := by rw [← HPX.out]; unfold plainO; rw [if_neg (not_or.2 ⟨h1, h3⟩), if_neg h2, if_pos h4]
    clear h1 h3 h2 h4 HPX
    go_wp2_with (first | (with_reducible show wpList _ _ _ (Oper.mk _ (Op.load _ _) _ _ _ _ :: _) _ _; first | (refine wpl_take 41 _ rfl rfl _ 4 rfl _ HK0.out (o.m.cs) rfl _ Try.underlying41 rfl (by kernel_rfl) ?_)) | (with_reducible show wpList _ _ _ (Oper.mk _ (Op.store _ _ _) _ _ _ _ :: _) _ _; first | (refine wpl_stow 52 _ _ rfl rfl rfl _ 0 rfl (({ Op9.o with k := o.k, i := o.i, m := o.m } : Op9).cs none 0) rfl ([.int .i64 0, .int .i64 0, .int .i64 0, .int .i64 0, .int .i64 0, .int .i64 0, .int .i64 0, .int .i64 0, .int .i64 0, .int .i64 0, .int .i64 0, .int .i64 0, .int .i64 0, .int .i64 0, .bool false, .int .i64 0, .int .i64 0, .int .i64 0, .int .i64 0, .int .u32 0, .int .i64 0, .int .i64 0, .slice none 0 0]) HKr0.out (({ Op9.o with k := o.k, i := o.i, m := o.m } : Op9).cs none 0) rfl (Nat.le_of_ble_eq_true rfl) (by kernel_rfl) (Op9.one _ _ _) ?_; intro w3 HW3 HK3)) | (with_reducible show wpList _ _ _ (Oper.mk _ (Op.build _ _) _ _ _ _ :: _) _ _; refine wpl_build _ _ rfl rfl (by simp [go_sem]) (build_p4 o.k o.i o.m _) ?_))
    exact blk_ret rfl rfl HK3.out Try.underlying52 rfl (by kernel_rfl) (OpQ.of (Pa.no _ _) (HW3.out.below HB0.out (by omega)))
  by_cases h5 : o.k = 5
  · have t1 : (o.k == 1) = false := by simpa using h1
    have t3 : (o.k == 3) = false := by simpa using h3
    have t2 : (o.k == 2) = false := by simpa using h2
    have t4 : (o.k == 4) = false := by simpa using h4
    have t5 : (o.k == 5) = true := by simpa using h5
    obtain rfl : X = { Op9.o with k := o.k, i := o.i, on := o.on, r := o.r } := by rw [← HPX.out]; unfold plainO; rw [if_neg (not_or.2 ⟨h1, h3⟩), if_neg h2, if_neg h4, if_pos h5]
    clear h1 h3 h2 h4 h5 HPX
    go_wp2_with (first | (with_reducible show wpList _ _ _ (Oper.mk _ (Op.load _ _) _ _ _ _ :: _) _ _; first | (refine wpl_take 43 _ rfl rfl _ 10 rfl _ HK0.out (o.r.cs4) rfl _ Try.underlying43 rfl (by kernel_rfl) ?_)) | (with_reducible show wpList _ _ _ (Oper.mk _ (Op.store _ _ _) _ _ _ _ :: _) _ _; first | (refine wpl_stow 52 _ _ rfl rfl rfl _ 0 rfl (({ Op9.o with k := o.k, i := o.i, on := o.on, r := o.r } : Op9).cs none 0) rfl ([.int .i64 0, .int .i64 0, .int .i64 0, .int .i64 0, .int .i64 0, .int .i64 0, .int .i64 0, .int .i64 0, .int .i64 0, .int .i64 0, .int .i64 0, .int .i64 0, .int .i64 0, .int .i64 0, .bool false, .int .i64 0, .int .i64 0, .int .i64 0, .int .i64 0, .int .u32 0, .int .i64 0, .int .i64 0, .slice none 0 0]) HKr0.out (({ Op9.o with k := o.k, i := o.i, on := o.on, r := o.r } : Op9).cs none 0) rfl (Nat.le_of_ble_eq_true rfl) (by kernel_rfl) (Op9.one _ _ _) ?_; intro w3 HW3 HK3)) | (with_reducible show wpList _ _ _ (Oper.mk _ (Op.build _ _) _ _ _ _ :: _) _ _; refine wpl_build _ _ rfl rfl (by simp [go_sem]) (build_p5 o.k o.i o.on o.r _) ?_))
    exact blk_ret rfl rfl HK3.out Try.underlying52 rfl (by kernel_rfl) (OpQ.of (Pa.no _ _) (HW3.out.below HB0.out (by omega)))
  by_cases h6 : o.k = 6
  · have t1 : (o.k == 1) = false := by simpa using h1
    have t3 : (o.k == 3) = false := by simpa using h3
    have t2 : (o.k == 2) = false := by simpa using h2
    have t4 : (o.k == 4) = false := by simpa using h4
    have t5 : (o.k == 5) = false := by simpa using h5
    have t6 : (o.k == 6) = true := by simpa using h6
    obtain rfl : X = { Op9.o with k := o.k, i := o.i, N := o.N } := by rw [← HPX.out]; unfold plainO; rw [if_neg (not_or.2 ⟨h1, h3⟩), if_neg h2, if_neg h4, if_neg h5, if_pos h6]
    clear h1 h3 h2 h4 h5 h6 HPX
    go_wp2_with (first | (with_reducible show wpList _ _ _ (Oper.mk _ (Op.store _ _ _) _ _ _ _ :: _) _ _; first | (refine wpl_stow 52 _ _ rfl rfl rfl _ 0 rfl (({ Op9.o with k := o.k, i := o.i, N := o.N } : Op9).cs none 0) rfl ([.int .i64 0, .int .i64 0, .int .i64 0, .int .i64 0, .int .i64 0, .int .i64 0, .int .i64 0, .int .i64 0, .int .i64 0, .int .i64 0, .int .i64 0, .int .i64 0, .int .i64 0, .int .i64 0, .bool false, .int .i64 0, .int .i64 0, .int .i64 0, .int .i64 0, .int .u32 0, .int .i64 0, .int .i64 0, .slice none 0 0]) HKr0.out (({ Op9.o with k := o.k, i := o.i, N := o.N } : Op9).cs none 0) rfl (Nat.le_of_ble_eq_true rfl) (by kernel_rfl) (Op9.one _ _ _) ?_; intro w3 HW3 HK3)) | (with_reducible show wpList _ _ _ (Oper.mk _ (Op.build _ _) _ _ _ _ :: _) _ _; refine wpl_build _ _ rfl rfl (by simp [go_sem]) (build_p6 o.k o.i o.N _) ?_))
    exact blk_ret rfl rfl HK3.out Try.underlying52 rfl (by kernel_rfl) (OpQ.of (Pa.no _ _) (HW3.out.below HB0.out (by omega)))
  by_cases h7 : o.k = 7
  · have t1 : (o.k == 1) = false := by simpa using h1
    have t3 : (o.k == 3) = false := by simpa using h3
    have t2 : (o.k == 2) = false := by simpa using h2
    have t4 : (o.k == 4) = false := by simpa using h4
    have t5 : (o.k == 5) = false := by simpa using h5
    have t6 : (o.k == 6) = false := by simpa using h6
    have t7 : (o.k == 7) = true := by simpa using h7
    obtain rfl : X = { Op9.o with k := o.k, i := o.i, lk := o.lk } := by rw [← HPX.out]; unfold plainO; rw [if_neg (not_or.2 ⟨h1, h3⟩), if_neg h2, if_neg h4, if_neg h5, if_neg h6, if_pos h7]
    clear h1 h3 h2 h4 h5 h6 h7 HPX
    go_upto_region 14 with (fail)
    obtain ⟨kr, hkr⟩ : ∃ kr, w.heap.size + 1 = kr := ⟨_, rfl⟩
    have HKR : Hid (w.heap.size < kr) := by show _ < _; omega
    rw [hkr] at HKr0 ⊢
    have HKr := HKr0
    clear hkr i1
    have FO : Hid (∀ W, KX kr wz W → Blk W w.heap.size (o.cs A c)) := fun W hk => HK0.out.stays (hk.same _ HK0.out.inside (Nat.ne_of_lt HKR.out))
    have FK : Hid (∀ W, KX kr wz W → kr < W.heap.size) := fun W hk => Nat.lt_of_lt_of_le HKr.out.inside hk.size
    have FC : Hid (∀ W, KX kr wz W → Calls Try.prog 23 #[.agg (o.lk.cs A c).toArray] W fun e w' => ∃ A9 c9, e = .returned (.agg (o.lk.cs A9 c9).toArray) ∧ Pa w' (kr + 1) A9 o.lk.l ∧ Below W.heap.size W w') := fun W hk => by
      refine (HC.out W (Row.below HR.out (HB0.out.trans (hk.to_below (Nat.le_of_lt HKR.out) HB0.out.size)))).mono ?_
      rintro e w' ⟨A9, c9, h1, h2, h3⟩
      exact ⟨A9, c9, h1, Pa.of h2 (by have := FK.out W hk; omega), h3⟩
    refine regs.wp_region_put (KX kr) (fun L wx => RJ kr ({ Op9.o with k := o.k, i := o.i, lk := o.lk } : Op9) (L 8) wx) [55, 56, 57, 58, 59, 60, 61, 62] (by kernel_rfl) (by kernel_rfl) (fun _ => KX.refl _ _) (fun _ _ _ h k => h.trans k) (fun i => (match i with
      | 0 => regs.Say.val _ (.pointer (some ⟨w.heap.size, 0, none⟩))
      | 1 => regs.Say.val _ (.int .i64 o.k)
      | 2 => regs.Say.val _ (.pointer (some ⟨w.heap.size, 1, none⟩))
      | 3 => regs.Say.val _ (.int .i64 o.i)
      | 4 => regs.Say.val _ (.pointer (some ⟨w.heap.size, 16, none⟩))
      | 5 => regs.Say.val _ (.agg (o.lk.cs A c).toArray)
      | 6 => (⟨fun v wv => ∃ A c, v = .agg (o.lk.cs A c).toArray ∧ Pa wv (kr + 1) A o.lk.l, fun v w1 w2 h hb => h.elim fun A h => h.elim fun c h => ⟨A, c, h.1, h.2.stays fun k hk hge => hb.same k hk (by omega)⟩⟩ : regs.Say (KX kr))
      | 7 => (⟨fun v wv => ∃ A c, v = .agg (({ Op9.o with k := o.k, i := o.i, lk := o.lk } : Op9).cs A c).toArray ∧ Pa wv (kr + 1) A o.lk.l, fun v w1 w2 h hb => h.elim fun A h => h.elim fun c h => ⟨A, c, h.1, h.2.stays fun k hk hge => hb.same k hk (by omega)⟩⟩ : regs.Say (KX kr))
      | 8 => regs.Say.any _
      | _ => regs.Say.any _ : regs.Say (KX kr)).p) (fun _ => regs.Say.mono _) (by kernel_rfl) (KX.of_below (Below.refl _ _).drew) (⟨fun _ => HKr.out.below' (Below.refl _ _).drew, (fun e => nomatch e)⟩) ⟨?_, ?_, ?_, ?_, ?_, ?_, ?_, ?_, ?_, trivial⟩ ?_
    · refine regs.StepOK.plain rfl fun L a w1 hh => ?_
      have h1 : a.tmps[1]?.getD undef = .pointer (some ⟨w.heap.size, 0, none⟩) := by rw [← Array.getD_eq_getD_getElem?]; exact hh.old 1 rfl
      have i0 := (FO.out _ hh.rel).inside
      have hJ := Lib.hid hh.st
      clear hh
      go_simp
      exact ⟨_, rfl, KX.refl _ _, rfl, hJ.out⟩
    · refine regs.StepOK.plain rfl fun L a w1 hh => ?_
      have h55 : a.tmps[55]?.getD undef = .pointer (some ⟨w.heap.size, 0, none⟩) := by rw [← Array.getD_eq_getD_getElem?]; exact hh.dep 0 55 (by kernel_rfl) (by kernel_rfl)
      have hB := Lib.hid (FO.out _ hh.rel)
      have c0 : w1.cell? ⟨w.heap.size, 0, none⟩ = some (.int .i64 o.k) := hB.out.cell 0
      have i0 := hB.out.inside
      have hJ := Lib.hid hh.st
      clear hh
      go_simp
      exact ⟨_, rfl, KX.refl _ _, rfl, hJ.out⟩
    · refine regs.StepOK.plain rfl fun L a w1 hh => ?_
      have h1 : a.tmps[1]?.getD undef = .pointer (some ⟨w.heap.size, 0, none⟩) := by rw [← Array.getD_eq_getD_getElem?]; exact hh.old 1 rfl
      have i0 := (FO.out _ hh.rel).inside
      have hJ := Lib.hid hh.st
      clear hh
      go_simp
      exact ⟨_, rfl, KX.refl _ _, rfl, hJ.out⟩
    · refine regs.StepOK.plain rfl fun L a w1 hh => ?_
      have h57 : a.tmps[57]?.getD undef = .pointer (some ⟨w.heap.size, 1, none⟩) := by rw [← Array.getD_eq_getD_getElem?]; exact hh.dep 2 57 (by kernel_rfl) (by kernel_rfl)
      have hB := Lib.hid (FO.out _ hh.rel)
      have c0 : w1.cell? ⟨w.heap.size, 1, none⟩ = some (.int .i64 o.i) := hB.out.cell 1
      have i0 := hB.out.inside
      have hJ := Lib.hid hh.st
      clear hh
      go_simp
      exact ⟨_, rfl, KX.refl _ _, rfl, hJ.out⟩
    · refine regs.StepOK.plain rfl fun L a w1 hh => ?_
      have h1 : a.tmps[1]?.getD undef = .pointer (some ⟨w.heap.size, 0, none⟩) := by rw [← Array.getD_eq_getD_getElem?]; exact hh.old 1 rfl
      have i0 := (FO.out _ hh.rel).inside
      have hJ := Lib.hid hh.st
      clear hh
      go_simp
      exact ⟨_, rfl, KX.refl _ _, rfl, hJ.out⟩
    · refine regs.StepOK.plain rfl fun L a w1 hh => ?_
      have h59 : a.tmps[59]?.getD undef = .pointer (some ⟨w.heap.size, 16, none⟩) := by rw [← Array.getD_eq_getD_getElem?]; exact hh.dep 4 59 (by kernel_rfl) (by kernel_rfl)
      have hB := Lib.hid (FO.out _ hh.rel)
      have hJ := Lib.hid hh.st
      exact wp_take 50 _ rfl w.heap.size 16 (by simpa [go_sem] using h59) _ hB.out (o.lk.cs A c) rfl _ Try.underlying50 rfl (by kernel_rfl) ⟨_, rfl, KX.refl _ _, rfl, hJ.out⟩
    · refine regs.StepOK.plain rfl fun L a w1 hh => ?_
      have h60 : a.tmps[60]?.getD undef = .agg (o.lk.cs A c).toArray := by rw [← Array.getD_eq_getD_getElem?]; exact hh.dep 5 60 (by kernel_rfl) (by kernel_rfl)
      have hC := Lib.hid (FC.out w1 hh.rel)
      have hkr := Lib.hid (FK.out w1 hh.rel)
      have hJ := Lib.hid hh.st
      clear hh
      go_simp
      refine hC.out.mono ?_
      rintro e w9 ⟨A9, c9, rfl, hr9, hb9⟩
      exact ⟨_, rfl, KX.of_below hb9, ⟨A9, ⟨c9, rfl⟩, hr9⟩, hJ.out.below hb9⟩
    · refine regs.StepOK.plain rfl fun L a w1 hh => ?_
      have h56 : a.tmps[56]?.getD undef = .int .i64 o.k := by rw [← Array.getD_eq_getD_getElem?]; exact hh.dep 1 56 (by kernel_rfl) (by kernel_rfl)
      have h58 : a.tmps[58]?.getD undef = .int .i64 o.i := by rw [← Array.getD_eq_getD_getElem?]; exact hh.dep 3 58 (by kernel_rfl) (by kernel_rfl)
      obtain ⟨A8, c8, e8, hr8⟩ := (show ∃ A c, (a.tmps.getD 61 undef) = .agg (o.lk.cs A c).toArray ∧ Pa w1 (kr + 1) A o.lk.l from hh.dep 6 61 (by kernel_rfl) (by kernel_rfl))
      have h61 : a.tmps[61]?.getD undef = .agg (o.lk.cs A8 c8).toArray := by rw [← Array.getD_eq_getD_getElem?]; exact e8
      have hJ := Lib.hid hh.st
      exact wp_build _ _ rfl (by simp [go_sem, h56, h58, h61]) (build_p7 o.k o.i o.lk A8 c8 w1) ⟨_, rfl, KX.refl _ _, ⟨A8, c8, rfl, hr8⟩, hJ.out⟩
    · refine regs.StepOK.plain rfl fun L a w1 hh => ?_
      have h2 : a.tmps[2]?.getD undef = .pointer (some ⟨kr, 0, none⟩) := by rw [← Array.getD_eq_getD_getElem?]; exact hh.old 2 rfl
      obtain ⟨A8, c8, e8, hr8⟩ := (show ∃ A c, (a.tmps.getD 62 undef) = .agg (({ Op9.o with k := o.k, i := o.i, lk := o.lk } : Op9).cs A c).toArray ∧ Pa w1 (kr + 1) A o.lk.l from hh.dep 7 62 (by kernel_rfl) (by kernel_rfl))
      have h62 : a.tmps[62]?.getD undef = .agg (({ Op9.o with k := o.k, i := o.i, lk := o.lk } : Op9).cs A8 c8).toArray := by rw [← Array.getD_eq_getD_getElem?]; exact e8
      have hB8 := hh.st.no hh.un
      refine wp_stow 52 _ _ rfl kr 0 (by simpa [go_sem] using h2) (({ Op9.o with k := o.k, i := o.i, lk := o.lk } : Op9).cs A8 c8) (by simpa [go_sem] using h62) _ hB8 (Nat.le_of_ble_eq_true rfl) (by kernel_rfl) (by rfl) ?_
      intro w9 hW9 hB9
      exact ⟨undef, rfl, KX.wrote hW9, trivial, ⟨(fun e => nomatch e), fun _ => ⟨A8, c8, hB9, hr8.stays fun k _ hge => hW9.far (by omega)⟩⟩⟩
    intro L w4 val hL hJ hR hv
    have HR4 := Lib.hid hR
    obtain ⟨A9, c9, hb9, hr9⟩ := hJ.yes (hL 8 (by decide))
    have HB9 := Lib.hid hb9
    have HR9 := Lib.hid hr9
    clear hv hL hJ hR hb9 hr9
    simp only [regs.putAll, List.map_cons, List.map_nil]
    simp only [Act.put, List.setIfInBounds_toArray, List.set_cons_zero, List.set_cons_succ]
    generalize val 55 = v55 at *
    generalize val 56 = v56 at *
    generalize val 57 = v57 at *
    generalize val 58 = v58 at *
    generalize val 59 = v59 at *
    generalize val 60 = v60 at *
    generalize val 61 = v61 at *
    generalize val 62 = v62 at *
    go_wp2_with (fail)
    exact blk_ret rfl rfl HB9.out Try.underlying52 rfl (by kernel_rfl) (OpQ.of (HR9.out.ge (by have := HKR.out; omega)) (HB0.out.trans (HR4.out.to_below (Nat.le_of_lt HKR.out) HB0.out.size)))
  by_cases h8 : o.k = 8
  · have t1 : (o.k == 1) = false := by simpa using h1
    have t3 : (o.k == 3) = false := by simpa using h3
    have t2 : (o.k == 2) = false := by simpa using h2
    have t4 : (o.k == 4) = false := by simpa using h4
    have t5 : (o.k == 5) = false := by simpa using h5
    have t6 : (o.k == 6) = false := by simpa using h6
    have t7 : (o.k == 7) = false := by simpa using h7
    have t8 : (o.k == 8) = true := by simpa using h8
    obtain rfl : X = { Op9.o with k := o.k, i := o.i, on := o.on } := by rw [← HPX.out]; unfold plainO; rw [if_neg (not_or.2 ⟨h1, h3⟩), if_neg h2, if_neg h4, if_neg h5, if_neg h6, if_neg h7, if_pos h8]
    clear h1 h3 h2 h4 h5 h6 h7 h8 HPX
    go_wp2_with (first | (with_reducible show wpList _ _ _ (Oper.mk _ (Op.store _ _ _) _ _ _ _ :: _) _ _; first | (refine wpl_stow 52 _ _ rfl rfl rfl _ 0 rfl (({ Op9.o with k := o.k, i := o.i, on := o.on } : Op9).cs none 0) rfl ([.int .i64 0, .int .i64 0, .int .i64 0, .int .i64 0, .int .i64 0, .int .i64 0, .int .i64 0, .int .i64 0, .int .i64 0, .int .i64 0, .int .i64 0, .int .i64 0, .int .i64 0, .int .i64 0, .bool false, .int .i64 0, .int .i64 0, .int .i64 0, .int .i64 0, .int .u32 0, .int .i64 0, .int .i64 0, .slice none 0 0]) HKr0.out (({ Op9.o with k := o.k, i := o.i, on := o.on } : Op9).cs none 0) rfl (Nat.le_of_ble_eq_true rfl) (by kernel_rfl) (Op9.one _ _ _) ?_; intro w3 HW3 HK3)) | (with_reducible show wpList _ _ _ (Oper.mk _ (Op.build _ _) _ _ _ _ :: _) _ _; refine wpl_build _ _ rfl rfl (by simp [go_sem]) (build_p8 o.k o.i o.on _) ?_))
    exact blk_ret rfl rfl HK3.out Try.underlying52 rfl (by kernel_rfl) (OpQ.of (Pa.no _ _) (HW3.out.below HB0.out (by omega)))
  have t1 : (o.k == 1) = false := by simpa using h1
  have t3 : (o.k == 3) = false := by simpa using h3
  have t2 : (o.k == 2) = false := by simpa using h2
  have t4 : (o.k == 4) = false := by simpa using h4
  have t5 : (o.k == 5) = false := by simpa using h5
  have t6 : (o.k == 6) = false := by simpa using h6
  have t7 : (o.k == 7) = false := by simpa using h7
  have t8 : (o.k == 8) = false := by simpa using h8
  obtain rfl : X = { Op9.o with k := o.k } := by rw [← HPX.out]; unfold plainO; rw [if_neg (not_or.2 ⟨h1, h3⟩), if_neg h2, if_neg h4, if_neg h5, if_neg h6, if_neg h7, if_neg h8]
  clear h1 h3 h2 h4 h5 h6 h7 h8 HPX
  go_wp2_with (first | (with_reducible show wpList _ _ _ (Oper.mk _ (Op.store _ _ _) _ _ _ _ :: _) _ _; first | (refine wpl_stow 52 _ _ rfl rfl rfl _ 0 rfl (({ Op9.o with k := o.k } : Op9).cs none 0) rfl ([.int .i64 0, .int .i64 0, .int .i64 0, .int .i64 0, .int .i64 0, .int .i64 0, .int .i64 0, .int .i64 0, .int .i64 0, .int .i64 0, .int .i64 0, .int .i64 0, .int .i64 0, .int .i64 0, .bool false, .int .i64 0, .int .i64 0, .int .i64 0, .int .i64 0, .int .u32 0, .int .i64 0, .int .i64 0, .slice none 0 0]) HKr0.out (({ Op9.o with k := o.k } : Op9).cs none 0) rfl (Nat.le_of_ble_eq_true rfl) (by kernel_rfl) (Op9.one _ _ _) ?_; intro w3 HW3 HK3)) | (with_reducible show wpList _ _ _ (Oper.mk _ (Op.build _ _) _ _ _ _ :: _) _ _; refine wpl_build _ _ rfl rfl (by simp [go_sem]) (build_p0 o.k _) ?_))
  exact blk_ret rfl rfl HK3.out Try.underlying52 rfl (by kernel_rfl) (OpQ.of (Pa.no _ _) (HW3.out.below HB0.out (by omega)))
end Go.Proofs.Ytgadheamldianaa
