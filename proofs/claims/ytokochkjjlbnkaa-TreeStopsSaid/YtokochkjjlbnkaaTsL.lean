/-
  Layer 12: a tree in memory one of whose rows is being filled.
-/
import Derived.Test.YtokochkjjlbnkaaTsK
namespace Go.Proofs.Ytokochkjjlbnkaa
open Go.RowKit trm itr

structure RawX (w : World) (b : Nat) (s : Sh) (H : Int → Prop) (P : Int → Option Int) (K : Int → List Int) (x : Int) (a : Nat) (l : List (Option Nat)) : Prop where
  blk : BlkT w b [.map (some s.m)] tTree
  map : ∃ es, MapAt w s.m es ∧ ∀ i g, omap.look es i = some g ↔ H i ∧ s.g i = g
  node : ∀ i, H i → i ≠ x → NodeAt w (s.g i) i ((P i).map s.g) (s.v i) (ks s (K i))
  hole : BlkT w (s.g x) [.int .i64 x, ptrTo ((P x).map s.g), .slice (some ⟨a, 0, none⟩) l.length l.length] tNode
  row : BlkT w a (l.map ptrTo) tPtr
  inj : ∀ i j, H i → H j → s.g i = s.g j → i = j
  apart : ∀ i j k, H i → H j → i ≠ x → j ≠ x → (s.v i).ownBlock = some k → (s.v j).ownBlock = some k → i = j
  new : ∀ i, H i → i ≠ x → (s.v i).ownBlock ≠ some a
section
variable {w w' : World} {b : Nat} {s : Sh} {H : Int → Prop} {P : Int → Option Int} {K : Int → List Int} {x : Int} {a : Nat} {l : List (Option Nat)}
theorem RawX.close (h : RawX w b s H P K x a l) (hx : H x) {k : List Int} (hl : l = ks s k) (hn : l.length ≤ 100000) : Raw w b ⟨s.m, s.g, setf s.v x (.slice (some ⟨a, 0, none⟩) l.length l.length)⟩ H P (setf K x k) := by
  refine ⟨h.blk, h.map, fun i hi => ?_, h.inj, fun i j k' hi hj h1 h2 => ?_⟩
  · by_cases e : i = x
    · subst e
      simp only [setf_same]
      refine ⟨h.hole, ?_⟩
      have := KOwn.of_cells (w := w) (g := a) (cap := l.length) (n := l.length) (cur := (l.map ptrTo).toArray) (l := l) h.row rfl (Nat.le_refl _) (by unfold maxLen; omega) (by simp) (by rw [List.take_of_length_le (by simp)])
      rw [hl] at this ⊢
      exact this
    · simp only [setf_other _ e]
      exact h.node i hi e
  · by_cases ei : i = x <;> by_cases ej : j = x
    · rw [ei, ej]
    · simp only [ei, setf_same, setf_other _ ej] at h1 h2
      exact absurd (h2.trans h1.symm) (h.new j hj ej)
    · simp only [ej, setf_same, setf_other _ ei] at h1 h2
      exact absurd (h1.trans h2.symm) (h.new i hi ei)
    · simp only [setf_other _ ei, setf_other _ ej] at h1 h2
      exact h.apart i j k' hi hj ei ej h1 h2
/-- blocks that it speaks of -/
theorem RawX.stays (h : RawX w b s H P K x a l) (hb : ∀ k cs T, BlkT w k cs T → (T = tTree ∨ T = tNode ∨ k = a) → w'.heap[k]? = w.heap[k]?) (hm : w'.heap[s.m]? = w.heap[s.m]?) (ho : ∀ i k, H i → i ≠ x → (s.v i).ownBlock = some k → w'.heap[k]? = w.heap[k]?) : RawX w' b s H P K x a l := by
  obtain ⟨es, hm', hl⟩ := h.map
  exact ⟨h.blk.stays (hb _ _ _ h.blk (.inl rfl)), ⟨es, hm'.stays hm, hl⟩, fun i hi hx => (h.node i hi hx).stays (hb _ _ _ (h.node i hi hx).blk (.inr (.inl rfl))) fun k hk => ho i k hi hx hk, h.hole.stays (hb _ _ _ h.hole (.inr (.inl rfl))), h.row.stays (hb _ _ _ h.row (.inr (.inr rfl))), h.inj, h.apart, h.new⟩
theorem RawX.below (h : RawX w b s H P K x a l) (hb : Below w.heap.size w w') : RawX w' b s H P K x a l := by
  obtain ⟨es, hm', hl⟩ := h.map
  exact h.stays (fun k cs T hk _ => hb.block k hk.inside) (hb.block _ hm'.inside) fun i k hi hx hk => hb.block k (SOwn.block (h.node i hi hx).own hk).2
/-- a kid told -/
theorem RawX.fill (h : RawX w b s H P K x a l) (j : Nat) (o : Option Nat) : RawX (w.setCell ⟨a, j, none⟩ (ptrTo o)) b s H P K x a (l.set j o) := by
  obtain ⟨es, hm, hl⟩ := h.map
  have hne : ∀ k cs T, BlkT w k cs T → T ≠ tPtr → k ≠ a := fun k cs T hk hT e => by
    rw [e] at hk
    have := hk.symm.trans h.row
    simp only [Option.some.injEq, Obj.cells.injEq] at this
    exact hT this.2.1
  refine ⟨h.blk.stays (heap_setCell_other _ _ _ _ (hne _ _ _ h.blk (by decide))), ⟨es, hm.stays (heap_setCell_other _ _ _ _ fun (e : s.m = a) => hm.not_blk (e ▸ h.row)), hl⟩, fun i hi hx => (h.node i hi hx).stays (heap_setCell_other _ _ _ _ (hne _ _ _ (h.node i hi hx).blk (by decide))) fun k hk => heap_setCell_other _ _ _ _ fun (e : k = a) => h.new i hi hx (e ▸ hk), ?_, ?_, h.inj, h.apart, h.new⟩
  · rw [List.length_set]
    exact h.hole.stays (heap_setCell_other _ _ _ _ (hne _ _ _ h.hole (by decide)))
  · rw [List.map_set]
    exact h.row.set j _
/-- a kid's parent told -/
theorem RawX.parent (h : RawX w b s H P K x a l) {y : Int} (hy : H y) (hyx : y ≠ x) (hx : H x) : RawX (w.setCell ⟨s.g y, 1, none⟩ (.pointer (some ⟨s.g x, 0, none⟩))) b s H (setf P y (some x)) K x a l := by
  obtain ⟨es, hm, hl⟩ := h.map
  have hby := (h.node y hy hyx).blk
  have hne : ∀ k cs T, BlkT w k cs T → T ≠ tNode → k ≠ s.g y := fun k cs T hk hT e => by
    rw [e] at hk
    have := hk.symm.trans hby
    simp only [Option.some.injEq, Obj.cells.injEq] at this
    exact hT this.2.1
  have hgx : s.g x ≠ s.g y := fun e => hyx (h.inj x y hx hy e).symm
  have hown : ∀ i, H i → i ≠ x → KOwn (w.setCell ⟨s.g y, 1, none⟩ (.pointer (some ⟨s.g x, 0, none⟩))) (s.v i) (ks s (K i)) := fun i hi hix => SOwn.stays (h.node i hi hix).own fun k hk => heap_setCell_other _ _ _ _ fun (e : k = s.g y) => by
    rw [e] at hk
    exact (h.node i hi hix).own.not_blk hk hby tNode_ne
  refine ⟨h.blk.stays (heap_setCell_other _ _ _ _ (hne _ _ _ h.blk (by decide))), ⟨es, hm.stays (heap_setCell_other _ _ _ _ fun (e : s.m = s.g y) => hm.not_blk (e ▸ hby)), hl⟩, fun i hi hix => ?_, ?_, h.row.stays (heap_setCell_other _ _ _ _ (hne _ _ _ h.row (by decide))), h.inj, h.apart, h.new⟩
  · by_cases e : i = y
    · subst e
      rw [setf_same]
      exact ⟨hby.set 1 _, hown i hi hix⟩
    · rw [setf_other _ e]
      exact ⟨(h.node i hi hix).blk.stays (heap_setCell_other _ _ _ _ fun (e2 : s.g i = s.g y) => e (h.inj i y hi hy e2)), hown i hi hix⟩
  · rw [setf_other _ (Ne.symm hyx)]
    exact h.hole.stays (heap_setCell_other _ _ _ _ hgx)
/-- a row is made for a node -/
theorem Raw.open_ (h : Raw w b s H P K) {x : Int} (hx : H x) (n : Nat) :
    RawX ((w.alloc (.cells (List.replicate n (Value.pointer none)).toArray tPtr)).setCell ⟨s.g x, 2, none⟩ (.slice (some ⟨w.heap.size, 0, none⟩) n n)) b s H P K x w.heap.size (List.replicate n none) := by
  obtain ⟨w0, hw0⟩ : ∃ w0, w0 = w.alloc (.cells (List.replicate n (Value.pointer none)).toArray tPtr) := ⟨_, rfl⟩
  have hb : Below w.heap.size w w0 := by rw [hw0]; exact (Below.refl _ _).alloc (Nat.le_refl _) _
  have hr : BlkT w0 w.heap.size ((List.replicate n none).map ptrTo) tPtr := by rw [hw0, List.map_replicate]; exact BlkT.new w _ _
  have h0 := h.below hb
  rw [← hw0]
  obtain ⟨es, hm, hl⟩ := h0.map
  have hbx := (h0.node x hx).blk
  have hne : ∀ k cs T, BlkT w0 k cs T → T ≠ tNode → k ≠ s.g x := fun k cs T hk hT e => by
    rw [e] at hk
    have := hk.symm.trans hbx
    simp only [Option.some.injEq, Obj.cells.injEq] at this
    exact hT this.2.1
  refine ⟨h0.blk.stays (heap_setCell_other _ _ _ _ (hne _ _ _ h0.blk (by decide))), ⟨es, hm.stays (heap_setCell_other _ _ _ _ fun (e : s.m = s.g x) => hm.not_blk (e ▸ hbx)), hl⟩, fun i hi hix => (h0.node i hi).stays (heap_setCell_other _ _ _ _ fun (e : s.g i = s.g x) => hix (h.inj i x hi hx e)) fun k hk => heap_setCell_other _ _ _ _ fun (e : k = s.g x) => (h0.node i hi).own.not_blk (e ▸ hk) hbx tNode_ne, ?_, hr.stays (heap_setCell_other _ _ _ _ (hne _ _ _ hr (by decide))), h.inj, fun i j k hi hj _ _ => h.apart i j k hi hj, fun i hi _ e => ?_⟩
  · rw [List.length_replicate]
    exact hbx.set 2 _
  · have := (SOwn.block (h.node i hi).own e).2
    omega
/-- the same, its blocks the other way round -/
theorem Raw.open2 (h : Raw w b s H P K) {x : Int} (hx : H x) (n : Nat) :
    RawX ((w.setCell ⟨s.g x, 2, none⟩ (.slice (some ⟨w.heap.size, 0, none⟩) n n)).alloc (.cells (List.replicate n (Value.pointer none)).toArray tPtr)) b s H P K x w.heap.size (List.replicate n none) := by
  have := h.open_ hx n
  rw [World.setCell_alloc_past _ _ _ _ (h.node x hx).blk.inside] at this
  exact this
/-- all that it speaks of lies so in another world -/
theorem RawX.move (h : RawX w b s H P K x a l) (hb : ∀ k, k < w.heap.size → w'.heap[k]? = w.heap[k]?) : RawX w' b s H P K x a l := by
  obtain ⟨es, hm', hl⟩ := h.map
  exact h.stays (fun k cs T hk _ => hb k hk.inside) (hb _ hm'.inside) fun i k hi hx hk => hb k (SOwn.block (h.node i hi hx).own hk).2
theorem make_ptrs (w : World) (n : Nat) (hn : n ≤ 2000000) : (Instr.makeSlice 82 (.int .i64 (n : Nat)) (.int .i64 (n : Nat))).run Try.prog w = .ok (.slice (some ⟨w.heap.size, 0, none⟩) n n) (w.alloc (.cells (List.replicate n (Value.pointer none)).toArray tPtr)) := by
  obtain ⟨i, hi, hz, hsize, hby⟩ := info_parts info_ptr
  have h := run_make (P := Try.prog) w 82 tPtr i (.pointer none) Try.underlying82 hi hz .i64 .i64 n n (by omega) (by omega) (by rw [hby]; omega) (by omega)
  rw [hsize, Int.toNat_natCast, Nat.mul_one, made_one _ _ rfl] at h
  exact h
theorem setCell_grown (w : World) (a : Addr) (v : Value) : w.grownBy (w.setCell a v) (some a.block) := ⟨rfl, rfl, rfl, by simp [World.setCell], fun k _ hk => heap_setCell_other _ _ _ _ fun e => hk (by rw [e])⟩
end
end Go.Proofs.Ytokochkjjlbnkaa
