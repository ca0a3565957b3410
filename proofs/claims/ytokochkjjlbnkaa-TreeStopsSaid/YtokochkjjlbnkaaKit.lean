/-
  Words for memory, of no program's type: blocks known whole, rows of values of several cells each, slices of the call's own.
-/
import Derived.Test.YtokochkjjlbnkaaRow
import Derived.Maps.AppendAt
import Derived.Laws.MakeOwn
import Derived.Laws.NewBlocks
namespace Go.Proofs.Ytokochkjjlbnkaa
open Go.RowKit

/-! ### Blocks known whole -/
def Blk (w : World) (g : Nat) (cs : List Value) : Prop := ∃ T, w.heap[g]? = some (.cells cs.toArray T (0, 0))
section
variable {w w' : World} {g : Nat} {cs : List Value}
theorem Blk.inside (h : Blk w g cs) : g < w.heap.size := by
  obtain ⟨T, h⟩ := h
  exact lt_of_block h
theorem Blk.cell (h : Blk w g cs) (i : Nat) : w.cell? ⟨g, i, none⟩ = cs[i]? := by
  obtain ⟨T, h⟩ := h
  rw [cell_of_row _ _ _ _ _ _ h]
  simp
theorem Blk.free (h : Blk w g cs) (i : Nat) : w.frozen? ⟨g, i, none⟩ = false := by
  obtain ⟨T, h⟩ := h
  exact frozen_of_row _ _ _ _ _ h
theorem Blk.stays (h : Blk w g cs) (hb : w'.heap[g]? = w.heap[g]?) : Blk w' g cs := by
  obtain ⟨T, h⟩ := h
  exact ⟨T, hb.trans h⟩
theorem Blk.below (h : Blk w g cs) {B : Nat} (hb : Below B w w') (hB : g < B) : Blk w' g cs := h.stays (hb.block g hB)
theorem Blk.below' (h : Blk w g cs) (hb : Below w.heap.size w w') : Blk w' g cs := h.below hb h.inside
theorem Blk.drew (h : Blk w g cs) : Blk w.drew g cs := h
theorem Blk.drewN (h : Blk w g cs) (n : Nat) : Blk (w.drewN n) g cs := h
theorem Blk.alloc (h : Blk w g cs) (o : Obj) : Blk (w.alloc o) g cs := h.stays (heap_alloc_old _ _ h.inside)
theorem Blk.set (h : Blk w g cs) (i : Nat) (u : Value) : Blk (w.setCell ⟨g, i, none⟩ u) g (cs.set i u) := by
  have hlt := h.inside
  obtain ⟨T, h⟩ := h
  refine ⟨T, ?_⟩
  have h' : w.heap[g] = .cells cs.toArray T (0, 0) := by simpa [Array.getElem?_eq_getElem hlt] using h
  show (w.heap.modify g _)[g]? = _
  rw [Array.getElem?_eq_getElem (by simpa using hlt), Array.getElem_modify_self, h']
  simp
theorem Blk.other (h : Blk w g cs) {g' : Nat} (hg : g ≠ g') (i : Nat) (u : Value) : Blk (w.setCell ⟨g', i, none⟩ u) g cs := h.stays (heap_setCell_other _ _ _ _ hg)
end
theorem blk_new (w : World) (cs : List Value) (T : TypeId) : Blk (w.alloc (.cells cs.toArray T)) w.heap.size cs := ⟨T, heap_alloc_new w _⟩
theorem blk_at (w : World) (g : Nat) (hg : g = w.heap.size) (cs : List Value) (T : TypeId) : Blk (w.alloc (.cells cs.toArray T)) g cs := hg ▸ blk_new w cs T
theorem Blk.c2 {w : World} {g : Nat} {p q : Value} (h : Blk w g [p, q]) : (w.cell? ⟨g, 0, none⟩ = some p ∧ w.cell? ⟨g, 1, none⟩ = some q) ∧ (w.frozen? ⟨g, 0, none⟩ = false ∧ w.frozen? ⟨g, 1, none⟩ = false) ∧ g < w.heap.size :=
  ⟨⟨h.cell 0, h.cell 1⟩, ⟨h.free 0, h.free 1⟩, h.inside⟩
theorem Blk.c4 {w : World} {g : Nat} {p q r s : Value} (h : Blk w g [p, q, r, s]) : (w.cell? ⟨g, 0, none⟩ = some p ∧ w.cell? ⟨g, 1, none⟩ = some q ∧ w.cell? ⟨g, 2, none⟩ = some r ∧ w.cell? ⟨g, 3, none⟩ = some s) ∧
    (w.frozen? ⟨g, 0, none⟩ = false ∧ w.frozen? ⟨g, 1, none⟩ = false ∧ w.frozen? ⟨g, 2, none⟩ = false ∧ w.frozen? ⟨g, 3, none⟩ = false) ∧ g < w.heap.size :=
  ⟨⟨h.cell 0, h.cell 1, h.cell 2, h.cell 3⟩, ⟨h.free 0, h.free 1, h.free 2, h.free 3⟩, h.inside⟩
/-- four cells written -/
theorem Blk.put4 {w : World} {g : Nat} {p q r s : Value} (h : Blk w g [p, q, r, s]) (p' q' r' s' : Value) : Blk ((((w.setCell ⟨g, 0, none⟩ p').setCell ⟨g, 1, none⟩ q').setCell ⟨g, 2, none⟩ r').setCell ⟨g, 3, none⟩ s') g [p', q', r', s'] :=
  (((h.set 0 p').set 1 q').set 2 r').set 3 s'
theorem Blk.off4 {w : World} {g k : Nat} {cs : List Value} (h : Blk w k cs) (hg : k ≠ g) (p' q' r' s' : Value) : Blk ((((w.setCell ⟨g, 0, none⟩ p').setCell ⟨g, 1, none⟩ q').setCell ⟨g, 2, none⟩ r').setCell ⟨g, 3, none⟩ s') k cs :=
  (((h.other hg 0 p').other hg 1 q').other hg 2 r').other hg 3 s'
theorem below4 {w W : World} {B g : Nat} (h : Below B w W) (hg : B ≤ g) (p' q' r' s' : Value) : Below B w ((((W.setCell ⟨g, 0, none⟩ p').setCell ⟨g, 1, none⟩ q').setCell ⟨g, 2, none⟩ r').setCell ⟨g, 3, none⟩ s') :=
  (((h.setCell (p := ⟨g, 0, none⟩) hg p').setCell (p := ⟨g, 1, none⟩) hg q').setCell (p := ⟨g, 2, none⟩) hg r').setCell (p := ⟨g, 3, none⟩) hg s'
theorem below_set {w W : World} {B g i : Nat} {v : Value} (h : Below B w W) (hg : B ≤ g) : Below B w (W.setCell ⟨g, i, none⟩ v) := h.setCell (p := ⟨g, i, none⟩) hg v
/-- a result that stands in a cell -/
theorem blk_ret {P : Program} {fn : Func} {p : Tmp} {ty : TypeId} {tmps : Array Value} {w : World} {g : Nat} {cs : List Value} {d : TypeDesc} {Q : Ending → World → Prop} (hfn : fn.results = #[.cell p ty])
    (hp : tmps.getD p undef = .pointer (some ⟨g, 0, none⟩)) (hB : Blk w g cs) (hu : P.underlying ty = some d) (hd : (match d with | .struct _ | .array _ _ => true | _ => false) = true) (hi : (P.info? ty).map (·.size) = some cs.length)
    (h : Q (.returned (.agg cs.toArray)) w) : bodyPost P fn Q Exit.ret { tmps := tmps, defers := [] } w := by
  obtain ⟨T, hg⟩ := hB
  exact bodyPost_ret_by (results_cell_row hfn _ _ g T _ _ _ hp hg hu hd (by simpa using hi)) rfl h

/-! ### Rows of values of k cells each -/
def SRow {α : Type} (k : Nat) (enc : α → List Value) (w : World) (A : Option Addr) (l : List α) : Prop :=
  0 < l.length → ∃ b off, A = some ⟨b, off, none⟩ ∧ ∀ j (h : j < l.length) i v, (enc l[j])[i]? = some v → w.cell? ⟨b, off + j * k + i, none⟩ = some v
section
variable {α : Type} {k : Nat} {enc : α → List Value} {w w' : World} {A : Option Addr} {l : List α}
theorem SRow.none_ (h : l.length = 0) : SRow k enc w A l := fun h' => absurd h' (by omega)
theorem SRow.below (h : SRow k enc w A l) (hb : Below w.heap.size w w') : SRow k enc w' A l := fun hn => by
  obtain ⟨b, off, e, hc⟩ := h hn
  exact ⟨b, off, e, fun j hj i v hi => (hb.cell (p := ⟨b, _, none⟩) (World.block_lt_of_cell? w ⟨b, _, none⟩ (hc j hj i v hi))).trans (hc j hj i v hi)⟩
theorem SRow.alloc (h : SRow k enc w A l) (o : Obj) : SRow k enc (w.alloc o) A l := h.below ((Below.refl _ _).alloc (Nat.le_refl _) o)
theorem flat_at (hk : ∀ x, (enc x).length = k) : ∀ {l : List α} {j : Nat} (h : j < l.length) {i : Nat} {v : Value}, (enc l[j])[i]? = some v → (l.flatMap enc)[j * k + i]? = some v
  | [], j, h, _, _, _ => by simp at h
  | x :: l, 0, h, i, v, hv => by
    rw [List.flatMap_cons, Nat.zero_mul, Nat.zero_add]
    exact (List.getElem?_append_left (by have := (List.getElem?_eq_some_iff.1 hv).1; exact this)).trans hv
  | x :: l, j + 1, h, i, v, hv => by
    have hj : j < l.length := by simpa using h
    rw [List.flatMap_cons, List.getElem?_append_right (by rw [hk, Nat.add_mul]; omega), hk, show (j + 1) * k + i - k = j * k + i by rw [Nat.add_mul]; omega]
    exact flat_at hk hj hv
theorem flat_len (hk : ∀ x, (enc x).length = k) (l : List α) : (l.flatMap enc).length = l.length * k := by
  induction l with
  | nil => simp
  | cons x l ih => rw [List.flatMap_cons, List.length_append, ih, hk, List.length_cons, Nat.add_mul]; omega
/-- a row that is built -/
theorem srow_new (hk : ∀ x, (enc x).length = k) (w : World) (l : List α) (T : TypeId) {g : Nat} (hg : g = w.heap.size) : SRow k enc (w.alloc (.cells (l.flatMap enc).toArray T)) (some ⟨g, 0, none⟩) l := fun hn => by
  subst hg
  refine ⟨w.heap.size, 0, rfl, fun j hj i v hv => ?_⟩
  rw [cell_of_row _ _ _ _ _ _ (heap_alloc_new w _), Nat.zero_add]
  simpa using flat_at hk hj hv
end

/-! ### Slices of the call's own -/
def SOwn {α : Type} (T : TypeId) (k : Nat) (enc : α → List Value) (w : World) (base : Nat) (v : Value) (l : List α) : Prop := w.ownsRow base T k v l.length (l.flatMap enc)
section
variable {α : Type} {T : TypeId} {k : Nat} {enc : α → List Value} {w w' : World} {base : Nat} {v : Value} {l : List α}
theorem SOwn.nil (w : World) (base : Nat) : SOwn T k enc w base (.slice none 0 0) ([] : List α) := World.ownsRow_nil w base T k
theorem SOwn.lit (hk : ∀ x, (enc x).length = k) (w : World) (l : List α) (hb : base ≤ w.heap.size) (hm : l.length ≤ maxLen) : SOwn T k enc (w.alloc (.cells (l.flatMap enc).toArray T)) base (.slice (some ⟨w.heap.size, 0, none⟩) l.length l.length) l := by
  have := World.ownsRow_lit (base := base) (e := T) (size := k) w (l.flatMap enc).toArray l.length hb hm (by simp [flat_len hk])
  simpa [SOwn] using this
theorem SOwn.block (h : SOwn T k enc w base v l) {g : Nat} (hg : v.ownBlock = some g) : base ≤ g ∧ g < w.heap.size := World.ownsRow.lt h g hg
theorem SOwn.stays (h : SOwn T k enc w base v l) (hb : ∀ g, v.ownBlock = some g → w'.heap[g]? = w.heap[g]?) : SOwn T k enc w' base v l := by
  refine ⟨h.1, ?_⟩
  rcases h.2 with hn | ⟨g, cap, cur, rfl, hg, hbb, rest⟩
  · exact .inl hn
  · exact .inr ⟨g, cap, cur, rfl, hg, (hb g rfl).trans hbb, rest⟩
theorem SOwn.below (h : SOwn T k enc w base v l) (hb : Below w.heap.size w w') : SOwn T k enc w' base v l := h.stays fun g hg => hb.block g (h.block hg).2
theorem SOwn.weaken (h : SOwn T k enc w base v l) {b : Nat} (hb : b ≤ base) : SOwn T k enc w b v l := by
  refine ⟨h.1, ?_⟩
  rcases h.2 with hn | ⟨g, cap, cur, rfl, hg, rest⟩
  · exact .inl hn
  · exact .inr ⟨g, cap, cur, rfl, Nat.le_trans hb hg, rest⟩
theorem SOwn.row (h : SOwn T k enc w base v l) (hk : ∀ x, (enc x).length = k) : ∃ A c, v = .slice A l.length c ∧ l.length ≤ c ∧ c ≤ maxLen ∧ SRow k enc w A l := by
  rcases h.2 with ⟨rfl, h0⟩ | ⟨g, cap, cur, rfl, hg, hb, hc, hm, rest⟩
  · refine ⟨none, 0, by rw [h0], by omega, by unfold maxLen; omega, fun hn => by omega⟩
  · refine ⟨some ⟨g, 0, none⟩, cap, rfl, hc, hm, fun _ => ⟨g, 0, rfl, fun j hj i v hv => ?_⟩⟩
    have hcell := World.ownsRow.cells h (g := g) rfl
    have e : ∀ i, (⟨g, 0, none⟩ : Addr).add i = ⟨g, 0 + i, none⟩ := fun i => by unfold Addr.add; split <;> simp_all
    have := hcell _ _ (flat_at hk hj hv)
    rw [e] at this
    rw [Nat.add_assoc]
    exact this
/-- append of values that lie in a block -/
theorem SOwn.app {P : Program} {ts : TypeId} {z : Value} {by_ : Nat} (hu : P.underlying ts = some (.slice T)) (hinf : (P.info? T).map (fun i => (i.zero, i.size, i.bytes)) = some (some z, k, by_)) (hz : z.cells.size = k) (hk0 : 0 < k) (hby : by_ ≤ 100000)
    (hk : ∀ x, (enc x).length = k) (hplain : ∀ x, ∀ u ∈ enc x, u.oneCell' = true)
    (h : SOwn T k enc w base v l) {xs : List α} {g o c : Nat} (hx : xs ≠ [] → SRow k enc w (some ⟨g, o, none⟩) xs) (hn : l.length + xs.length ≤ 1000000000) (hbase : base ≤ w.heap.size) :
    ∃ v' w', (Builtin.append_ #[ts, ts] ts #[v, .slice (some ⟨g, o, none⟩) xs.length c]).run P w = .ok v' w' ∧ SOwn T k enc w' base v' (l ++ xs) ∧ w.grownBy w' v.ownBlock ∧ (v'.ownBlock = v.ownBlock ∨ v'.ownBlock = some w.heap.size) := by
  obtain ⟨i, hi, hz', hsize, hbyt⟩ : ∃ i, P.info? T = some i ∧ i.zero = some z ∧ i.size = k ∧ i.bytes = by_ := by
    cases hI : P.info? T with
    | none => rw [hI] at hinf; cases hinf
    | some i =>
      rw [hI] at hinf
      simp only [Option.map_some, Option.some.injEq, Prod.mk.injEq] at hinf
      exact ⟨i, rfl, hinf.1, hinf.2.1, hinf.2.2⟩
  have hadd : ∀ j, (⟨g, o, none⟩ : Addr).add j = ⟨g, o + j, none⟩ := fun j => by unfold Addr.add; split <;> simp_all
  have hb2 : (l.length + xs.length) * by_ ≤ 1000000000 * 100000 := Nat.mul_le_mul hn hby
  obtain ⟨v', w', hrun, ho, hg, -, hat⟩ := run_append_own_at (P := P) w base ts ts T i _ k by_ hu hi hz' hsize hbyt hz hk0 v l.length _ h ⟨g, o, none⟩ xs.length c
    (xs.flatMap enc) (flat_len hk xs) (by
      intro j u hj
      rw [hadd]
      have hlen := flat_len hk xs
      have hjl := (List.getElem?_eq_some_iff.1 hj).1
      rw [hlen] at hjl
      have hq : j / k < xs.length := by rw [Nat.div_lt_iff_lt_mul hk0]; exact hjl
      have hr : j % k < k := Nat.mod_lt _ hk0
      have hne : xs ≠ [] := by rintro rfl; simp at hq
      obtain ⟨b, off, e, hc⟩ := hx hne (List.length_pos_iff.2 hne)
      simp only [Option.some.injEq, Addr.mk.injEq, and_true] at e
      obtain ⟨rfl, rfl⟩ := e
      obtain ⟨y, hy⟩ : ∃ y, (enc xs[j / k])[j % k]? = some y := ⟨(enc xs[j / k])[j % k]'(by rw [hk]; exact hr), List.getElem?_eq_getElem (by rw [hk]; exact hr)⟩
      have h1 := flat_at hk hq hy
      have hjk : j / k * k + j % k = j := by rw [Nat.mul_comm]; exact Nat.div_add_mod j k
      rw [hjk, hj] at h1
      obtain rfl := Option.some.inj h1
      have h2 := hc _ hq _ _ hy
      rw [Nat.add_assoc, hjk] at h2
      exact h2) (by
      intro u hu
      obtain ⟨x, _, hx⟩ := List.mem_flatMap.1 hu
      exact hplain x u hx) (by unfold maxLen; omega) (by omega) hbase
  refine ⟨v', w', hrun, ?_, hg, hat⟩
  unfold SOwn
  rw [List.length_append, List.flatMap_append]
  exact ho
end
theorem SRow.one_of_cells {α : Type} {k : Nat} {enc : α → List Value} {w : World} {g o : Nat} {x : α} (h : ∀ i v, (enc x)[i]? = some v → w.cell? ⟨g, o + i, none⟩ = some v) : SRow k enc w (some ⟨g, o, none⟩) [x] := fun _ =>
  ⟨g, o, rfl, fun j hj i v hv => by
    have : j = 0 := by simpa using hj
    subst this
    rw [Nat.zero_mul, Nat.add_zero]
    exact h i v hv⟩
/-- an append whose run is known -/
theorem wpl_append {P : Program} {ops : Array Oper} {rest : List Oper} {o : Oper} {a : Act} {Q : Exit → Act → World → Prop} {w : World} (hgd : Region.wanted o (yielded ops a.tmps) = true) (s x : Operand) (t t2 ty : TypeId)
    (ho : o.op = .call { callee := .builtin .append, args := #[s, x], argTypes := #[t, t2] }) (hty : o.type = ty) (sv xv v' : Value) (w' : World) (hs : a.eval s = sv) (hx : a.eval x = xv)
    (hrun : (Builtin.append_ #[t, t2] ty #[sv, xv]).run P w = .ok v' w') (h : wpList P ops Q rest (a.put o.dst v') w') : wpList P ops Q (o :: rest) a w := by
  subst hty
  unfold wpList
  rw [if_pos hgd]
  refine .inl ?_
  unfold Oper.wp execOp
  simp only [ho, resolve, invoke, builtin, Sem.run_bind, Sem.run_pure, Result.andThen_ok, List.map_toArray, List.map_cons, List.map_nil, hs, hx, hrun]
  exact h
end Go.Proofs.Ytokochkjjlbnkaa
