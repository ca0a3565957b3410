/-
  Tools.
-/
import Derived.Test.YtgadheamldianaaProg
import Derived.WalkKit
import Derived.Below
import Derived.Lib.Hide
import Derived.Deep.Draws
import Derived.Laws.OwnMore
import Derived.Laws.Rows
import Derived.Maps.AppendAt
import Derived.Laws.MakeOwn
import Derived.Laws.NewBlocks
import Derived.Orders
import Derived.RowKit3
import Derived.Deep.MidRow

namespace Go.Proofs.Ytgadheamldianaa
open Go.RowKit

/-- the slice's address leads to these values -/
def Row {α : Type} (enc : α → Value) (w : World) (A : Option Addr) (l : List α) : Prop :=
  0 < l.length → ∃ b off, A = some ⟨b, off, none⟩ ∧ ∀ j (h : j < l.length), w.cell? ⟨b, off + j, none⟩ = some (enc l[j])
def e8 (z : Nat) : Value := .int .u8 (z : Nat)
def eU (z : Nat) : Value := .int .u64 (z : Nat)
def eI (z : Int) : Value := .int .i64 z
def I64 (n : Int) : Prop := -9223372036854775808 ≤ n ∧ n ≤ 9223372036854775807
section
variable {α : Type} {enc : α → Value} {w w' : World} {A : Option Addr} {l : List α}
theorem Row.none_ (h : l.length = 0) : Row enc w A l := fun h' => absurd h' (by omega)
theorem Row.below (h : Row enc w A l) (hb : Below w.heap.size w w') : Row enc w' A l := fun hn => by
  obtain ⟨b, off, e, hc⟩ := h hn
  exact ⟨b, off, e, fun j hj => (hb.cell (World.block_lt_of_cell? w _ (hc j hj))).trans (hc j hj)⟩
theorem Row.alloc (h : Row enc w A l) (o : Obj) : Row enc (w.alloc o) A l := h.below ((Below.refl _ _).alloc (Nat.le_refl _) o)
theorem Row.take (h : Row enc w A l) (k : Nat) : Row enc w A (l.take k) := fun hn => by
  rw [List.length_take] at hn
  obtain ⟨b, off, e, hc⟩ := h (by omega)
  refine ⟨b, off, e, fun j hj => ?_⟩
  rw [List.length_take] at hj
  rw [List.getElem_take]
  exact hc j (by omega)
theorem Row.drop {b off : Nat} (h : Row enc w (some ⟨b, off, none⟩) l) (k : Nat) : Row enc w (some ⟨b, off + k, none⟩) (l.drop k) := fun hn => by
  rw [List.length_drop] at hn
  obtain ⟨b', off', e, hc⟩ := h (by omega)
  simp only [Option.some.injEq, Addr.mk.injEq, and_true] at e
  obtain ⟨rfl, rfl⟩ := e
  refine ⟨b, off + k, rfl, fun j hj => ?_⟩
  rw [List.length_drop] at hj
  rw [List.getElem_drop, Nat.add_assoc]
  exact hc (k + j) (by omega)
theorem Row.at_ (h : Row enc w A l) {k : Nat} (hk : k < l.length) : ∃ b off, A = some ⟨b, off, none⟩ ∧ w.cell? ⟨b, off + k, none⟩ = some (enc l[k]) := by
  obtain ⟨b, off, e, hc⟩ := h (by omega)
  exact ⟨b, off, e, hc k hk⟩
/-- a row that is built -/
theorem row_new (w : World) (l : List α) (T : TypeId) : Row enc (w.alloc (.cells (l.map enc).toArray T)) (some ⟨w.heap.size, 0, none⟩) l := fun hn => by
  refine ⟨w.heap.size, 0, rfl, fun j hj => ?_⟩
  rw [cell_of_row _ _ (0 + j) _ _ _ (heap_alloc_new w _)]
  simp [hj]
theorem row_new' (w : World) (l : List α) (T : TypeId) {g : Nat} (hg : g = w.heap.size) : Row enc (w.alloc (.cells (l.map enc).toArray T)) (some ⟨g, 0, none⟩) l := by
  subst hg
  exact row_new w l T
end
theorem bcell {W w1 : World} (hb : Below W.heap.size W w1) : (∀ b o, b < W.heap.size → w1.cell? ⟨b, o, none⟩ = W.cell? ⟨b, o, none⟩) ∧ (∀ b o, b < W.heap.size → w1.frozen? ⟨b, o, none⟩ = W.frozen? ⟨b, o, none⟩) :=
  ⟨fun b o h => hb.cell (p := ⟨b, o, none⟩) h, fun b o h => hb.frozen (p := ⟨b, o, none⟩) h⟩
/-- what stays of a world that answers were drawn in -/
def Drew (w w' : World) : Prop := ∃ n, w' = w.drewN n
theorem Drew.refl (w : World) : Drew w w := ⟨0, rfl⟩
theorem Drew.more {w w' : World} (h : Drew w w') (n : Nat) : Drew w (w'.drewN n) := by
  obtain ⟨m, rfl⟩ := h
  exact ⟨m + n, by simp⟩
theorem Below.drewN' {B : Nat} {a w : World} (h : Below B a w) (n : Nat) : Below B a (w.drewN n) := h.trans ⟨rfl, rfl, rfl, Nat.le_refl _, fun _ _ => rfl⟩
theorem Drew.below {w w' : World} (h : Drew w w') (B : Nat) : Below B w w' := by
  obtain ⟨n, rfl⟩ := h
  exact Below.drewN' (Below.refl _ _) n
theorem ret_num {k : IntKind} {a b : Int} (h : a = b) : Ending.returned (.int k a) = .returned (.int k b) := by rw [h]
theorem ret_two {k : IntKind} {a b c d : Int} (h : a = b) (h' : c = d) : Ending.returned (.tuple #[.int k a, .int k c]) = .returned (.tuple #[.int k b, .int k d]) := by rw [h, h']
theorem ret_bool {a b : Bool} (h : a = b) : Ending.returned (.bool a) = .returned (.bool b) := by rw [h]
theorem ret_ib {k : IntKind} {a b : Int} {c d : Bool} (h : a = b) (h' : c = d) : Ending.returned (.tuple #[.int k a, .bool c]) = .returned (.tuple #[.int k b, .bool d]) := by rw [h, h']
theorem Drew.trans {a b c : World} (h : Drew a b) (k : Drew b c) : Drew a c := by
  obtain ⟨m, rfl⟩ := k
  exact h.more m
end Go.Proofs.Ytgadheamldianaa

namespace Go.Proofs.Ytgadheamldianaa
open Go.RowKit

/-! ### Blocks known whole -/
def Blk (w : World) (g : Nat) (cs : List Value) : Prop := ∃ T, w.heap[g]? = some (.cells cs.toArray T (0, 0))
section
variable {w w' : World} {g : Nat} {cs : List Value}
theorem Blk.inside (h : Blk w g cs) : g < w.heap.size := by
  obtain ⟨T, h⟩ := h
  exact lt_of_block h
theorem Blk.cell (h : Blk w g cs) (i : Nat) : w.cell? ⟨g, i, none⟩ = cs[i]? := by
  obtain ⟨T, h⟩ := h
  rw [cell_of_row _ _ _ _ _ _ h]
  simp
theorem Blk.free (h : Blk w g cs) (i : Nat) : w.frozen? ⟨g, i, none⟩ = false := by
  obtain ⟨T, h⟩ := h
  exact frozen_of_row _ _ _ _ _ h
theorem Blk.stays (h : Blk w g cs) (hb : w'.heap[g]? = w.heap[g]?) : Blk w' g cs := by
  obtain ⟨T, h⟩ := h
  exact ⟨T, hb.trans h⟩
theorem Blk.below (h : Blk w g cs) {B : Nat} (hb : Below B w w') (hB : g < B) : Blk w' g cs := h.stays (hb.block g hB)
theorem Blk.below' (h : Blk w g cs) (hb : Below w.heap.size w w') : Blk w' g cs := h.below hb h.inside
theorem Blk.drew (h : Blk w g cs) : Blk w.drew g cs := h
theorem Blk.drewN (h : Blk w g cs) (n : Nat) : Blk (w.drewN n) g cs := h
theorem Blk.alloc (h : Blk w g cs) (o : Obj) : Blk (w.alloc o) g cs := h.stays (heap_alloc_old _ _ h.inside)
theorem Blk.set (h : Blk w g cs) (i : Nat) (u : Value) : Blk (w.setCell ⟨g, i, none⟩ u) g (cs.set i u) := by
  have hlt := h.inside
  obtain ⟨T, h⟩ := h
  refine ⟨T, ?_⟩
  have h' : w.heap[g] = .cells cs.toArray T (0, 0) := by simpa [Array.getElem?_eq_getElem hlt] using h
  show (w.heap.modify g _)[g]? = _
  rw [Array.getElem?_eq_getElem (by simpa using hlt), Array.getElem_modify_self, h']
  simp
theorem Blk.other (h : Blk w g cs) {g' : Nat} (hg : g ≠ g') (i : Nat) (u : Value) : Blk (w.setCell ⟨g', i, none⟩ u) g cs := h.stays (heap_setCell_other _ _ _ _ hg)
end
theorem blk_new (w : World) (cs : List Value) (T : TypeId) : Blk (w.alloc (.cells cs.toArray T)) w.heap.size cs := ⟨T, heap_alloc_new w _⟩
theorem blk_at (w : World) (g : Nat) (hg : g = w.heap.size) (cs : List Value) (T : TypeId) : Blk (w.alloc (.cells cs.toArray T)) g cs := hg ▸ blk_new w cs T
theorem Blk.c2 {w : World} {g : Nat} {p q : Value} (h : Blk w g [p, q]) : (w.cell? ⟨g, 0, none⟩ = some p ∧ w.cell? ⟨g, 1, none⟩ = some q) ∧ (w.frozen? ⟨g, 0, none⟩ = false ∧ w.frozen? ⟨g, 1, none⟩ = false) ∧ g < w.heap.size :=
  ⟨⟨h.cell 0, h.cell 1⟩, ⟨h.free 0, h.free 1⟩, h.inside⟩
theorem Blk.c4 {w : World} {g : Nat} {p q r s : Value} (h : Blk w g [p, q, r, s]) : (w.cell? ⟨g, 0, none⟩ = some p ∧ w.cell? ⟨g, 1, none⟩ = some q ∧ w.cell? ⟨g, 2, none⟩ = some r ∧ w.cell? ⟨g, 3, none⟩ = some s) ∧
    (w.frozen? ⟨g, 0, none⟩ = false ∧ w.frozen? ⟨g, 1, none⟩ = false ∧ w.frozen? ⟨g, 2, none⟩ = false ∧ w.frozen? ⟨g, 3, none⟩ = false) ∧ g < w.heap.size :=
  ⟨⟨h.cell 0, h.cell 1, h.cell 2, h.cell 3⟩, ⟨h.free 0, h.free 1, h.free 2, h.free 3⟩, h.inside⟩
/-- four cells written -/
theorem Blk.put4 {w : World} {g : Nat} {p q r s : Value} (h : Blk w g [p, q, r, s]) (p' q' r' s' : Value) : Blk ((((w.setCell ⟨g, 0, none⟩ p').setCell ⟨g, 1, none⟩ q').setCell ⟨g, 2, none⟩ r').setCell ⟨g, 3, none⟩ s') g [p', q', r', s'] :=
  (((h.set 0 p').set 1 q').set 2 r').set 3 s'
theorem Blk.off4 {w : World} {g k : Nat} {cs : List Value} (h : Blk w k cs) (hg : k ≠ g) (p' q' r' s' : Value) : Blk ((((w.setCell ⟨g, 0, none⟩ p').setCell ⟨g, 1, none⟩ q').setCell ⟨g, 2, none⟩ r').setCell ⟨g, 3, none⟩ s') k cs :=
  (((h.other hg 0 p').other hg 1 q').other hg 2 r').other hg 3 s'
theorem below4 {w W : World} {B g : Nat} (h : Below B w W) (hg : B ≤ g) (p' q' r' s' : Value) : Below B w ((((W.setCell ⟨g, 0, none⟩ p').setCell ⟨g, 1, none⟩ q').setCell ⟨g, 2, none⟩ r').setCell ⟨g, 3, none⟩ s') :=
  (((h.setCell (p := ⟨g, 0, none⟩) hg p').setCell (p := ⟨g, 1, none⟩) hg q').setCell (p := ⟨g, 2, none⟩) hg r').setCell (p := ⟨g, 3, none⟩) hg s'
theorem below_set {w W : World} {B g i : Nat} {v : Value} (h : Below B w W) (hg : B ≤ g) : Below B w (W.setCell ⟨g, i, none⟩ v) := h.setCell (p := ⟨g, i, none⟩) hg v
/-- a result that stands in a cell -/
theorem blk_ret {P : Program} {fn : Func} {p : Tmp} {ty : TypeId} {tmps : Array Value} {w : World} {g : Nat} {cs : List Value} {d : TypeDesc} {Q : Ending → World → Prop} (hfn : fn.results = #[.cell p ty])
    (hp : tmps.getD p undef = .pointer (some ⟨g, 0, none⟩)) (hB : Blk w g cs) (hu : P.underlying ty = some d) (hd : (match d with | .struct _ | .array _ _ => true | _ => false) = true) (hi : (P.info? ty).map (·.size) = some cs.length)
    (h : Q (.returned (.agg cs.toArray)) w) : bodyPost P fn Q Exit.ret { tmps := tmps, defers := [] } w := by
  obtain ⟨T, hg⟩ := hB
  exact bodyPost_ret_by (results_cell_row hfn _ _ g T _ _ _ hp hg hu hd (by simpa using hi)) rfl h

/-! ### Rows of values of k cells each -/
def SRow {α : Type} (k : Nat) (enc : α → List Value) (w : World) (A : Option Addr) (l : List α) : Prop :=
  0 < l.length → ∃ b off, A = some ⟨b, off, none⟩ ∧ ∀ j (h : j < l.length) i v, (enc l[j])[i]? = some v → w.cell? ⟨b, off + j * k + i, none⟩ = some v
section
variable {α : Type} {k : Nat} {enc : α → List Value} {w w' : World} {A : Option Addr} {l : List α}
theorem SRow.none_ (h : l.length = 0) : SRow k enc w A l := fun h' => absurd h' (by omega)
theorem SRow.below (h : SRow k enc w A l) (hb : Below w.heap.size w w') : SRow k enc w' A l := fun hn => by
  obtain ⟨b, off, e, hc⟩ := h hn
  exact ⟨b, off, e, fun j hj i v hi => (hb.cell (p := ⟨b, _, none⟩) (World.block_lt_of_cell? w ⟨b, _, none⟩ (hc j hj i v hi))).trans (hc j hj i v hi)⟩
theorem SRow.alloc (h : SRow k enc w A l) (o : Obj) : SRow k enc (w.alloc o) A l := h.below ((Below.refl _ _).alloc (Nat.le_refl _) o)
theorem flat_at (hk : ∀ x, (enc x).length = k) : ∀ {l : List α} {j : Nat} (h : j < l.length) {i : Nat} {v : Value}, (enc l[j])[i]? = some v → (l.flatMap enc)[j * k + i]? = some v
  | [], j, h, _, _, _ => by simp at h
  | x :: l, 0, h, i, v, hv => by
    rw [List.flatMap_cons, Nat.zero_mul, Nat.zero_add]
    exact (List.getElem?_append_left (by have := (List.getElem?_eq_some_iff.1 hv).1; exact this)).trans hv
  | x :: l, j + 1, h, i, v, hv => by
    have hj : j < l.length := by simpa using h
    rw [List.flatMap_cons, List.getElem?_append_right (by rw [hk, Nat.add_mul]; omega), hk, show (j + 1) * k + i - k = j * k + i by rw [Nat.add_mul]; omega]
    exact flat_at hk hj hv
theorem flat_len (hk : ∀ x, (enc x).length = k) (l : List α) : (l.flatMap enc).length = l.length * k := by
  induction l with
  | nil => simp
  | cons x l ih => rw [List.flatMap_cons, List.length_append, ih, hk, List.length_cons, Nat.add_mul]; omega
/-- a row that is built -/
theorem srow_new (hk : ∀ x, (enc x).length = k) (w : World) (l : List α) (T : TypeId) {g : Nat} (hg : g = w.heap.size) : SRow k enc (w.alloc (.cells (l.flatMap enc).toArray T)) (some ⟨g, 0, none⟩) l := fun hn => by
  subst hg
  refine ⟨w.heap.size, 0, rfl, fun j hj i v hv => ?_⟩
  rw [cell_of_row _ _ _ _ _ _ (heap_alloc_new w _), Nat.zero_add]
  simpa using flat_at hk hj hv
end

/-! ### Slices of the call's own -/
def SOwn {α : Type} (T : TypeId) (k : Nat) (enc : α → List Value) (w : World) (base : Nat) (v : Value) (l : List α) : Prop := w.ownsRow base T k v l.length (l.flatMap enc)
section
variable {α : Type} {T : TypeId} {k : Nat} {enc : α → List Value} {w w' : World} {base : Nat} {v : Value} {l : List α}
theorem SOwn.nil (w : World) (base : Nat) : SOwn T k enc w base (.slice none 0 0) ([] : List α) := World.ownsRow_nil w base T k
theorem SOwn.lit (hk : ∀ x, (enc x).length = k) (w : World) (l : List α) (hb : base ≤ w.heap.size) (hm : l.length ≤ maxLen) : SOwn T k enc (w.alloc (.cells (l.flatMap enc).toArray T)) base (.slice (some ⟨w.heap.size, 0, none⟩) l.length l.length) l := by
  have := World.ownsRow_lit (base := base) (e := T) (size := k) w (l.flatMap enc).toArray l.length hb hm (by simp [flat_len hk])
  simpa [SOwn] using this
theorem SOwn.block (h : SOwn T k enc w base v l) {g : Nat} (hg : v.ownBlock = some g) : base ≤ g ∧ g < w.heap.size := World.ownsRow.lt h g hg
theorem SOwn.stays (h : SOwn T k enc w base v l) (hb : ∀ g, v.ownBlock = some g → w'.heap[g]? = w.heap[g]?) : SOwn T k enc w' base v l := by
  refine ⟨h.1, ?_⟩
  rcases h.2 with hn | ⟨g, cap, cur, rfl, hg, hbb, rest⟩
  · exact .inl hn
  · exact .inr ⟨g, cap, cur, rfl, hg, (hb g rfl).trans hbb, rest⟩
theorem SOwn.below (h : SOwn T k enc w base v l) (hb : Below w.heap.size w w') : SOwn T k enc w' base v l := h.stays fun g hg => hb.block g (h.block hg).2
theorem SOwn.weaken (h : SOwn T k enc w base v l) {b : Nat} (hb : b ≤ base) : SOwn T k enc w b v l := by
  refine ⟨h.1, ?_⟩
  rcases h.2 with hn | ⟨g, cap, cur, rfl, hg, rest⟩
  · exact .inl hn
  · exact .inr ⟨g, cap, cur, rfl, Nat.le_trans hb hg, rest⟩
theorem SOwn.row (h : SOwn T k enc w base v l) (hk : ∀ x, (enc x).length = k) : ∃ A c, v = .slice A l.length c ∧ l.length ≤ c ∧ c ≤ maxLen ∧ SRow k enc w A l := by
  rcases h.2 with ⟨rfl, h0⟩ | ⟨g, cap, cur, rfl, hg, hb, hc, hm, rest⟩
  · refine ⟨none, 0, by rw [h0], by omega, by unfold maxLen; omega, fun hn => by omega⟩
  · refine ⟨some ⟨g, 0, none⟩, cap, rfl, hc, hm, fun _ => ⟨g, 0, rfl, fun j hj i v hv => ?_⟩⟩
    have hcell := World.ownsRow.cells h (g := g) rfl
    have e : ∀ i, (⟨g, 0, none⟩ : Addr).add i = ⟨g, 0 + i, none⟩ := fun i => by unfold Addr.add; split <;> simp_all
    have := hcell _ _ (flat_at hk hj hv)
    rw [e] at this
    rw [Nat.add_assoc]
    exact this
/-- append of values that lie in a block -/
theorem SOwn.app {P : Program} {ts : TypeId} {z : Value} {by_ : Nat} (hu : P.underlying ts = some (.slice T)) (hinf : (P.info? T).map (fun i => (i.zero, i.size, i.bytes)) = some (some z, k, by_)) (hz : z.cells.size = k) (hk0 : 0 < k) (hby : by_ ≤ 100000)
    (hk : ∀ x, (enc x).length = k) (hplain : ∀ x, ∀ u ∈ enc x, u.oneCell' = true)
    (h : SOwn T k enc w base v l) {xs : List α} {g o c : Nat} (hx : xs ≠ [] → SRow k enc w (some ⟨g, o, none⟩) xs) (hn : l.length + xs.length ≤ 1000000000) (hbase : base ≤ w.heap.size) :
    ∃ v' w', (Builtin.append_ #[ts, ts] ts #[v, .slice (some ⟨g, o, none⟩) xs.length c]).run P w = .ok v' w' ∧ SOwn T k enc w' base v' (l ++ xs) ∧ w.grownBy w' v.ownBlock ∧ (v'.ownBlock = v.ownBlock ∨ v'.ownBlock = some w.heap.size) := by
  obtain ⟨i, hi, hz', hsize, hbyt⟩ : ∃ i, P.info? T = some i ∧ i.zero = some z ∧ i.size = k ∧ i.bytes = by_ := by
    cases hI : P.info? T with
    | none => rw [hI] at hinf; cases hinf
    | some i =>
      rw [hI] at hinf
      simp only [Option.map_some, Option.some.injEq, Prod.mk.injEq] at hinf
      exact ⟨i, rfl, hinf.1, hinf.2.1, hinf.2.2⟩
  have hadd : ∀ j, (⟨g, o, none⟩ : Addr).add j = ⟨g, o + j, none⟩ := fun j => by unfold Addr.add; split <;> simp_all
  have hb2 : (l.length + xs.length) * by_ ≤ 1000000000 * 100000 := Nat.mul_le_mul hn hby
  obtain ⟨v', w', hrun, ho, hg, -, hat⟩ := run_append_own_at (P := P) w base ts ts T i _ k by_ hu hi hz' hsize hbyt hz hk0 v l.length _ h ⟨g, o, none⟩ xs.length c
    (xs.flatMap enc) (flat_len hk xs) (by
      intro j u hj
      rw [hadd]
      have hlen := flat_len hk xs
      have hjl := (List.getElem?_eq_some_iff.1 hj).1
      rw [hlen] at hjl
      have hq : j / k < xs.length := by rw [Nat.div_lt_iff_lt_mul hk0]; exact hjl
      have hr : j % k < k := Nat.mod_lt _ hk0
      have hne : xs ≠ [] := by rintro rfl; simp at hq
      obtain ⟨b, off, e, hc⟩ := hx hne (List.length_pos_iff.2 hne)
      simp only [Option.some.injEq, Addr.mk.injEq, and_true] at e
      obtain ⟨rfl, rfl⟩ := e
      obtain ⟨y, hy⟩ : ∃ y, (enc xs[j / k])[j % k]? = some y := ⟨(enc xs[j / k])[j % k]'(by rw [hk]; exact hr), List.getElem?_eq_getElem (by rw [hk]; exact hr)⟩
      have h1 := flat_at hk hq hy
      have hjk : j / k * k + j % k = j := by rw [Nat.mul_comm]; exact Nat.div_add_mod j k
      rw [hjk, hj] at h1
      obtain rfl := Option.some.inj h1
      have h2 := hc _ hq _ _ hy
      rw [Nat.add_assoc, hjk] at h2
      exact h2) (by
      intro u hu
      obtain ⟨x, _, hx⟩ := List.mem_flatMap.1 hu
      exact hplain x u hx) (by unfold maxLen; omega) (by omega) hbase
  refine ⟨v', w', hrun, ?_, hg, hat⟩
  unfold SOwn
  rw [List.length_append, List.flatMap_append]
  exact ho
end
theorem SRow.one_of_cells {α : Type} {k : Nat} {enc : α → List Value} {w : World} {g o : Nat} {x : α} (h : ∀ i v, (enc x)[i]? = some v → w.cell? ⟨g, o + i, none⟩ = some v) : SRow k enc w (some ⟨g, o, none⟩) [x] := fun _ =>
  ⟨g, o, rfl, fun j hj i v hv => by
    have : j = 0 := by simpa using hj
    subst this
    rw [Nat.zero_mul, Nat.add_zero]
    exact h i v hv⟩
/-- an append whose run is known -/
theorem wpl_append {P : Program} {ops : Array Oper} {rest : List Oper} {o : Oper} {a : Act} {Q : Exit → Act → World → Prop} {w : World} (hgd : Region.wanted o (yielded ops a.tmps) = true) (s x : Operand) (t t2 ty : TypeId)
    (ho : o.op = .call { callee := .builtin .append, args := #[s, x], argTypes := #[t, t2] }) (hty : o.type = ty) (sv xv v' : Value) (w' : World) (hs : a.eval s = sv) (hx : a.eval x = xv)
    (hrun : (Builtin.append_ #[t, t2] ty #[sv, xv]).run P w = .ok v' w') (h : wpList P ops Q rest (a.put o.dst v') w') : wpList P ops Q (o :: rest) a w := by
  subst hty
  unfold wpList
  rw [if_pos hgd]
  refine .inl ?_
  unfold Oper.wp execOp
  simp only [ho, resolve, invoke, builtin, Sem.run_bind, Sem.run_pure, Result.andThen_ok, List.map_toArray, List.map_cons, List.map_nil, hs, hx, hrun]
  exact h
end Go.Proofs.Ytgadheamldianaa

namespace Go.Proofs.Ytgadheamldianaa
namespace pxm

structure P4 where
  r : Nat
  g : Nat
  b : Nat
  a : Nat
/-- a part by a part, rounded -/
def by_ (x q : Nat) : Nat := (x * q + 127) / 255
def P4.num (p : P4) : Nat := p.a + 256 * p.b + 65536 * p.g + 16777216 * p.r
def P4.Bytes (p : P4) : Prop := p.r < 256 ∧ p.g < 256 ∧ p.b < 256 ∧ p.a < 256
def P4.Right (p : P4) : Prop := p.r ≤ p.a ∧ p.g ≤ p.a ∧ p.b ≤ p.a ∧ p.a ≤ 255
def P4.rightB (p : P4) : Bool := decide (p.r ≤ p.a) && (decide (p.g ≤ p.a) && (decide (p.b ≤ p.a) && decide (p.a ≤ 255)))
theorem P4.rightB_iff {p : P4} : p.rightB = true ↔ p.Right := by
  unfold P4.rightB P4.Right
  simp only [Bool.and_eq_true, decide_eq_true_eq]
def frm (n : Nat) : P4 := ⟨n / 16777216, n / 65536 % 256, n / 256 % 256, n % 256⟩
def P4.times (p : P4) (q : Nat) : P4 := ⟨by_ p.r q, by_ p.g q, by_ p.b q, by_ p.a q⟩
def P4.over (s d : P4) : P4 := ⟨s.r + by_ d.r (255 - s.a), s.g + by_ d.g (255 - s.a), s.b + by_ d.b (255 - s.a), s.a + by_ d.a (255 - s.a)⟩
def zero : P4 := ⟨0, 0, 0, 0⟩
/-- the part at a place: A is at the place 0 -/
def P4.at_ (p : P4) : Nat → Nat
  | 0 => p.a
  | 1 => p.b
  | 2 => p.g
  | _ => p.r

theorem P4.Right.bytes {p : P4} (h : p.Right) : p.Bytes := by
  obtain ⟨h1, h2, h3, h4⟩ := h
  exact ⟨by omega, by omega, by omega, by omega⟩
theorem P4.Bytes.lt {p : P4} (h : p.Bytes) : p.num < 4294967296 := by
  obtain ⟨h1, h2, h3, h4⟩ := h
  unfold P4.num
  omega
theorem P4.Bytes.at_ {p : P4} (h : p.Bytes) (k : Nat) : p.at_ k < 256 := by
  obtain ⟨h1, h2, h3, h4⟩ := h
  match k with
  | 0 => exact h4
  | 1 => exact h3
  | 2 => exact h2
  | _ + 3 => exact h1
theorem frm_bytes {n : Nat} (h : n < 4294967296) : (frm n).Bytes := by
  unfold frm P4.Bytes
  simp only
  omega
theorem num_frm {n : Nat} : (frm n).num = n := by
  unfold frm P4.num
  simp only
  omega
theorem frm_num {p : P4} (h : p.Bytes) : frm p.num = p := by
  obtain ⟨h1, h2, h3, h4⟩ := h
  obtain ⟨r, g, b, a⟩ := p
  simp only at h1 h2 h3 h4
  unfold frm P4.num
  simp only [P4.mk.injEq]
  omega
theorem num_inj {p q : P4} (hp : p.Bytes) (hq : q.Bytes) (h : p.num = q.num) : p = q := by
  rw [← frm_num hp, ← frm_num hq, h]
theorem by_255 (x : Nat) : by_ x 255 = x := by unfold by_; omega
theorem by_0 (x : Nat) : by_ x 0 = 0 := by unfold by_; omega
theorem by_comm (x q : Nat) : by_ x q = by_ q x := by unfold by_; rw [Nat.mul_comm]
theorem by_mono {x y : Nat} (h : x ≤ y) (q : Nat) : by_ x q ≤ by_ y q := by
  unfold by_
  exact Nat.div_le_div_right (Nat.add_le_add_right (Nat.mul_le_mul_right q h) 127)
theorem by_le {x : Nat} (h : x ≤ 255) (q : Nat) : by_ x q ≤ q := by
  have h1 := by_mono h q
  rw [by_comm 255 q, by_255] at h1
  exact h1
theorem mul_lt {x q : Nat} (hx : x < 256) (hq : q < 256) : x * q ≤ 65025 := Nat.mul_le_mul (show x ≤ 255 by omega) (show q ≤ 255 by omega)
theorem by_lt {x q : Nat} (hx : x < 256) (hq : q < 256) : by_ x q < 256 := by
  have := by_le (show x ≤ 255 by omega) q
  omega
theorem P4.Right.times {p : P4} (h : p.Right) {q : Nat} (hq : q < 256) : (p.times q).Right := by
  obtain ⟨h1, h2, h3, h4⟩ := h
  exact ⟨by_mono h1 q, by_mono h2 q, by_mono h3 q, by have := by_le h4 q; show by_ p.a q ≤ 255; omega⟩
theorem P4.Right.over {s d : P4} (hs : s.Right) (hd : d.Right) : (s.over d).Right := by
  obtain ⟨h1, h2, h3, h4⟩ := hs
  obtain ⟨k1, k2, k3, k4⟩ := hd
  refine ⟨Nat.add_le_add h1 (by_mono k1 _), Nat.add_le_add h2 (by_mono k2 _), Nat.add_le_add h3 (by_mono k3 _), ?_⟩
  have := by_le k4 (255 - s.a)
  show s.a + by_ d.a (255 - s.a) ≤ 255
  omega
theorem zero_right : zero.Right := by simp [P4.Right, zero]
theorem zero_num : zero.num = 0 := rfl
theorem over_full {s : P4} (d : P4) (h : s.a = 255) : s.over d = s := by
  obtain ⟨r, g, b, a⟩ := s
  simp only at h
  subst h
  unfold P4.over
  simp only [Nat.sub_self, by_0, Nat.add_zero]
theorem zero_over (d : P4) : zero.over d = d := by
  unfold P4.over zero
  simp only [Nat.sub_zero, by_255, Nat.zero_add]
theorem times_255 (p : P4) : p.times 255 = p := by
  unfold P4.times
  simp only [by_255]
theorem times_0 (p : P4) : p.times 0 = zero := by
  unfold P4.times zero
  simp only [by_0]
/-- over all of l, the first one on top -/
def overAll (p : P4) (l : List P4) : P4 := l.foldl P4.over p
/-- each laid over those ahead of it -/
def stack (d : P4) (l : List P4) : P4 := l.foldl (fun d p => p.over d) d
def timesAll (p : P4) (l : List Nat) : P4 := l.foldl P4.times p
theorem overAll_right {l : List P4} {p : P4} (hp : p.Right) (hl : ∀ d ∈ l, d.Right) : (overAll p l).Right := by
  induction l generalizing p with
  | nil => exact hp
  | cons d l ih => exact ih (hp.over (hl d List.mem_cons_self)) fun x hx => hl x (List.mem_cons_of_mem _ hx)
theorem stack_right {l : List P4} {d : P4} (hd : d.Right) (hl : ∀ p ∈ l, p.Right) : (stack d l).Right := by
  induction l generalizing d with
  | nil => exact hd
  | cons p l ih => exact ih ((hl p List.mem_cons_self).over hd) fun x hx => hl x (List.mem_cons_of_mem _ hx)
theorem timesAll_right {l : List Nat} {p : P4} (hp : p.Right) (hl : ∀ q ∈ l, q < 256) : (timesAll p l).Right := by
  induction l generalizing p with
  | nil => exact hp
  | cons q l ih => exact ih (hp.times (hl q List.mem_cons_self)) fun x hx => hl x (List.mem_cons_of_mem _ hx)
theorem stack_app (d : P4) (l m : List P4) : stack d (l ++ m) = stack (stack d l) m := List.foldl_append ..
/-- the document's way to round -/
theorem by_doc (n : Nat) : (n + 127) / 255 = if 255 < 2 * (n - 255 * (n / 255)) then n / 255 + 1 else n / 255 := by
  split <;> omega
/-- four bytes, one behind the other, as bits -/
def part4 (f : Nat → Nat) : Nat → Nat
  | 0 => 0
  | k + 1 => part4 f k + f k * 256 ^ k
theorem part4_lt {f : Nat → Nat} (hf : ∀ k, k < 4 → f k < 256) : ∀ k, k ≤ 4 → part4 f k < 256 ^ k
  | 0, _ => by simp [part4]
  | k + 1, hk => by
    have h1 := part4_lt hf k (by omega)
    have h2 := hf k (by omega)
    have h3 : f k * 256 ^ k ≤ 255 * 256 ^ k := Nat.mul_le_mul_right _ (by omega)
    have h4 : 256 ^ (k + 1) = 256 ^ k * 256 := Nat.pow_succ ..
    show part4 f k + f k * 256 ^ k < 256 ^ (k + 1)
    omega
theorem part4_num (p : P4) : part4 p.at_ 4 = p.num := by
  simp only [part4, P4.at_, P4.num]
  omega
/-- a byte laid behind bytes -/
theorem or_add {x y k : Nat} (hx : x < 256 ^ k) : x ||| y * 256 ^ k = x + y * 256 ^ k := by
  have e : (256 : Nat) ^ k = 2 ^ (8 * k) := by rw [Nat.pow_mul]
  rw [e] at hx ⊢
  rw [Nat.or_comm, Nat.add_comm, ← Nat.shiftLeft_eq, Nat.shiftLeft_add_eq_or_of_lt hx]
end pxm
end Go.Proofs.Ytgadheamldianaa

namespace Go.Proofs.Ytgadheamldianaa.regs
open Go.RowKit

section
variable {P : Program} {ops : Array Oper} {Q : Exit → Act → World → Prop}

/-- operation i has come up, too -/
def upd (L : Nat → Bool) (i : Nat) : Nat → Bool := fun k => Nat.beq k i || L k
/-- how the world goes on: R; it stands as J says, by which operations have come up -/
structure Inv (R : World → World → Prop) (J : (Nat → Bool) → World → Prop) (ops : Array Oper) (a0 : Act) (w0 : World) (F : Nat → Value → World → Prop) (listed : Array Bool) (a : Act) (w : World) : Prop where
  size : listed.size = ops.size
  tmps : a.tmps.size = a0.tmps.size
  defers : a.defers = a0.defers
  rel : R w0 w
  st : J (fun k => listed.getD k false) w
  old : ∀ s, (∀ o ∈ ops.toList, o.dst ≠ some s) → a.tmps.getD s undef = a0.tmps.getD s undef
  facts : ∀ (k : Nat) (o : Oper) (d : Tmp), ops[k]? = some o → o.dst = some d → listed.getD k false = true → F k (a.tmps.getD d undef) w

/-- one operation, when it comes up -/
def StepOK (R : World → World → Prop) (J : (Nat → Bool) → World → Prop) (P : Program) (ops : Array Oper) (Q : Exit → Act → World → Prop) (a0 : Act) (w0 : World) (F : Nat → Value → World → Prop) (i : Nat) (o : Oper) : Prop :=
  ∀ (L : Nat → Bool) (a : Act) (w : World), a.defers = a0.defers → R w0 w → J L w → L i = false → (∀ s, (∀ o ∈ ops.toList, o.dst ≠ some s) → a.tmps.getD s undef = a0.tmps.getD s undef) →
    (∀ e ∈ o.after, Region.binds .any e = true → L e.on = true) →
    (∀ e ∈ o.after, Region.binds .any e = true → ∀ (ok : Oper) (d : Tmp), ops[e.on]? = some ok → ok.dst = some d → F e.on (a.tmps.getD d undef) w) →
    if Region.wanted o (yielded ops a.tmps) = true then o.wp P a w (fun a' w' => ∃ v, a' = a.put o.dst v ∧ R w w' ∧ F i v w' ∧ J (upd L i) w') Q else F i undef w ∧ J (upd L i) w

def AllSteps (R : World → World → Prop) (J : (Nat → Bool) → World → Prop) (P : Program) (ops : Array Oper) (Q : Exit → Act → World → Prop) (a0 : Act) (w0 : World) (F : Nat → Value → World → Prop) : Nat → List Oper → Prop
  | _, [] => True
  | i, o :: l => StepOK R J P ops Q a0 w0 F i o ∧ AllSteps R J P ops Q a0 w0 F (i + 1) l
theorem AllSteps.at_ {R : World → World → Prop} {J : (Nat → Bool) → World → Prop} {a0 : Act} {w0 : World} {F : Nat → Value → World → Prop} : ∀ {l : List Oper} {n : Nat}, AllSteps R J P ops Q a0 w0 F n l → ∀ (i : Nat) (o : Oper), l[i]? = some o → StepOK R J P ops Q a0 w0 F (n + i) o
  | [], _, _, i, o, h => by simp at h
  | x :: l, n, hs, i, o, h => by
    cases i with
    | zero =>
      simp only [List.getElem?_cons_zero, Option.some.injEq] at h
      subst h
      exact hs.1
    | succ i =>
      have := hs.2.at_ i o (by simpa using h)
      rw [show n + (i + 1) = n + 1 + i by omega]
      exact this

/-- each operation waits for earlier ones alone; no two write one slot; each slot is there -/
def chk (ops : List Oper) (size : Nat) : Bool :=
  (ops.zipIdx.all fun p => p.1.after.all fun e => !Region.binds .any e || decide (e.on < p.2)) && decide ((ops.filterMap (·.dst)).Nodup) && (ops.all fun o => match o.dst with | some d => decide (d < size) | none => true)
theorem nodup_at : ∀ {l : List Oper} (_ : (l.filterMap (·.dst)).Nodup) {i j : Nat} {x y : Oper} {d : Tmp}, l[i]? = some x → l[j]? = some y → x.dst = some d → y.dst = some d → i = j
  | [], _, i, j, x, y, d, hi, _, _, _ => by simp at hi
  | o :: l, h, i, j, x, y, d, hi, hj, hx, hy => by
    have mem : ∀ {k : Nat} {z : Oper}, l[k]? = some z → z.dst = some d → d ∈ l.filterMap (·.dst) := fun hk hz => List.mem_filterMap.2 ⟨_, List.mem_of_getElem? hk, hz⟩
    have hl : (l.filterMap (·.dst)).Nodup := by
      rw [List.filterMap_cons] at h
      split at h
      · exact h
      · exact (List.nodup_cons.1 h).2
    have hno : o.dst = some d → d ∉ l.filterMap (·.dst) := fun ho => by
      rw [List.filterMap_cons, ho] at h
      exact (List.nodup_cons.1 h).1
    cases i with
    | zero =>
      simp only [List.getElem?_cons_zero, Option.some.injEq] at hi
      subst hi
      cases j with
      | zero => rfl
      | succ j => exact absurd (mem (by simpa using hj) hy) (hno hx)
    | succ i =>
      cases j with
      | zero =>
        simp only [List.getElem?_cons_zero, Option.some.injEq] at hj
        subst hj
        exact absurd (mem (by simpa using hi) hx) (hno hy)
      | succ j => exact congrArg (· + 1) (nodup_at hl (by simpa using hi) (by simpa using hj) hx hy)

theorem getD_set_same (t : Array Value) (d : Nat) (v : Value) (h : d < t.size) : (t.setIfInBounds d v).getD d undef = v := by
  simp [Array.getD_eq_getD_getElem?, h]
theorem getD_set_ne (t : Array Value) (d s : Nat) (v : Value) (h : d ≠ s) : (t.setIfInBounds d v).getD s undef = t.getD s undef := by
  simp [Array.getD_eq_getD_getElem?, h]

/-- what a guard looks at -/
theorem yielded_of {a : Act} {j : Nat} {o : Oper} {d : Tmp} {b : Bool} (ho : ops[j]? = some o) (hd : o.dst = some d) (h : a.tmps.getD d undef = .bool b) : yielded ops a.tmps j = some b := by
  have : a.tmps[d]? = some (.bool b) := by
    rw [Array.getD_eq_getD_getElem?] at h
    cases hx : a.tmps[d]? with
    | none => rw [hx] at h; simp [undef] at h
    | some x => rw [hx] at h; simpa using h
  simp [yielded, ho, hd, this]

variable {R : World → World → Prop} {J : (Nat → Bool) → World → Prop} {a0 : Act} {w0 : World} {F : Nat → Value → World → Prop}

theorem upd_set {listed : Array Bool} {i : Nat} (hi : i < listed.size) : (fun k => (listed.setIfInBounds i true).getD k false) = upd (fun k => listed.getD k false) i := by
  funext k
  unfold upd
  by_cases h : i = k
  · subst h
    simp [Array.getD_eq_getD_getElem?, hi]
  · have : Nat.beq k i = false := by
      cases hb : Nat.beq k i with
      | false => rfl
      | true => exact absurd (Nat.eq_of_beq_eq_true hb).symm h
    rw [this]
    simp [Array.getD_eq_getD_getElem?, h]
theorem Inv.step (hT : ∀ a b c, R a b → R b c → R a c) (hmono : ∀ k v w w', F k v w → R w w' → F k v w') (hnd : (ops.toList.filterMap (·.dst)).Nodup) (hin : ∀ o ∈ ops.toList, ∀ d, o.dst = some d → d < a0.tmps.size)
    {listed : Array Bool} {a : Act} {w w' : World} (h : Inv R J ops a0 w0 F listed a w) {i : Nat} {o : Oper} (ho : ops[i]? = some o) {v : Value} (hb : R w w') (hF : F i v w') (hJ : J (upd (fun k => listed.getD k false) i) w') :
    Inv R J ops a0 w0 F (listed.setIfInBounds i true) (a.put o.dst v) w' := by
  have hmem : o ∈ ops.toList := by
    rw [← Array.getElem?_toList] at ho
    exact List.mem_of_getElem? ho
  have hil : i < listed.size := by
    rw [h.size]
    exact (Array.getElem?_eq_some_iff.1 ho).1
  refine ⟨by simpa using h.size, ?_, ?_, hT _ _ _ h.rel hb, by rw [upd_set hil]; exact hJ, fun s hs => ?_, fun k ok d hk hd hl => ?_⟩
  · unfold Act.put
    split <;> simp [h.tmps]
  · unfold Act.put
    split <;> simp [h.defers]
  · unfold Act.put
    split
    · rename_i d hd
      simp only
      rw [getD_set_ne _ _ _ _ (fun e => hs o hmem (by rw [hd, e]))]
      exact h.old s hs
    · exact h.old s hs
  · by_cases hik : i = k
    · subst hik
      obtain rfl : o = ok := Option.some.inj (ho.symm.trans hk)
      unfold Act.put
      rw [hd]
      simp only
      rw [getD_set_same _ _ _ (by rw [h.tmps]; exact hin o hmem d hd)]
      exact hF
    · have hl' : listed.getD k false = true := by
        simpa [Array.getD_eq_getD_getElem?, Array.getElem?_setIfInBounds, hik] using hl
      have hf := hmono _ _ _ _ (h.facts k ok d hk hd hl') hb
      unfold Act.put
      split
      · rename_i d' hd'
        simp only
        rw [getD_set_ne _ _ _ _ (fun e => hik (nodup_at hnd (by rw [Array.getElem?_toList]; exact ho) (by rw [Array.getElem?_toList]; exact hk) (by rw [hd', e]) hd))]
        exact hf
      · exact hf

theorem ready_of_least {listed : Array Bool} (hsize : listed.size = ops.size) (hback : ∀ (i : Nat) (o : Oper), ops[i]? = some o → ∀ e ∈ o.after, Region.binds .any e = true → e.on < i) (hr : Region.ready .any ops listed = []) :
    ∀ i, i < ops.size → listed.getD i false = true := by
  intro i
  induction i using Nat.strongRecOn with
  | _ i ih =>
    intro hi
    cases hl : listed.getD i false with
    | true => rfl
    | false =>
      exfalso
      have hil : i < listed.size := by omega
      have hl' : listed.getD i true = false := by
        simp [Array.getD_eq_getD_getElem?, hil] at hl ⊢
        exact hl
      have : i ∈ Region.ready .any ops listed := by
        unfold Region.ready
        rw [List.mem_filter]
        refine ⟨by simpa using hi, ?_⟩
        have ho : ops[i]? = some ops[i] := by simp [hi]
        rw [hl', ho]
        simp only [Bool.not_false, Bool.true_and, Option.map_some, Option.getD_some]
        rw [Array.all_eq_true_iff_forall_mem]
        intro e he
        cases hb : Region.binds .any e with
        | false => simp
        | true =>
          have hlt := hback i _ ho e he hb
          rw [ih e.on hlt (by omega)]
          simp
      rw [hr] at this
      cases this

theorem any_of_inv (hR : ∀ w, R w w) (hT : ∀ a b c, R a b → R b c → R a c) (hmono : ∀ k v w w', F k v w → R w w' → F k v w') (hnd : (ops.toList.filterMap (·.dst)).Nodup) (hin : ∀ o ∈ ops.toList, ∀ d, o.dst = some d → d < a0.tmps.size)
    (hback : ∀ (i : Nat) (o : Oper), ops[i]? = some o → ∀ e ∈ o.after, Region.binds .any e = true → e.on < i) (hs : ∀ (i : Nat) (o : Oper), ops[i]? = some o → StepOK R J P ops Q a0 w0 F i o)
    (hend : ∀ L a w, (∀ i, i < ops.size → L i = true) → J L w → a.defers = a0.defers → a.tmps.size = a0.tmps.size → R w0 w → (∀ s, (∀ o ∈ ops.toList, o.dst ≠ some s) → a.tmps.getD s undef = a0.tmps.getD s undef) →
      (∀ (k : Nat) (o : Oper) (d : Tmp), ops[k]? = some o → o.dst = some d → F k (a.tmps.getD d undef) w) → Q .normal a w) :
    ∀ (fuel : Nat) (listed : Array Bool) (a : Act) (w : World), listed.toList.count false ≤ fuel → Inv R J ops a0 w0 F listed a w → wpAny P .any ops Q fuel listed a w := by
  have stop : ∀ (listed : Array Bool) (a : Act) (w : World), Inv R J ops a0 w0 F listed a w → Region.ready .any ops listed = [] → Q .normal a w := fun listed a w h hr =>
    hend _ a w (ready_of_least h.size hback hr) h.st h.defers h.tmps h.rel h.old fun k o d hk hd => h.facts k o d hk hd (ready_of_least h.size hback hr k (by
      rcases Nat.lt_or_ge k ops.size with hlt | hge
      · exact hlt
      · rw [Array.getElem?_eq_none hge] at hk; cases hk))
  intro fuel
  induction fuel with
  | zero =>
    intro listed a w hc h
    have hr : Region.ready .any ops listed = [] := by
      unfold Region.ready
      rw [List.filter_eq_nil_iff]
      intro i hi
      have hi' : i < listed.size := by rw [h.size]; simpa using hi
      have hno : false ∉ listed.toList := List.count_eq_zero.1 (by omega)
      have : listed.getD i true = true := by
        simp only [Array.getD_eq_getD_getElem?, Array.getElem?_eq_getElem hi', Option.getD_some]
        cases hb : listed[i] with
        | true => rfl
        | false => exact absurd (by rw [← hb]; exact Array.getElem_mem_toList hi') hno
      rw [this]
      simp
    exact ⟨hr, stop listed a w h hr⟩
  | succ fuel ih =>
    intro listed a w hc h
    refine ⟨stop listed a w h, fun i hi => ?_⟩
    unfold Region.ready at hi
    rw [List.mem_filter] at hi
    obtain ⟨hi1, hi2⟩ := hi
    have hi' : i < ops.size := by simpa using hi1
    have hil : i < listed.size := by rw [h.size]; exact hi'
    have ho : ops[i]? = some ops[i] := by simp [hi']
    rw [ho] at hi2
    simp only [Option.map_some, Option.getD_some, Bool.and_eq_true, Bool.not_eq_true', Array.all_eq_true_iff_forall_mem, Bool.or_eq_true] at hi2
    obtain ⟨hun, hdeps⟩ := hi2
    have hst := hs i _ ho (fun k => listed.getD k false) a w h.defers h.rel h.st (by
      simp only [Array.getD_eq_getD_getElem?, Array.getElem?_eq_getElem hil, Option.getD_some] at hun ⊢
      exact hun) h.old (fun e he hb => by
      rcases hdeps e he with hx | hx
      · rw [hb] at hx; cases hx
      · exact hx) (fun e he hb ok d hok hd => h.facts e.on ok d hok hd (by
      rcases hdeps e he with hx | hx
      · rw [hb] at hx; cases hx
      · exact hx))
    have hcnt : (listed.setIfInBounds i true).toList.count false ≤ fuel := by
      have hf : listed.toList[i]'(by simpa using hil) = false := by
        simp only [Array.getD_eq_getD_getElem?, Array.getElem?_eq_getElem hil, Option.getD_some] at hun
        simpa using hun
      rw [Array.toList_setIfInBounds, List.count_set (by simpa using hil), hf]
      show List.count false listed.toList - 1 + 0 ≤ fuel
      omega
    unfold wpOp
    rw [ho]
    simp only
    split
    · rename_i hw
      rw [if_pos hw] at hst
      refine .inl (Oper.wp_mono (fun a' w' hh => ?_) hst)
      obtain ⟨v, rfl, hb, hF, hJ⟩ := hh
      exact ih _ _ _ hcnt (h.step hT hmono hnd hin ho hb hF hJ)
    · rename_i hw
      rw [if_neg hw] at hst
      exact ih _ _ _ hcnt (h.step hT hmono hnd hin ho (hR _) hst.1 hst.2)

/-- THE REGION: in whichever order its operations come up -/
theorem wp_region_facts {l : List Oper} {id : Nat} (hm : P.follows .mixedOrders = true) (hR : ∀ w, R w w) (hT : ∀ a b c, R a b → R b c → R a c) (F : Nat → Value → World → Prop) (hmono : ∀ k v w w', F k v w → R w w' → F k v w') (hchk : chk l a0.tmps.size = true)
    (hD : R w0 w0.drew) (h0 : J (fun _ => false) w0.drew) (hs : AllSteps R J P l.toArray Q a0 w0 F 0 l)
    (hend : ∀ L a w, (∀ i, i < l.length → L i = true) → J L w → a.defers = a0.defers → a.tmps.size = a0.tmps.size → R w0 w → (∀ s, (∀ o ∈ l, o.dst ≠ some s) → a.tmps.getD s undef = a0.tmps.getD s undef) →
      (∀ (k : Nat) (o : Oper) (d : Tmp), l[k]? = some o → o.dst = some d → F k (a.tmps.getD d undef) w) → Q .normal a w) :
    (Code.region id l.toArray true).wp P Q a0 w0 := by
  unfold chk at hchk
  simp only [Bool.and_eq_true, decide_eq_true_eq] at hchk
  obtain ⟨⟨h1, h2⟩, h3⟩ := hchk
  have hback : ∀ (i : Nat) (o : Oper), l.toArray[i]? = some o → ∀ e ∈ o.after, Region.binds .any e = true → e.on < i := by
    intro i o ho e he hb
    rw [List.all_eq_true] at h1
    have := h1 (o, i) (List.mem_zipIdx_iff_getElem?.2 (by simpa using ho))
    rw [Array.all_eq_true_iff_forall_mem] at this
    have h5 := this e he
    rw [hb] at h5
    simpa using h5
  have hin : ∀ o ∈ l, ∀ d, o.dst = some d → d < a0.tmps.size := by
    intro o ho d hd
    rw [List.all_eq_true] at h3
    have := h3 o ho
    rw [hd] at this
    simpa using this
  refine wp_region_any hm (any_of_inv (R := R) (J := J) (F := F) (a0 := a0) (w0 := w0) hR hT hmono h2 hin hback (fun i o ho => ?_) (fun L a w hL hJ h4 h5 h6 h7 h8 => hend L a w (by simpa using hL) hJ h4 h5 h6 h7 fun k o d hk hd => h8 k o d (by simpa using hk) hd) _ _ _ _ ?_ ?_)
  · have := hs.at_ i o (by simpa using ho)
    rw [Nat.zero_add] at this
    exact this
  · simp
  · have hL : (fun k => (Array.replicate l.toArray.size false).getD k false) = fun _ => false := by
      funext k
      simp [Array.getD_eq_getD_getElem?, Array.getElem?_replicate]
      split <;> rfl
    refine ⟨by simp, rfl, rfl, hD, by rw [hL]; exact h0, fun _ _ => rfl, fun k o d hk hd hl => ?_⟩
    exfalso
    simp [Array.getD_eq_getD_getElem?, Array.getElem?_replicate] at hl
    split at hl <;> simp at hl

/-! ### The same in words that close by computing -/
/-- no operation of the region writes slot s -/
def kept (l : List Oper) (s : Nat) : Bool := l.all fun o => match o.dst with | some d => d != s | none => true
/-- the slot of operation k -/
def slotOf (l : List Oper) (k : Nat) : Option Nat := (l[k]?).bind (·.dst)
/-- o waits for operation k -/
def waits (o : Oper) (k : Nat) : Bool := o.after.any fun e => e.on == k && Region.binds .any e
theorem kept_spec {l : List Oper} {s : Nat} (h : kept l s = true) : ∀ o ∈ l, o.dst ≠ some s := by
  intro o ho hd
  unfold kept at h
  rw [List.all_eq_true] at h
  have := h o ho
  rw [hd] at this
  simp at this

/-- what is at hand when an operation comes up: old slots, the facts of those that it waits for -/
structure Hand (R : World → World → Prop) (J : (Nat → Bool) → World → Prop) (l : List Oper) (a0 : Act) (w0 : World) (F : Nat → Value → World → Prop) (i : Nat) (o : Oper) (L : Nat → Bool) (a : Act) (w : World) : Prop where
  defers : a.defers = a0.defers
  rel : R w0 w
  st : J L w
  un : L i = false
  old : ∀ s, kept l s = true → a.tmps.getD s undef = a0.tmps.getD s undef
  up : ∀ k, waits o k = true → L k = true
  dep : ∀ k d, waits o k = true → slotOf l k = some d → F k (a.tmps.getD d undef) w
theorem StepOK.of {l : List Oper} {i : Nat} {o : Oper}
    (h : ∀ L a w, Hand R J l a0 w0 F i o L a w → if Region.wanted o (yielded l.toArray a.tmps) = true then o.wp P a w (fun a' w' => ∃ v, a' = a.put o.dst v ∧ R w w' ∧ F i v w' ∧ J (upd L i) w') Q else F i undef w ∧ J (upd L i) w) :
    StepOK R J P l.toArray Q a0 w0 F i o := fun L a w h1 h2 h3 h3u h4 h5 h6 => h L a w ⟨h1, h2, h3, h3u, fun s hs => h4 s (by simpa using kept_spec hs), fun k hw => by
  unfold waits at hw
  rw [Array.any_eq_true'] at hw
  obtain ⟨e, he, hb⟩ := hw
  simp only [Bool.and_eq_true, beq_iff_eq] at hb
  obtain ⟨hk, hb⟩ := hb
  subst hk
  exact h5 e he hb, fun k d hw hd => by
  unfold waits at hw
  rw [Array.any_eq_true'] at hw
  obtain ⟨e, he, hb⟩ := hw
  simp only [Bool.and_eq_true, beq_iff_eq] at hb
  obtain ⟨hk, hb⟩ := hb
  unfold slotOf at hd
  obtain ⟨ok, ho, hd'⟩ := Option.bind_eq_some_iff.1 hd
  subst hk
  exact h6 e he hb ok d (by simpa using ho) hd'⟩
/-- an operation without a guard -/
theorem StepOK.plain {l : List Oper} {i : Nat} {o : Oper} (hg : o.guard = none) (h : ∀ L a w, Hand R J l a0 w0 F i o L a w → o.wp P a w (fun a' w' => ∃ v, a' = a.put o.dst v ∧ R w w' ∧ F i v w' ∧ J (upd L i) w') Q) :
    StepOK R J P l.toArray Q a0 w0 F i o := StepOK.of fun L a w hh => by
  rw [if_pos (by simp [Region.wanted, hg])]
  exact h L a w hh
/-- an operation whose guard says yes -/
theorem StepOK.yes {l : List Oper} {i : Nat} {o : Oper} (j : Nat) (b : Bool) (d : Tmp) (hg : o.guard = some (j, b)) (hd : slotOf l j = some d) (hb : ∀ L a w, Hand R J l a0 w0 F i o L a w → a.tmps.getD d undef = .bool b)
    (h : ∀ L a w, Hand R J l a0 w0 F i o L a w → o.wp P a w (fun a' w' => ∃ v, a' = a.put o.dst v ∧ R w w' ∧ F i v w' ∧ J (upd L i) w') Q) : StepOK R J P l.toArray Q a0 w0 F i o := StepOK.of fun L a w hh => by
  unfold slotOf at hd
  obtain ⟨oj, hj, hd⟩ := Option.bind_eq_some_iff.1 hd
  have := yielded_of (ops := l.toArray) (by simpa using hj) hd (hb L a w hh)
  rw [if_pos (by simp [Region.wanted, hg, this])]
  exact h L a w hh
/-- an operation whose guard says no -/
theorem StepOK.no {l : List Oper} {i : Nat} {o : Oper} (j : Nat) (b : Bool) (d : Tmp) (hg : o.guard = some (j, b)) (hd : slotOf l j = some d) (hb : ∀ L a w, Hand R J l a0 w0 F i o L a w → a.tmps.getD d undef = .bool (!b))
    (h : ∀ L a w, Hand R J l a0 w0 F i o L a w → F i undef w ∧ J (upd L i) w) : StepOK R J P l.toArray Q a0 w0 F i o := StepOK.of fun L a w hh => by
  unfold slotOf at hd
  obtain ⟨oj, hj, hd⟩ := Option.bind_eq_some_iff.1 hd
  have := yielded_of (ops := l.toArray) (by simpa using hj) hd (hb L a w hh)
  rw [if_neg (by simp [Region.wanted, hg, this])]
  exact h L a w hh
theorem yielded_undef {ops : Array Oper} {a : Act} {j : Nat} {o : Oper} {d : Tmp} {b : Bool} (ho : ops[j]? = some o) (hd : o.dst = some d) (h : a.tmps.getD d undef = undef) : yielded ops a.tmps j ≠ some b := by
  rw [Array.getD_eq_getD_getElem?] at h
  cases hx : a.tmps[d]? with
  | none => simp [yielded, ho, hd, hx]
  | some x =>
    rw [hx] at h
    simp only [Option.getD_some] at h
    subst h
    simp [yielded, ho, hd, hx, undef]
/-- an operation whose guard was not taken itself -/
theorem StepOK.out_ {l : List Oper} {i : Nat} {o : Oper} (j : Nat) (b : Bool) (d : Tmp) (hg : o.guard = some (j, b)) (hd : slotOf l j = some d) (hb : ∀ L a w, Hand R J l a0 w0 F i o L a w → a.tmps.getD d undef = undef)
    (h : ∀ L a w, Hand R J l a0 w0 F i o L a w → F i undef w ∧ J (upd L i) w) : StepOK R J P l.toArray Q a0 w0 F i o := StepOK.of fun L a w hh => by
  unfold slotOf at hd
  obtain ⟨oj, hj, hd⟩ := Option.bind_eq_some_iff.1 hd
  have := yielded_undef (ops := l.toArray) (b := b) (by simpa using hj) hd (hb L a w hh)
  rw [if_neg (by simp only [Region.wanted, hg]; simpa using this)]
  exact h L a w hh
/-- what is said of an operation's value: it stays so while the world goes on -/
structure Say (R : World → World → Prop) where
  p : Value → World → Prop
  mono : ∀ v w w', p v w → R w w' → p v w'
/-- it is v -/
def Say.val (R : World → World → Prop) (v0 : Value) : Say R := ⟨fun v _ => v = v0, fun _ _ _ h _ => h⟩
/-- nothing -/
def Say.any (R : World → World → Prop) : Say R := ⟨fun _ _ => True, fun _ _ _ h _ => h⟩
/-- it is a slice of one cell, that holds u -/
def Say.one (u : Value) : Say (fun w w' => Below w.heap.size w w') := ⟨fun v w => ∃ g, v = .slice (some ⟨g, 0, none⟩) 1 1 ∧ w.cell? ⟨g, 0, none⟩ = some u, fun _ w _ h hb => by
  obtain ⟨g, hv, hc⟩ := h
  exact ⟨g, hv, (hb.cell (World.block_lt_of_cell? w _ hc)).trans hc⟩⟩
def bl (w w' : World) : Prop := Below w.heap.size w w'
theorem bl_refl (w : World) : bl w w := Below.refl _ _
theorem bl_trans (a b c : World) (h : bl a b) (k : bl b c) : bl a c := Below.trans h (Below.mono k h.size)
/-- a region of a list -/
theorem wp_region_hand {l : List Oper} {id : Nat} (R : World → World → Prop) (J : (Nat → Bool) → World → Prop) (hm : P.follows .mixedOrders = true) (hR : ∀ w, R w w) (hT : ∀ a b c, R a b → R b c → R a c) (F : Nat → Value → World → Prop) (hmono : ∀ k v w w', F k v w → R w w' → F k v w') (hchk : chk l a0.tmps.size = true)
    (hD : R w0 w0.drew) (h0 : J (fun _ => false) w0.drew) (hs : AllSteps R J P l.toArray Q a0 w0 F 0 l)
    (hend : ∀ L a w, (∀ i, i < l.length → L i = true) → J L w → a.defers = a0.defers → a.tmps.size = a0.tmps.size → R w0 w → (∀ s, kept l s = true → a.tmps.getD s undef = a0.tmps.getD s undef) →
      (∀ k d, slotOf l k = some d → F k (a.tmps.getD d undef) w) → Q .normal a w) :
    (Code.region id l.toArray true).wp P Q a0 w0 :=
  wp_region_facts hm hR hT F hmono hchk hD h0 hs fun L a w hL hJ h1 h2 h3 h4 h5 => hend L a w hL hJ h1 h2 h3 (fun s hs => h4 s (kept_spec hs)) fun k d hd => by
    unfold slotOf at hd
    obtain ⟨ok, ho, hd⟩ := Option.bind_eq_some_iff.1 hd
    exact h5 k ok d ho hd

/-- what was yielded, laid slot by slot -/
def putAll (a : Act) : List (Tmp × Value) → Act
  | [] => a
  | (d, v) :: r => putAll (a.put (some d) v) r
theorem putAll_get (val : Tmp → Value) : ∀ (ds : List Tmp) (a : Act), (putAll a (ds.map fun d => (d, val d))).tmps.size = a.tmps.size ∧ (putAll a (ds.map fun d => (d, val d))).defers = a.defers ∧
    ∀ s, s < a.tmps.size → (putAll a (ds.map fun d => (d, val d))).tmps.getD s undef = if s ∈ ds then val s else a.tmps.getD s undef
  | [], a => ⟨rfl, rfl, fun s _ => by simp [putAll]⟩
  | d :: ds, a => by
    obtain ⟨h1, h2, h3⟩ := putAll_get val ds (a.put (some d) (val d))
    have hsz : (a.put (some d) (val d)).tmps.size = a.tmps.size := by simp [Act.put]
    have hdf : (a.put (some d) (val d)).defers = a.defers := rfl
    refine ⟨h1.trans hsz, h2.trans hdf, fun s hs => ?_⟩
    have h4 := h3 s (by rw [hsz]; exact hs)
    show (putAll (a.put (some d) (val d)) (ds.map fun d => (d, val d))).tmps.getD s undef = _
    rw [h4]
    by_cases hm : s ∈ ds
    · simp [hm]
    · by_cases he : s = d
      · subst he
        simp only [hm, if_false, List.mem_cons, true_or, if_true]
        exact getD_set_same _ _ _ hs
      · simp only [hm, if_false, List.mem_cons, he, or_self]
        exact getD_set_ne _ _ _ _ (fun e => he e.symm)
theorem putAll_eq {l : List Oper} {a a0 : Act} (hsz : a.tmps.size = a0.tmps.size) (hdef : a.defers = a0.defers) (hold : ∀ s, kept l s = true → a.tmps.getD s undef = a0.tmps.getD s undef) :
    a = putAll a0 ((l.filterMap (·.dst)).map fun d => (d, a.tmps.getD d undef)) := by
  obtain ⟨h1, h2, h3⟩ := putAll_get (fun d => a.tmps.getD d undef) (l.filterMap (·.dst)) a0
  generalize putAll a0 ((l.filterMap (·.dst)).map fun d => (d, a.tmps.getD d undef)) = b at *
  obtain ⟨at_, ad⟩ := a
  obtain ⟨bt, bd⟩ := b
  simp only at h1 h2 h3 hsz hdef hold
  have e1 : at_ = bt := by
    apply Array.ext (by omega)
    intro i hi hi2
    have h4 := h3 i (by omega)
    have g1 : at_.getD i undef = at_[i] := by simp [Array.getD_eq_getD_getElem?, hi]
    have g2 : bt.getD i undef = bt[i] := by simp [Array.getD_eq_getD_getElem?, hi2]
    have key : at_.getD i undef = bt.getD i undef := by
      rw [h4]
      by_cases hn : i ∈ l.filterMap (·.dst)
      · rw [if_pos hn]
      · rw [if_neg hn]
        refine hold i ?_
        unfold kept
        rw [List.all_eq_true]
        intro o ho
        cases hd : o.dst with
        | none => rfl
        | some d =>
          simp only [bne_iff_ne, ne_eq]
          intro e
          exact hn (List.mem_filterMap.2 ⟨o, ho, by rw [hd, e]⟩)
    rw [g1, g2] at key
    exact key
  rw [e1, hdef.trans h2.symm]
/-- a region of a list; what is behind it goes on with the slots laid -/
theorem wp_region_put {l : List Oper} {id : Nat} (R : World → World → Prop) (J : (Nat → Bool) → World → Prop) (ds : List Tmp) (hm : P.follows .mixedOrders = true) (hds : l.filterMap (·.dst) = ds) (hR : ∀ w, R w w) (hT : ∀ a b c, R a b → R b c → R a c) (F : Nat → Value → World → Prop) (hmono : ∀ k v w w', F k v w → R w w' → F k v w') (hchk : chk l a0.tmps.size = true)
    (hD : R w0 w0.drew) (h0 : J (fun _ => false) w0.drew) (hs : AllSteps R J P l.toArray Q a0 w0 F 0 l)
    (hend : ∀ (L : Nat → Bool) (w : World) (val : Tmp → Value), (∀ i, i < l.length → L i = true) → J L w → R w0 w → (∀ k d, slotOf l k = some d → F k (val d) w) → Q .normal (putAll a0 (ds.map fun d => (d, val d))) w) :
    (Code.region id l.toArray true).wp P Q a0 w0 := by
  refine wp_region_hand R J hm hR hT F hmono hchk hD h0 hs fun L a w hL hJ h1 h2 h3 h4 h5 => ?_
  have e := putAll_eq h2 h1 h4
  rw [hds] at e
  have := hend L w (fun d => a.tmps.getD d undef) hL hJ h3 h5
  rw [← e] at this
  exact this
/-- the whole stays, and nothing more is said -/
def noJ (_ : Nat → Bool) (_ : World) : Prop := True
theorem noJ_ok (L : Nat → Bool) (w : World) : noJ L w := trivial
/-! ### A region that is gone through in its own order: the same steps serve -/
theorem list_of_inv {l : List Oper} (hR : ∀ w, R w w) (hT : ∀ a b c, R a b → R b c → R a c) (hmono : ∀ k v w w', F k v w → R w w' → F k v w') (hnd : (l.filterMap (·.dst)).Nodup) (hin : ∀ o ∈ l, ∀ d, o.dst = some d → d < a0.tmps.size)
    (hback : ∀ (i : Nat) (o : Oper), l.toArray[i]? = some o → ∀ e ∈ o.after, Region.binds .any e = true → e.on < i) (hs : ∀ (i : Nat) (o : Oper), l.toArray[i]? = some o → StepOK R J P l.toArray Q a0 w0 F i o)
    (hend : ∀ L a w, (∀ i, i < l.toArray.size → L i = true) → J L w → a.defers = a0.defers → a.tmps.size = a0.tmps.size → R w0 w → (∀ s, (∀ o ∈ l.toArray.toList, o.dst ≠ some s) → a.tmps.getD s undef = a0.tmps.getD s undef) →
      (∀ (k : Nat) (o : Oper) (d : Tmp), l.toArray[k]? = some o → o.dst = some d → F k (a.tmps.getD d undef) w) → Q .normal a w) :
    ∀ (suf pre : List Oper) (listed : Array Bool) (a : Act) (w : World), l = pre ++ suf → Inv R J l.toArray a0 w0 F listed a w → (∀ i, i < l.length → listed.getD i false = decide (i < pre.length)) → wpList P l.toArray Q suf a w := by
  intro suf
  induction suf with
  | nil =>
    intro pre listed a w hl h hlist
    have hall : ∀ i, i < l.toArray.size → listed.getD i false = true := fun i hi => by
      have hi' : i < l.length := by simpa using hi
      rw [hlist i hi', decide_eq_true]
      rw [hl, List.append_nil] at hi'
      exact hi'
    exact hend _ a w hall h.st h.defers h.tmps h.rel h.old fun k o d hk hd => h.facts k o d hk hd (hall k (by
      rcases Nat.lt_or_ge k l.toArray.size with hlt | hge
      · exact hlt
      · rw [Array.getElem?_eq_none hge] at hk; cases hk))
  | cons o suf ih =>
    intro pre listed a w hl h hlist
    have hlt : pre.length < l.length := by rw [hl, List.length_append, List.length_cons]; omega
    have ho : l.toArray[pre.length]? = some o := by
      rw [List.getElem?_toArray, hl, List.getElem?_append_right (Nat.le_refl _), Nat.sub_self]
      rfl
    have hup : ∀ e ∈ o.after, Region.binds .any e = true → listed.getD e.on false = true := fun e he hb => by
      have := hback _ o ho e he hb
      rw [hlist e.on (by omega), decide_eq_true this]
    have hst := hs pre.length o ho (fun k => listed.getD k false) a w h.defers h.rel h.st (by
      show listed.getD pre.length false = false
      rw [hlist _ hlt, decide_eq_false (Nat.lt_irrefl _)]) h.old hup (fun e he hb ok d hok hd => h.facts e.on ok d hok hd (hup e he hb))
    have hl' : l = (pre ++ [o]) ++ suf := by rw [hl, List.append_assoc]; rfl
    have hsz : pre.length < listed.size := by rw [h.size]; simpa using hlt
    have hlist' : ∀ i, i < l.length → (listed.setIfInBounds pre.length true).getD i false = decide (i < (pre ++ [o]).length) := fun i hi => by
      have e : (listed.setIfInBounds pre.length true).getD i false = upd (fun k => listed.getD k false) pre.length i := congrFun (upd_set hsz) i
      rw [e]
      show (Nat.beq i pre.length || listed.getD i false) = _
      rw [hlist i hi, List.length_append, List.length_singleton]
      by_cases hi2 : i = pre.length
      · rw [hi2, show Nat.beq pre.length pre.length = true from Nat.beq_refl _, Bool.true_or, decide_eq_true (by omega)]
      · have hb : Nat.beq i pre.length = false := by
          cases hbb : Nat.beq i pre.length with
          | false => rfl
          | true => exact absurd (Nat.eq_of_beq_eq_true hbb) hi2
        rw [hb, Bool.false_or]
        congr 1
        exact propext ⟨fun h => by omega, fun h => by omega⟩
    unfold wpList
    split
    · rename_i hw
      rw [if_pos hw] at hst
      refine .inl (Oper.wp_mono (fun a' w' hh => ?_) hst)
      obtain ⟨v, rfl, hb, hF, hJ⟩ := hh
      exact ih (pre ++ [o]) _ _ _ hl' (h.step hT hmono (by simpa using hnd) (by simpa using hin) ho hb hF hJ) hlist'
    · rename_i hw
      rw [if_neg hw] at hst
      exact ih (pre ++ [o]) _ _ _ hl' (h.step hT hmono (by simpa using hnd) (by simpa using hin) ho (hR _) hst.1 hst.2) hlist'
/-- a region in its own order; what is behind it goes on with the slots laid -/
theorem wp_region_seq {l : List Oper} {id : Nat} (R : World → World → Prop) (J : (Nat → Bool) → World → Prop) (ds : List Tmp) (hds : l.filterMap (·.dst) = ds) (hR : ∀ w, R w w) (hT : ∀ a b c, R a b → R b c → R a c) (F : Nat → Value → World → Prop) (hmono : ∀ k v w w', F k v w → R w w' → F k v w') (hchk : chk l a0.tmps.size = true)
    (h0 : J (fun _ => false) w0) (hs : AllSteps R J P l.toArray Q a0 w0 F 0 l)
    (hend : ∀ (L : Nat → Bool) (w : World) (val : Tmp → Value), (∀ i, i < l.length → L i = true) → J L w → R w0 w → (∀ k d, slotOf l k = some d → F k (val d) w) → Q .normal (putAll a0 (ds.map fun d => (d, val d))) w) :
    (Code.region id l.toArray false).wp P Q a0 w0 := by
  unfold chk at hchk
  simp only [Bool.and_eq_true, decide_eq_true_eq] at hchk
  obtain ⟨⟨h1, h2⟩, h3⟩ := hchk
  have hback : ∀ (i : Nat) (o : Oper), l.toArray[i]? = some o → ∀ e ∈ o.after, Region.binds .any e = true → e.on < i := by
    intro i o ho e he hb
    rw [List.all_eq_true] at h1
    have := h1 (o, i) (List.mem_zipIdx_iff_getElem?.2 (by simpa using ho))
    rw [Array.all_eq_true_iff_forall_mem] at this
    have h5 := this e he
    rw [hb] at h5
    simpa using h5
  have hin : ∀ o ∈ l, ∀ d, o.dst = some d → d < a0.tmps.size := by
    intro o ho d hd
    rw [List.all_eq_true] at h3
    have := h3 o ho
    rw [hd] at this
    simpa using this
  refine wp_region_lit (list_of_inv (R := R) (J := J) (F := F) (a0 := a0) (w0 := w0) hR hT hmono h2 hin hback (fun i o ho => ?_) (fun L a w hL hJ h4 h5 h6 h7 h8 => ?_) l [] (Array.replicate l.length false) a0 w0 rfl ?_ ?_)
  · have := hs.at_ i o (by simpa using ho)
    rw [Nat.zero_add] at this
    exact this
  · have e := putAll_eq (l := l) h5 h4 (fun s hs => h7 s (by simpa using kept_spec hs))
    rw [hds] at e
    have := hend L w (fun d => a.tmps.getD d undef) (by simpa using hL) hJ h6 (fun k d hd => by
      unfold slotOf at hd
      obtain ⟨ok, ho, hd⟩ := Option.bind_eq_some_iff.1 hd
      exact h8 k ok d (by simpa using ho) hd)
    rw [← e] at this
    exact this
  · have hL : (fun k => (Array.replicate l.length false).getD k false) = fun _ => false := by
      funext k
      simp [Array.getD_eq_getD_getElem?, Array.getElem?_replicate]
      split <;> rfl
    refine ⟨by simp, rfl, rfl, hR _, by rw [hL]; exact h0, fun _ _ => rfl, fun k o d hk hd hl => ?_⟩
    exfalso
    simp [Array.getD_eq_getD_getElem?, Array.getElem?_replicate] at hl
    split at hl <;> simp at hl
  · intro i hi
    simp [Array.getD_eq_getD_getElem?, hi]
end
end Go.Proofs.Ytgadheamldianaa.regs

namespace Go.Proofs.Ytgadheamldianaa.regv
open Go.RowKit regs

section
variable {P : Program} {ops : Array Oper} {Q : Exit → Act → World → Prop}
/-- what the slots hold -/
def sl (a : Act) (s : Tmp) : Value := a.tmps.getD s undef
theorem sl_ne {t : Array Value} {d s : Nat} {v : Value} {df df' : _} (h : d ≠ s) : sl ⟨t.setIfInBounds d v, df⟩ s = sl ⟨t, df'⟩ s := regs.getD_set_ne t d s v h
theorem sl_same {t : Array Value} {d : Nat} {v : Value} {df : _} (h : d < t.size) : sl ⟨t.setIfInBounds d v, df⟩ d = v := regs.getD_set_same t d v h
theorem sl_put {a : Act} {d s : Tmp} {v : Value} (h : d ≠ s) : sl (a.put (some d) v) s = sl a s := regs.getD_set_ne a.tmps d s v h
/-- how the world goes on: R; it stands as J says, by which operations have come up -/
structure Inv (R : World → World → Prop) (J : (Nat → Bool) → (Tmp → Value) → World → Prop) (ops : Array Oper) (a0 : Act) (w0 : World) (F : Nat → Value → World → Prop) (listed : Array Bool) (a : Act) (w : World) : Prop where
  size : listed.size = ops.size
  tmps : a.tmps.size = a0.tmps.size
  defers : a.defers = a0.defers
  rel : R w0 w
  st : J (fun k => listed.getD k false) (sl a) w
  old : ∀ s, (∀ o ∈ ops.toList, o.dst ≠ some s) → a.tmps.getD s undef = a0.tmps.getD s undef
  facts : ∀ (k : Nat) (o : Oper) (d : Tmp), ops[k]? = some o → o.dst = some d → listed.getD k false = true → F k (a.tmps.getD d undef) w

/-- one operation, when it comes up -/
def StepOK (R : World → World → Prop) (J : (Nat → Bool) → (Tmp → Value) → World → Prop) (P : Program) (ops : Array Oper) (Q : Exit → Act → World → Prop) (a0 : Act) (w0 : World) (F : Nat → Value → World → Prop) (i : Nat) (o : Oper) : Prop :=
  ∀ (L : Nat → Bool) (a : Act) (w : World), a.defers = a0.defers → a.tmps.size = a0.tmps.size → R w0 w → J L (sl a) w → L i = false → (∀ s, (∀ o ∈ ops.toList, o.dst ≠ some s) → a.tmps.getD s undef = a0.tmps.getD s undef) →
    (∀ e ∈ o.after, Region.binds .any e = true → L e.on = true) →
    (∀ e ∈ o.after, Region.binds .any e = true → ∀ (ok : Oper) (d : Tmp), ops[e.on]? = some ok → ok.dst = some d → F e.on (a.tmps.getD d undef) w) →
    if Region.wanted o (yielded ops a.tmps) = true then o.wp P a w (fun a' w' => ∃ v, a' = a.put o.dst v ∧ R w w' ∧ F i v w' ∧ J (upd L i) (sl (a.put o.dst v)) w') Q else F i undef w ∧ J (upd L i) (sl (a.put o.dst undef)) w

def AllSteps (R : World → World → Prop) (J : (Nat → Bool) → (Tmp → Value) → World → Prop) (P : Program) (ops : Array Oper) (Q : Exit → Act → World → Prop) (a0 : Act) (w0 : World) (F : Nat → Value → World → Prop) : Nat → List Oper → Prop
  | _, [] => True
  | i, o :: l => StepOK R J P ops Q a0 w0 F i o ∧ AllSteps R J P ops Q a0 w0 F (i + 1) l
theorem AllSteps.at_ {R : World → World → Prop} {J : (Nat → Bool) → (Tmp → Value) → World → Prop} {a0 : Act} {w0 : World} {F : Nat → Value → World → Prop} : ∀ {l : List Oper} {n : Nat}, AllSteps R J P ops Q a0 w0 F n l → ∀ (i : Nat) (o : Oper), l[i]? = some o → StepOK R J P ops Q a0 w0 F (n + i) o
  | [], _, _, i, o, h => by simp at h
  | x :: l, n, hs, i, o, h => by
    cases i with
    | zero =>
      simp only [List.getElem?_cons_zero, Option.some.injEq] at h
      subst h
      exact hs.1
    | succ i =>
      have := hs.2.at_ i o (by simpa using h)
      rw [show n + (i + 1) = n + 1 + i by omega]
      exact this

variable {R : World → World → Prop} {J : (Nat → Bool) → (Tmp → Value) → World → Prop} {a0 : Act} {w0 : World} {F : Nat → Value → World → Prop}

theorem Inv.step (hT : ∀ a b c, R a b → R b c → R a c) (hmono : ∀ k v w w', F k v w → R w w' → F k v w') (hnd : (ops.toList.filterMap (·.dst)).Nodup) (hin : ∀ o ∈ ops.toList, ∀ d, o.dst = some d → d < a0.tmps.size)
    {listed : Array Bool} {a : Act} {w w' : World} (h : Inv R J ops a0 w0 F listed a w) {i : Nat} {o : Oper} (ho : ops[i]? = some o) {v : Value} (hb : R w w') (hF : F i v w') (hJ : J (upd (fun k => listed.getD k false) i) (sl (a.put o.dst v)) w') :
    Inv R J ops a0 w0 F (listed.setIfInBounds i true) (a.put o.dst v) w' := by
  have hmem : o ∈ ops.toList := by
    rw [← Array.getElem?_toList] at ho
    exact List.mem_of_getElem? ho
  have hil : i < listed.size := by
    rw [h.size]
    exact (Array.getElem?_eq_some_iff.1 ho).1
  refine ⟨by simpa using h.size, ?_, ?_, hT _ _ _ h.rel hb, by rw [upd_set hil]; exact hJ, fun s hs => ?_, fun k ok d hk hd hl => ?_⟩
  · unfold Act.put
    split <;> simp [h.tmps]
  · unfold Act.put
    split <;> simp [h.defers]
  · unfold Act.put
    split
    · rename_i d hd
      simp only
      rw [regs.getD_set_ne _ _ _ _ (fun e => hs o hmem (by rw [hd, e]))]
      exact h.old s hs
    · exact h.old s hs
  · by_cases hik : i = k
    · subst hik
      obtain rfl : o = ok := Option.some.inj (ho.symm.trans hk)
      unfold Act.put
      rw [hd]
      simp only
      rw [regs.getD_set_same _ _ _ (by rw [h.tmps]; exact hin o hmem d hd)]
      exact hF
    · have hl' : listed.getD k false = true := by
        simpa [Array.getD_eq_getD_getElem?, Array.getElem?_setIfInBounds, hik] using hl
      have hf := hmono _ _ _ _ (h.facts k ok d hk hd hl') hb
      unfold Act.put
      split
      · rename_i d' hd'
        simp only
        rw [regs.getD_set_ne _ _ _ _ (fun e => hik (nodup_at hnd (by rw [Array.getElem?_toList]; exact ho) (by rw [Array.getElem?_toList]; exact hk) (by rw [hd', e]) hd))]
        exact hf
      · exact hf

theorem any_of_inv (hR : ∀ w, R w w) (hT : ∀ a b c, R a b → R b c → R a c) (hmono : ∀ k v w w', F k v w → R w w' → F k v w') (hnd : (ops.toList.filterMap (·.dst)).Nodup) (hin : ∀ o ∈ ops.toList, ∀ d, o.dst = some d → d < a0.tmps.size)
    (hback : ∀ (i : Nat) (o : Oper), ops[i]? = some o → ∀ e ∈ o.after, Region.binds .any e = true → e.on < i) (hs : ∀ (i : Nat) (o : Oper), ops[i]? = some o → StepOK R J P ops Q a0 w0 F i o)
    (hend : ∀ L a w, (∀ i, i < ops.size → L i = true) → J L (sl a) w → a.defers = a0.defers → a.tmps.size = a0.tmps.size → R w0 w → (∀ s, (∀ o ∈ ops.toList, o.dst ≠ some s) → a.tmps.getD s undef = a0.tmps.getD s undef) →
      (∀ (k : Nat) (o : Oper) (d : Tmp), ops[k]? = some o → o.dst = some d → F k (a.tmps.getD d undef) w) → Q .normal a w) :
    ∀ (fuel : Nat) (listed : Array Bool) (a : Act) (w : World), listed.toList.count false ≤ fuel → Inv R J ops a0 w0 F listed a w → wpAny P .any ops Q fuel listed a w := by
  have stop : ∀ (listed : Array Bool) (a : Act) (w : World), Inv R J ops a0 w0 F listed a w → Region.ready .any ops listed = [] → Q .normal a w := fun listed a w h hr =>
    hend _ a w (ready_of_least h.size hback hr) h.st h.defers h.tmps h.rel h.old fun k o d hk hd => h.facts k o d hk hd (ready_of_least h.size hback hr k (by
      rcases Nat.lt_or_ge k ops.size with hlt | hge
      · exact hlt
      · rw [Array.getElem?_eq_none hge] at hk; cases hk))
  intro fuel
  induction fuel with
  | zero =>
    intro listed a w hc h
    have hr : Region.ready .any ops listed = [] := by
      unfold Region.ready
      rw [List.filter_eq_nil_iff]
      intro i hi
      have hi' : i < listed.size := by rw [h.size]; simpa using hi
      have hno : false ∉ listed.toList := List.count_eq_zero.1 (by omega)
      have : listed.getD i true = true := by
        simp only [Array.getD_eq_getD_getElem?, Array.getElem?_eq_getElem hi', Option.getD_some]
        cases hb : listed[i] with
        | true => rfl
        | false => exact absurd (by rw [← hb]; exact Array.getElem_mem_toList hi') hno
      rw [this]
      simp
    exact ⟨hr, stop listed a w h hr⟩
  | succ fuel ih =>
    intro listed a w hc h
    refine ⟨stop listed a w h, fun i hi => ?_⟩
    unfold Region.ready at hi
    rw [List.mem_filter] at hi
    obtain ⟨hi1, hi2⟩ := hi
    have hi' : i < ops.size := by simpa using hi1
    have hil : i < listed.size := by rw [h.size]; exact hi'
    have ho : ops[i]? = some ops[i] := by simp [hi']
    rw [ho] at hi2
    simp only [Option.map_some, Option.getD_some, Bool.and_eq_true, Bool.not_eq_true', Array.all_eq_true_iff_forall_mem, Bool.or_eq_true] at hi2
    obtain ⟨hun, hdeps⟩ := hi2
    have hst := hs i _ ho (fun k => listed.getD k false) a w h.defers h.tmps h.rel h.st (by
      simp only [Array.getD_eq_getD_getElem?, Array.getElem?_eq_getElem hil, Option.getD_some] at hun ⊢
      exact hun) h.old (fun e he hb => by
      rcases hdeps e he with hx | hx
      · rw [hb] at hx; cases hx
      · exact hx) (fun e he hb ok d hok hd => h.facts e.on ok d hok hd (by
      rcases hdeps e he with hx | hx
      · rw [hb] at hx; cases hx
      · exact hx))
    have hcnt : (listed.setIfInBounds i true).toList.count false ≤ fuel := by
      have hf : listed.toList[i]'(by simpa using hil) = false := by
        simp only [Array.getD_eq_getD_getElem?, Array.getElem?_eq_getElem hil, Option.getD_some] at hun
        simpa using hun
      rw [Array.toList_setIfInBounds, List.count_set (by simpa using hil), hf]
      show List.count false listed.toList - 1 + 0 ≤ fuel
      omega
    unfold wpOp
    rw [ho]
    simp only
    split
    · rename_i hw
      rw [if_pos hw] at hst
      refine .inl (Oper.wp_mono (fun a' w' hh => ?_) hst)
      obtain ⟨v, rfl, hb, hF, hJ⟩ := hh
      exact ih _ _ _ hcnt (h.step hT hmono hnd hin ho hb hF hJ)
    · rename_i hw
      rw [if_neg hw] at hst
      exact ih _ _ _ hcnt (h.step hT hmono hnd hin ho (hR _) hst.1 hst.2)

/-- THE REGION: in whichever order its operations come up -/
theorem wp_region_facts {l : List Oper} {id : Nat} (hm : P.follows .mixedOrders = true) (hR : ∀ w, R w w) (hT : ∀ a b c, R a b → R b c → R a c) (F : Nat → Value → World → Prop) (hmono : ∀ k v w w', F k v w → R w w' → F k v w') (hchk : chk l a0.tmps.size = true)
    (hD : R w0 w0.drew) (h0 : J (fun _ => false) (sl a0) w0.drew) (hs : AllSteps R J P l.toArray Q a0 w0 F 0 l)
    (hend : ∀ L a w, (∀ i, i < l.length → L i = true) → J L (sl a) w → a.defers = a0.defers → a.tmps.size = a0.tmps.size → R w0 w → (∀ s, (∀ o ∈ l, o.dst ≠ some s) → a.tmps.getD s undef = a0.tmps.getD s undef) →
      (∀ (k : Nat) (o : Oper) (d : Tmp), l[k]? = some o → o.dst = some d → F k (a.tmps.getD d undef) w) → Q .normal a w) :
    (Code.region id l.toArray true).wp P Q a0 w0 := by
  unfold chk at hchk
  simp only [Bool.and_eq_true, decide_eq_true_eq] at hchk
  obtain ⟨⟨h1, h2⟩, h3⟩ := hchk
  have hback : ∀ (i : Nat) (o : Oper), l.toArray[i]? = some o → ∀ e ∈ o.after, Region.binds .any e = true → e.on < i := by
    intro i o ho e he hb
    rw [List.all_eq_true] at h1
    have := h1 (o, i) (List.mem_zipIdx_iff_getElem?.2 (by simpa using ho))
    rw [Array.all_eq_true_iff_forall_mem] at this
    have h5 := this e he
    rw [hb] at h5
    simpa using h5
  have hin : ∀ o ∈ l, ∀ d, o.dst = some d → d < a0.tmps.size := by
    intro o ho d hd
    rw [List.all_eq_true] at h3
    have := h3 o ho
    rw [hd] at this
    simpa using this
  refine wp_region_any hm (any_of_inv (R := R) (J := J) (F := F) (a0 := a0) (w0 := w0) hR hT hmono h2 hin hback (fun i o ho => ?_) (fun L a w hL hJ h4 h5 h6 h7 h8 => hend L a w (by simpa using hL) hJ h4 h5 h6 h7 fun k o d hk hd => h8 k o d (by simpa using hk) hd) _ _ _ _ ?_ ?_)
  · have := hs.at_ i o (by simpa using ho)
    rw [Nat.zero_add] at this
    exact this
  · simp
  · have hL : (fun k => (Array.replicate l.toArray.size false).getD k false) = fun _ => false := by
      funext k
      simp [Array.getD_eq_getD_getElem?, Array.getElem?_replicate]
      split <;> rfl
    refine ⟨by simp, rfl, rfl, hD, by rw [hL]; exact h0, fun _ _ => rfl, fun k o d hk hd hl => ?_⟩
    exfalso
    simp [Array.getD_eq_getD_getElem?, Array.getElem?_replicate] at hl
    split at hl <;> simp at hl

/-- what is at hand when an operation comes up: old slots, the facts of those that it waits for -/
structure Hand (R : World → World → Prop) (J : (Nat → Bool) → (Tmp → Value) → World → Prop) (l : List Oper) (a0 : Act) (w0 : World) (F : Nat → Value → World → Prop) (i : Nat) (o : Oper) (L : Nat → Bool) (a : Act) (w : World) : Prop where
  defers : a.defers = a0.defers
  size : a.tmps.size = a0.tmps.size
  rel : R w0 w
  st : J L (sl a) w
  un : L i = false
  old : ∀ s, kept l s = true → a.tmps.getD s undef = a0.tmps.getD s undef
  up : ∀ k, waits o k = true → L k = true
  dep : ∀ k d, waits o k = true → slotOf l k = some d → F k (a.tmps.getD d undef) w
theorem StepOK.of {l : List Oper} {i : Nat} {o : Oper}
    (h : ∀ L a w, Hand R J l a0 w0 F i o L a w → if Region.wanted o (yielded l.toArray a.tmps) = true then o.wp P a w (fun a' w' => ∃ v, a' = a.put o.dst v ∧ R w w' ∧ F i v w' ∧ J (upd L i) (sl (a.put o.dst v)) w') Q else F i undef w ∧ J (upd L i) (sl (a.put o.dst undef)) w) :
    StepOK R J P l.toArray Q a0 w0 F i o := fun L a w h1 hz h2 h3 h3u h4 h5 h6 => h L a w ⟨h1, hz, h2, h3, h3u, fun s hs => h4 s (by simpa using kept_spec hs), fun k hw => by
  unfold waits at hw
  rw [Array.any_eq_true'] at hw
  obtain ⟨e, he, hb⟩ := hw
  simp only [Bool.and_eq_true, beq_iff_eq] at hb
  obtain ⟨hk, hb⟩ := hb
  subst hk
  exact h5 e he hb, fun k d hw hd => by
  unfold waits at hw
  rw [Array.any_eq_true'] at hw
  obtain ⟨e, he, hb⟩ := hw
  simp only [Bool.and_eq_true, beq_iff_eq] at hb
  obtain ⟨hk, hb⟩ := hb
  unfold slotOf at hd
  obtain ⟨ok, ho, hd'⟩ := Option.bind_eq_some_iff.1 hd
  subst hk
  exact h6 e he hb ok d (by simpa using ho) hd'⟩
/-- an operation without a guard -/
theorem StepOK.plain {l : List Oper} {i : Nat} {o : Oper} (hg : o.guard = none) (h : ∀ L a w, Hand R J l a0 w0 F i o L a w → o.wp P a w (fun a' w' => ∃ v, a' = a.put o.dst v ∧ R w w' ∧ F i v w' ∧ J (upd L i) (sl (a.put o.dst v)) w') Q) :
    StepOK R J P l.toArray Q a0 w0 F i o := StepOK.of fun L a w hh => by
  rw [if_pos (by simp [Region.wanted, hg])]
  exact h L a w hh
/-- an operation whose guard says yes -/
theorem StepOK.yes {l : List Oper} {i : Nat} {o : Oper} (j : Nat) (b : Bool) (d : Tmp) (hg : o.guard = some (j, b)) (hd : slotOf l j = some d) (hb : ∀ L a w, Hand R J l a0 w0 F i o L a w → a.tmps.getD d undef = .bool b)
    (h : ∀ L a w, Hand R J l a0 w0 F i o L a w → o.wp P a w (fun a' w' => ∃ v, a' = a.put o.dst v ∧ R w w' ∧ F i v w' ∧ J (upd L i) (sl (a.put o.dst v)) w') Q) : StepOK R J P l.toArray Q a0 w0 F i o := StepOK.of fun L a w hh => by
  unfold slotOf at hd
  obtain ⟨oj, hj, hd⟩ := Option.bind_eq_some_iff.1 hd
  have := yielded_of (ops := l.toArray) (by simpa using hj) hd (hb L a w hh)
  rw [if_pos (by simp [Region.wanted, hg, this])]
  exact h L a w hh
/-- an operation whose guard says no -/
theorem StepOK.no {l : List Oper} {i : Nat} {o : Oper} (j : Nat) (b : Bool) (d : Tmp) (hg : o.guard = some (j, b)) (hd : slotOf l j = some d) (hb : ∀ L a w, Hand R J l a0 w0 F i o L a w → a.tmps.getD d undef = .bool (!b))
    (h : ∀ L a w, Hand R J l a0 w0 F i o L a w → F i undef w ∧ J (upd L i) (sl (a.put o.dst undef)) w) : StepOK R J P l.toArray Q a0 w0 F i o := StepOK.of fun L a w hh => by
  unfold slotOf at hd
  obtain ⟨oj, hj, hd⟩ := Option.bind_eq_some_iff.1 hd
  have := yielded_of (ops := l.toArray) (by simpa using hj) hd (hb L a w hh)
  rw [if_neg (by simp [Region.wanted, hg, this])]
  exact h L a w hh
/-- an operation whose guard was not taken itself -/
theorem StepOK.out_ {l : List Oper} {i : Nat} {o : Oper} (j : Nat) (b : Bool) (d : Tmp) (hg : o.guard = some (j, b)) (hd : slotOf l j = some d) (hb : ∀ L a w, Hand R J l a0 w0 F i o L a w → a.tmps.getD d undef = undef)
    (h : ∀ L a w, Hand R J l a0 w0 F i o L a w → F i undef w ∧ J (upd L i) (sl (a.put o.dst undef)) w) : StepOK R J P l.toArray Q a0 w0 F i o := StepOK.of fun L a w hh => by
  unfold slotOf at hd
  obtain ⟨oj, hj, hd⟩ := Option.bind_eq_some_iff.1 hd
  have := yielded_undef (ops := l.toArray) (b := b) (by simpa using hj) hd (hb L a w hh)
  rw [if_neg (by simp only [Region.wanted, hg]; simpa using this)]
  exact h L a w hh
/-- a region of a list -/
theorem wp_region_hand {l : List Oper} {id : Nat} (R : World → World → Prop) (J : (Nat → Bool) → (Tmp → Value) → World → Prop) (hm : P.follows .mixedOrders = true) (hR : ∀ w, R w w) (hT : ∀ a b c, R a b → R b c → R a c) (F : Nat → Value → World → Prop) (hmono : ∀ k v w w', F k v w → R w w' → F k v w') (hchk : chk l a0.tmps.size = true)
    (hD : R w0 w0.drew) (h0 : J (fun _ => false) (sl a0) w0.drew) (hs : AllSteps R J P l.toArray Q a0 w0 F 0 l)
    (hend : ∀ L a w, (∀ i, i < l.length → L i = true) → J L (sl a) w → a.defers = a0.defers → a.tmps.size = a0.tmps.size → R w0 w → (∀ s, kept l s = true → a.tmps.getD s undef = a0.tmps.getD s undef) →
      (∀ k d, slotOf l k = some d → F k (a.tmps.getD d undef) w) → Q .normal a w) :
    (Code.region id l.toArray true).wp P Q a0 w0 :=
  wp_region_facts hm hR hT F hmono hchk hD h0 hs fun L a w hL hJ h1 h2 h3 h4 h5 => hend L a w hL hJ h1 h2 h3 (fun s hs => h4 s (kept_spec hs)) fun k d hd => by
    unfold slotOf at hd
    obtain ⟨ok, ho, hd⟩ := Option.bind_eq_some_iff.1 hd
    exact h5 k ok d ho hd

/-- a region of a list; what is behind it goes on with the slots laid -/
theorem wp_region_put {l : List Oper} {id : Nat} (R : World → World → Prop) (J : (Nat → Bool) → (Tmp → Value) → World → Prop) (ds : List Tmp) (hm : P.follows .mixedOrders = true) (hds : l.filterMap (·.dst) = ds) (hR : ∀ w, R w w) (hT : ∀ a b c, R a b → R b c → R a c) (F : Nat → Value → World → Prop) (hmono : ∀ k v w w', F k v w → R w w' → F k v w') (hchk : chk l a0.tmps.size = true)
    (hD : R w0 w0.drew) (h0 : J (fun _ => false) (sl a0) w0.drew) (hs : AllSteps R J P l.toArray Q a0 w0 F 0 l)
    (hend : ∀ (L : Nat → Bool) (w : World) (val : Tmp → Value), (∀ i, i < l.length → L i = true) → J L val w → R w0 w → (∀ k d, slotOf l k = some d → F k (val d) w) → Q .normal (putAll a0 (ds.map fun d => (d, val d))) w) :
    (Code.region id l.toArray true).wp P Q a0 w0 := by
  refine wp_region_hand R J hm hR hT F hmono hchk hD h0 hs fun L a w hL hJ h1 h2 h3 h4 h5 => ?_
  have e := putAll_eq h2 h1 h4
  rw [hds] at e
  have := hend L w (fun d => a.tmps.getD d undef) hL hJ h3 h5
  rw [← e] at this
  exact this
end
end Go.Proofs.Ytgadheamldianaa.regv

namespace Go.Proofs.Ytgadheamldianaa
open Go.RowKit

def JBs : List (Nat × List Value) → World → Prop
  | [], _ => True
  | p :: l, w => Blk w p.1 p.2 ∧ JBs l w
theorem JBs.below : ∀ {l : List (Nat × List Value)} {w w' : World}, JBs l w → Below w.heap.size w w' → JBs l w'
  | [], _, _, _, _ => trivial
  | _ :: _, _, _, h, hb => ⟨h.1.below' hb, JBs.below h.2 hb⟩
theorem JBs.alloc {l : List (Nat × List Value)} {w : World} (h : JBs l w) (o : Obj) : JBs l (w.alloc o) := h.below ((Below.refl _ _).alloc (Nat.le_refl _) o)
theorem JBs.under : ∀ {l : List (Nat × List Value)} {w w' : World} {B : Nat}, JBs l w → (∀ p ∈ l, p.1 < B) → Below B w w' → JBs l w'
  | [], _, _, _, _, _, _ => trivial
  | x :: _, _, _, _, h, hl, hb => ⟨h.1.below hb (hl x List.mem_cons_self), JBs.under h.2 (fun y hy => hl y (List.mem_cons_of_mem _ hy)) hb⟩
theorem JBs.lt : ∀ {l : List (Nat × List Value)} {w : World}, JBs l w → ∀ p ∈ l, p.1 < w.heap.size
  | x :: l, _, h, p, hp => by
    rcases List.mem_cons.1 hp with rfl | hp
    · exact h.1.inside
    · exact JBs.lt h.2 p hp
theorem bel_step {B : Nat} {w w1 w2 : World} (h : Below B w w1) (hB : B ≤ w.heap.size) (hb : Below w1.heap.size w1 w2) : Below B w w2 := h.trans (hb.mono (Nat.le_trans hB h.size))
/-- a pointer to a block of the region's own that holds cs -/
def isNew (B : Nat) (cs : List Value) (v : Value) (w : World) : Prop := ∃ g, v = .pointer (some ⟨g, 0, none⟩) ∧ B ≤ g ∧ Blk w g cs
theorem isNew.below {B : Nat} {cs : List Value} {v : Value} {w w' : World} (h : isNew B cs v w) (hb : Below w.heap.size w w') : isNew B cs v w' := by
  obtain ⟨g, h1, h2, h3⟩ := h
  exact ⟨g, h1, h2, h3.below' hb⟩
def JN (B : Nat) (old : List (Nat × List Value)) (zs cs : List Value) (iA iS : Bool) (v : Value) (w : World) : Prop :=
  (JBs old w ∧ B ≤ w.heap.size ∧ ∀ p ∈ old, p.1 < B) ∧ (iA = true → isNew B (bif iS then cs else zs) v w) ∧ (iS = true → iA = true)
def JS (B : Nat) (old : List (Nat × List Value)) (g : Nat) (zs cs : List Value) (iS : Bool) (w : World) : Prop :=
  (JBs old w ∧ B ≤ w.heap.size ∧ ∀ p ∈ old, p.1 ≠ g) ∧ B ≤ g ∧ Blk w g (bif iS then cs else zs)
/-- all cells of a block written, one behind the other -/
def putBlk (g : Nat) : World → Nat → List Value → World
  | w, _, [] => w
  | w, i, v :: l => putBlk g (w.setCell ⟨g, i, none⟩ v) (i + 1) l
theorem putBlk_other {g k : Nat} (hg : k ≠ g) : ∀ (l : List Value) (i : Nat) {w : World} {cs : List Value}, Blk w k cs → Blk (putBlk g w i l) k cs
  | [], _, _, _, h => h
  | _ :: l, i, _, _, h => putBlk_other hg l (i + 1) (h.other hg i _)
theorem JBs.putBlk {g : Nat} (cs : List Value) : ∀ {l : List (Nat × List Value)} {w : World}, JBs l w → (∀ p ∈ l, p.1 ≠ g) → JBs l (putBlk g w 0 cs)
  | [], _, _, _ => trivial
  | x :: _, _, h, hl => ⟨putBlk_other (hl x List.mem_cons_self) cs 0 h.1, JBs.putBlk cs h.2 fun y hy => hl y (List.mem_cons_of_mem _ hy)⟩
theorem putBlk_below {g B : Nat} (hg : B ≤ g) : ∀ (l : List Value) (i : Nat) {w W : World}, Below B w W → Below B w (putBlk g W i l)
  | [], _, _, _, h => h
  | _ :: l, i, _, _, h => putBlk_below hg l (i + 1) (below_set h hg)
theorem putBlk_same {g : Nat} : ∀ (l done rest : List Value) {w : World}, rest.length = l.length → Blk w g (done ++ rest) → Blk (putBlk g w done.length l) g (done ++ l)
  | [], done, rest, _, hl, h => by
    have : rest = [] := List.eq_nil_of_length_eq_zero (by simpa using hl)
    subst this
    exact h
  | v :: l, done, [], _, hl, h => by simp at hl
  | v :: l, done, z :: rest, w, hl, h => by
    have h2 := h.set done.length v
    rw [List.set_append, if_neg (by simp), Nat.sub_self, List.set_cons_zero] at h2
    have e : done ++ v :: rest = (done ++ [v]) ++ rest := by simp
    rw [e] at h2
    have h3 := putBlk_same l (done ++ [v]) rest (by simpa using hl) h2
    simpa [putBlk] using h3
theorem putBlk_all {g : Nat} {w : World} {zs l : List Value} (hl : zs.length = l.length) (h : Blk w g zs) : Blk (putBlk g w 0 l) g l := putBlk_same l [] zs hl h
section
variable {B : Nat} {old : List (Nat × List Value)} {zs cs : List Value} {iA iS : Bool} {v : Value} {w w' : World}
theorem JN.below (h : JN B old zs cs iA iS v w) (hb : Below w.heap.size w w') : JN B old zs cs iA iS v w' :=
  ⟨⟨h.1.1.below hb, Nat.le_trans h.1.2.1 hb.size, h.1.2.2⟩, fun e => (h.2.1 e).below hb, h.2.2⟩
theorem JN.slots {u : Value} (h : JN B old zs cs iA iS v w) (e : u = v) : JN B old zs cs iA iS u w := e ▸ h
theorem JN.new {u : Value} {T : TypeId} (h : JN B old zs cs iA iS v w) (eA : iA = false) (eu : u = .pointer (some ⟨w.heap.size, 0, none⟩)) : JN B old zs cs true iS u (w.alloc (.cells zs.toArray T)) := by
  have hb : Below w.heap.size w (w.alloc (.cells zs.toArray T)) := (Below.refl _ _).alloc (Nat.le_refl _) _
  have h' := h.below hb
  have eS : iS = false := by
    cases hi : iS with
    | false => rfl
    | true => have := h.2.2 hi; rw [eA] at this; cases this
  subst eA eS eu
  exact ⟨h'.1, fun _ => ⟨_, rfl, h.1.2.1, blk_new w zs T⟩, fun _ => rfl⟩
theorem JN.put {g : Nat} (h : JN B old zs cs iA iS v w) (hl : zs.length = cs.length) (eA : iA = true) (eS : iS = false) (ev : v = .pointer (some ⟨g, 0, none⟩)) : JN B old zs cs iA true v (putBlk g w 0 cs) ∧ Below B w (putBlk g w 0 cs) := by
  subst eA eS ev
  obtain ⟨g', e, hg, hB⟩ := h.2.1 rfl
  simp only [Value.pointer.injEq, Option.some.injEq, Addr.mk.injEq, and_true] at e
  subst e
  have hb : Below B w (putBlk g w 0 cs) := putBlk_below hg cs 0 (Below.refl _ _)
  exact ⟨⟨⟨h.1.1.under h.1.2.2 hb, Nat.le_trans h.1.2.1 hb.size, h.1.2.2⟩, fun _ => ⟨g, rfl, hg, putBlk_all hl hB⟩, fun _ => rfl⟩, hb⟩
theorem JN.start (h : JBs old w) : JN w.heap.size old zs cs false false v w := ⟨⟨h, Nat.le_refl _, h.lt⟩, fun e => (nomatch e), fun e => (nomatch e)⟩
theorem JS.below {g : Nat} (h : JS B old g zs cs iS w) (hb : Below w.heap.size w w') : JS B old g zs cs iS w' :=
  ⟨⟨h.1.1.below hb, Nat.le_trans h.1.2.1 hb.size, h.1.2.2⟩, h.2.1, h.2.2.below' hb⟩
theorem JS.put {g : Nat} (h : JS B old g zs cs iS w) (hl : zs.length = cs.length) (eS : iS = false) : JS B old g zs cs true (putBlk g w 0 cs) ∧ Below B w (putBlk g w 0 cs) := by
  subst eS
  have hb : Below B w (putBlk g w 0 cs) := putBlk_below h.2.1 cs 0 (Below.refl _ _)
  exact ⟨⟨⟨h.1.1.putBlk cs h.1.2.2, Nat.le_trans h.1.2.1 hb.size, h.1.2.2⟩, h.2.1, putBlk_all hl h.2.2⟩, hb⟩
theorem JS.start {g : Nat} (h : JBs old w) (hB : B ≤ g) (hg : Blk w g zs) (hne : ∀ p ∈ old, p.1 ≠ g) : JS B old g zs cs false w := ⟨⟨h, Nat.le_trans hB (Nat.le_of_lt hg.inside), hne⟩, hB, hg⟩
end
end Go.Proofs.Ytgadheamldianaa

namespace Go.Proofs.Ytgadheamldianaa
open Go.RowKit

theorem setCells_put (g : Nat) : ∀ (l : List Value) (o : Nat) (w : World), w.setCells g o l = putBlk g w o l
  | [], _, _ => rfl
  | v :: l, o, w => setCells_put g l (o + 1) (w.setCell ⟨g, o, none⟩ v)
/-- one block was written, and nothing else -/
def Wrote (g : Nat) (w w' : World) : Prop := ∃ o l, w' = putBlk g w o l
theorem putBlk_far {g b : Nat} (hb : b ≠ g) : ∀ (l : List Value) (i : Nat) (w : World), (putBlk g w i l).heap[b]? = w.heap[b]?
  | [], _, _ => rfl
  | _ :: l, i, _ => (putBlk_far hb l (i + 1) _).trans (Below.heap_setCell _ _ _ _ hb)
theorem putBlk_size (g : Nat) : ∀ (l : List Value) (i : Nat) (w : World), (putBlk g w i l).heap.size = w.heap.size
  | [], _, _ => rfl
  | _ :: l, i, _ => (putBlk_size g l (i + 1) _).trans (by simp [World.setCell])
section
variable {w w' W : World} {g b B : Nat} {cs : List Value}
theorem Wrote.far (h : Wrote g w w') (hb : b ≠ g) : w'.heap[b]? = w.heap[b]? := by
  obtain ⟨o, l, rfl⟩ := h
  exact putBlk_far hb l o w
theorem Wrote.size (h : Wrote g w w') : w'.heap.size = w.heap.size := by
  obtain ⟨o, l, rfl⟩ := h
  exact putBlk_size g l o w
theorem Wrote.blk (h : Wrote g w w') (hb : b ≠ g) (hB : Blk w b cs) : Blk w' b cs := hB.stays (h.far hb)
theorem Wrote.below (h : Wrote g w w') (hb : Below B W w) (hg : B ≤ g) : Below B W w' := by
  obtain ⟨o, l, rfl⟩ := h
  exact putBlk_below hg l o hb
end
theorem set_mid (v : Value) : ∀ (cs : List Value) (o : Nat), o < cs.length → cs.set o v = cs.take o ++ v :: cs.drop (o + 1)
  | [], o, h => by simp at h
  | c :: cs, 0, _ => rfl
  | c :: cs, o + 1, h => by
    show c :: cs.set o v = c :: (cs.take o ++ v :: cs.drop (o + 1))
    rw [set_mid v cs o (by simpa using h)]
theorem putBlk_mid {g : Nat} : ∀ (l : List Value) (o : Nat) {w : World} {cs : List Value}, o + l.length ≤ cs.length → Blk w g cs → Blk (putBlk g w o l) g (cs.take o ++ l ++ cs.drop (o + l.length))
  | [], o, w, cs, _, h => by
    have e : cs.take o ++ [] ++ cs.drop (o + ([] : List Value).length) = cs := by simp
    rw [e]
    exact h
  | v :: l, o, w, cs, hl, h => by
    rw [List.length_cons] at hl
    have h2 := putBlk_mid l (o + 1) (by rw [List.length_set]; omega) (h.set o v)
    have e : (cs.set o v).take (o + 1) ++ l ++ (cs.set o v).drop (o + 1 + l.length) = cs.take o ++ (v :: l) ++ cs.drop (o + (v :: l).length) := by
      have e2 : cs.drop (o + (v :: l).length) = (cs.drop (o + 1)).drop l.length := by rw [List.drop_drop, List.length_cons, show o + 1 + l.length = o + (l.length + 1) by omega]
      have hto : (cs.take o).length = o := by rw [List.length_take]; omega
      rw [set_mid v cs o (by omega), e2]
      generalize cs.take o = x at *
      generalize cs.drop (o + 1) = y at *
      clear e2 h2 h hl
      subst hto
      have t1 : (x ++ v :: y).take (x.length + 1) = x ++ [v] := by rw [List.take_append, List.take_of_length_le (by omega), show x.length + 1 - x.length = 1 by omega]; rfl
      have t2 : (x ++ v :: y).drop (x.length + 1 + l.length) = y.drop l.length := by rw [List.drop_append, List.drop_of_length_le (by omega), show x.length + 1 + l.length - x.length = l.length + 1 by omega]; rfl
      rw [t1, t2]
      simp
    rw [e] at h2
    exact h2
theorem Blk.range {w : World} {g : Nat} {cs : List Value} (h : Blk w g cs) (o n : Nat) : w.rangeAt g o ((cs.drop o).take n) := fun j v hj => by
  have h1 : ((cs.drop o).take n)[j]? = cs[o + j]? := by
    have := (List.getElem?_eq_some_iff.1 hj).1
    rw [List.length_take, List.length_drop] at this
    rw [List.getElem?_take, if_pos (by omega), List.getElem?_drop]
  rw [h.cell, ← h1, hj]
theorem Blk.there {w : World} {g : Nat} {cs : List Value} (h : Blk w g cs) {o n : Nat} (hl : o + n ≤ cs.length) : w.there g o n := fun j hj => ⟨by rw [h.cell, List.getElem?_eq_getElem (by omega)]; rfl, h.free _⟩
section
variable {P : Program} {ops : Array Oper} {rest : List Oper} {o : Oper} {a : Act} {Q : Exit → Act → World → Prop} {w : World}
/-- a struct (n cells from offset f of a block known whole) is loaded -/
theorem wpl_take (ty : TypeId) (x : Operand) (ho : o.op = .load ty x) (hgd : Region.wanted o (yielded ops a.tmps) = true) (g f : Nat) (hx : a.eval x = .pointer (some ⟨g, f, none⟩)) (cs : List Value) (hB : Blk w g cs) (ls : List Value) (hls : (cs.drop f).take ls.length = ls)
    (d : TypeDesc) (hu : P.underlying ty = some d) (hd : d.isRow = true) (hi : (P.info? ty).map (·.size) = some ls.length) (h : wpList P ops Q rest (a.put o.dst (.agg ls.toArray)) w) : wpList P ops Q (o :: rest) a w := by
  unfold wpList
  rw [if_pos hgd]
  refine .inl ?_
  have hr : w.rangeAt g f ls := by rw [← hls]; exact hB.range f ls.length
  unfold Oper.wp execOp
  simp only [ho, hx, Instr.loadAt, Instr.sureAddr, Sem.run_bind, Sem.run_pure, Result.andThen_ok, run_loadVar_mid w g f ty ls d hr hu hd hi]
  exact h
/-- a struct is stored from offset f on -/
theorem wpl_stow (ty : TypeId) (x y : Operand) (ho : o.op = .store ty x y) (hgd : Region.wanted o (yielded ops a.tmps) = true) (hd : o.dst = none) (g f : Nat) (hx : a.eval x = .pointer (some ⟨g, f, none⟩)) (ls : List Value) (hy : a.eval y = .agg ls.toArray)
    (cs : List Value) (hB : Blk w g cs) (cs' : List Value) (hc : cs.take f ++ ls ++ cs.drop (f + ls.length) = cs') (hl : f + ls.length ≤ cs.length) (hi : (P.info? ty).map (·.size) = some ls.length) (h1 : ls.all (·.oneCell') = true)
    (h : ∀ w', Hid (Wrote g w w') → Hid (Blk w' g cs') → wpList P ops Q rest a w') : wpList P ops Q (o :: rest) a w := by
  unfold wpList
  rw [if_pos hgd]
  refine .inl ?_
  have h2 := h (w.setCells g f ls) ⟨f, ls, setCells_put g ls f w⟩ (by rw [← hc, setCells_put]; exact putBlk_mid ls f hl hB)
  unfold Oper.wp execOp
  simp only [ho, hx, hy, Instr.storeAt, Instr.sureAddr, Sem.run_bind, Sem.run_pure, Result.andThen_ok, run_storeVar_mid w g f ty ls.toArray (by simpa using hB.there hl) (by simpa using hi) (by simpa using h1)]
  have e : a.put o.dst undef = a := by rw [hd]; rfl
  show wpList P ops Q rest (a.put o.dst undef) (w.setCells g f ls)
  rw [e]
  exact h2
end
end Go.Proofs.Ytgadheamldianaa

namespace Go.Proofs.Ytgadheamldianaa
open Go.RowKit

/-- blocks known, and one more, just made and written -/
theorem JBs.wrote {g : Nat} : ∀ {l : List (Nat × List Value)} {w w' : World}, JBs l w → Wrote g w w' → (∀ p ∈ l, p.1 ≠ g) → JBs l w'
  | [], _, _, _, _, _ => trivial
  | x :: _, _, _, h, hW, hl => ⟨hW.blk (hl x List.mem_cons_self) h.1, JBs.wrote h.2 hW fun y hy => hl y (List.mem_cons_of_mem _ hy)⟩
theorem JBs.made {l : List (Nat × List Value)} {w w' : World} {o : Obj} {cs : List Value} (h : JBs l w) (hW : Wrote w.heap.size (w.alloc o) w') (hB : Blk w' w.heap.size cs) : JBs ((w.heap.size, cs) :: l) w' :=
  ⟨hB, (h.alloc o).wrote hW fun p hp => Nat.ne_of_lt (h.lt p hp)⟩
theorem Wrote.made {w W w' : World} {o : Obj} (hW : Wrote W.heap.size (W.alloc o) w') (hB : Below w.heap.size w W) : Below w.heap.size w w' := hW.below (hB.alloc hB.size o) hB.size
/-- a load of a great struct, where one operation stands alone (a drawn region's step) -/
theorem wp_take {P : Program} {op : Oper} {a : Act} {w : World} {K : Act → World → Prop} {Q : Exit → Act → World → Prop} (ty : TypeId) (x : Operand) (ho : op.op = .load ty x) (g f : Nat) (hx : a.eval x = .pointer (some ⟨g, f, none⟩)) (cs : List Value) (hB : Blk w g cs) (ls : List Value) (hls : (cs.drop f).take ls.length = ls)
    (d : TypeDesc) (hu : P.underlying ty = some d) (hd : d.isRow = true) (hi : (P.info? ty).map (·.size) = some ls.length) (h : K (a.put op.dst (.agg ls.toArray)) w) : op.wp P a w K Q :=
  wp_load_mid ty x ho g f hx ls d (by rw [← hls]; exact hB.range f ls.length) hu hd hi h
theorem wp_stow {P : Program} {op : Oper} {a : Act} {w : World} {K : Act → World → Prop} {Q : Exit → Act → World → Prop} (ty : TypeId) (x y : Operand) (ho : op.op = .store ty x y) (g f : Nat) (hx : a.eval x = .pointer (some ⟨g, f, none⟩)) (ls : List Value) (hy : a.eval y = .agg ls.toArray)
    (cs : List Value) (hB : Blk w g cs) (hl : f + ls.length ≤ cs.length) (hi : (P.info? ty).map (·.size) = some ls.length) (h1 : ls.all (·.oneCell') = true)
    (h : ∀ w', Wrote g w w' → Blk w' g (cs.take f ++ ls ++ cs.drop (f + ls.length)) → K (a.put op.dst undef) w') : op.wp P a w K Q := by
  have h2 := h (w.setCells g f ls) ⟨f, ls, setCells_put g ls f w⟩ (by rw [setCells_put]; exact putBlk_mid ls f hl hB)
  unfold Oper.wp execOp
  simp only [ho, hx, hy, Instr.storeAt, Instr.sureAddr, Sem.run_bind, Sem.run_pure, Result.andThen_ok, run_storeVar_mid w g f ty ls.toArray (by simpa using hB.there hl) (by simpa using hi) (by simpa using h1)]
  exact h2
/-- old blocks that stay, and one that is written by several operations, in whichever order -/
structure JF (B : Nat) (olds : List (Nat × List Value)) (g : Nat) (cs : List Value) (w : World) : Prop where
  old : JBs olds w
  bsz : B ≤ w.heap.size
  ne : ∀ p ∈ olds, p.1 ≠ g
  ge : B ≤ g
  blk : Blk w g cs
theorem JF.below {B g : Nat} {olds : List (Nat × List Value)} {cs : List Value} {w w' : World} (h : JF B olds g cs w) (hb : Below w.heap.size w w') : JF B olds g cs w' :=
  ⟨h.old.below hb, Nat.le_trans h.bsz hb.size, h.ne, h.ge, h.blk.below' hb⟩
theorem JF.wrote {B g : Nat} {olds : List (Nat × List Value)} {cs cs' : List Value} {w w' : World} (h : JF B olds g cs w) (hW : Wrote g w w') (hB : Blk w' g cs') : JF B olds g cs' w' ∧ Below B w w' :=
  ⟨⟨h.old.wrote hW h.ne, by rw [hW.size]; exact h.bsz, h.ne, h.ge, hB⟩, hW.below (Below.refl _ _) h.ge⟩
theorem JF.put {B g i : Nat} {olds : List (Nat × List Value)} {cs cs' : List Value} {v : Value} {w : World} (h : JF B olds g cs w) (e : cs.set i v = cs') : JF B olds g cs' (w.setCell ⟨g, i, none⟩ v) ∧ Below B w (w.setCell ⟨g, i, none⟩ v) :=
  h.wrote ⟨i, [v], rfl⟩ (by rw [← e]; exact h.blk.set i v)
/-- the region's own variable, a great struct, is written -/
theorem JN.stow {B g : Nat} {old : List (Nat × List Value)} {zs cs cs' : List Value} {iA iS : Bool} {v : Value} {w w' : World} (h : JN B old zs cs iA iS v w) (eA : iA = true) (eS : iS = false) (ev : v = .pointer (some ⟨g, 0, none⟩)) (hW : Wrote g w w') (hB : Blk w' g cs') (e : cs' = cs) : JN B old zs cs iA true v w' ∧ Below B w w' := by
  subst eA eS ev e
  obtain ⟨g', e, hg, -⟩ := h.2.1 rfl
  simp only [Value.pointer.injEq, Option.some.injEq, Addr.mk.injEq, and_true] at e
  subst e
  exact ⟨⟨⟨h.1.1.wrote hW fun p hp => Nat.ne_of_lt (Nat.lt_of_lt_of_le (h.1.2.2 p hp) hg), by rw [hW.size]; exact h.1.2.1, h.1.2.2⟩, fun _ => ⟨g, rfl, hg, hB⟩, fun _ => rfl⟩, hW.below (Below.refl _ _) hg⟩
end Go.Proofs.Ytgadheamldianaa
