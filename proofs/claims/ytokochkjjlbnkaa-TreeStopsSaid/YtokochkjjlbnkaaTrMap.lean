/-
  A map from ids to nodes, as a rising list: id, the node's block. Laws of its look-up, store, drop, length, in that list's words.
-/
import Derived.Test.YtokochkjjlbnkaaProg
import Derived.Test.YtokochkjjlbnkaaOmap
import Derived.Test.YtokochkjjlbnkaaRow
import Derived.Maps.OwnSet
import Derived.Maps.Ext
import Derived.WalkKit
namespace Go.Proofs.Ytokochkjjlbnkaa
open Go.RowKit Go.Maps omap Go.WideShapes

abbrev lt : Int → Int → Bool := fun a b => decide (a < b)
theorem ord : omap.Ord lt where
  irr a := by simp
  tr a b c h1 h2 := by
    simp only [decide_eq_true_eq] at *
    omega
  tot a b h1 h2 := by
    simp only [decide_eq_false_iff_not] at *
    omega

/-- how an element reads: a node's block -/
def ptrElem : Value → Option (DataW Unit × List MemPlace)
  | .pointer (some ⟨g, 0, none⟩) => some (.lit (.int .i64 (g : Int)), [])
  | .pointer none => some (.nil, [])
  | _ => none
theorem ptrElem_some (g : Nat) : ptrElem (.pointer (some ⟨g, 0, none⟩)) = some (.lit (.int .i64 (g : Int)), []) := rfl
theorem ptrElem_inv {v : Value} {g : Nat} {ps : List MemPlace} (h : ptrElem v = some (.lit (.int .i64 (g : Int)), ps)) : v = .pointer (some ⟨g, 0, none⟩) := by
  unfold ptrElem at h
  split at h
  · simp only [Option.some.injEq, Prod.mk.injEq, DataW.lit.injEq, Lit.int.injEq, true_and] at h
    have := h.1
    congr
    omega
  · simp at h
  · cases h
theorem ptrElem_nil {v : Value} {ps : List MemPlace} (h : ptrElem v = some (.nil, ps)) : v = .pointer none := by
  unfold ptrElem at h
  split at h
  · simp at h
  · rfl
  · cases h

abbrev L := List (Int × Nat)
def enc1 (x : Int × Nat) : Lit × DataW Unit := (.int .i64 x.1, .lit (.int .i64 (x.2 : Int)))
def mapOf (l : L) : DataW Unit := .map (l.map enc1)
theorem size_mapOf (l : L) : Maps.size (mapOf l) = l.length := by simp [mapOf, Maps.size]
theorem sameKey_enc (x : Int × Nat) (k : Int) : (enc1 x).1.sameKey (.int .i64 k) = decide (x.1 = k) := by
  simp only [enc1, Lit.sameKey]
  exact Bool.eq_iff_iff.2 (by simp)
theorem filter_mapOf (l : L) (k : Int) : (l.map enc1).filter (fun p => !p.1.sameKey (.int .i64 k)) = (del k l).map enc1 := by
  unfold del
  rw [List.filter_map]
  congr 1
  refine List.filter_congr fun x _ => ?_
  simp [sameKey_enc]
theorem insert_mapOf (k : Int) (g : Nat) : ∀ l : L, DataW.insert (enc1 (k, g)) (l.map enc1) = (ins lt k g l).map enc1
  | [] => rfl
  | y :: l => by
    unfold ins
    rw [List.map_cons, DataW.insert]
    have : (enc1 (k, g)).1.before (enc1 y).1 = lt k y.1 := rfl
    rw [this]
    split
    · rfl
    · rw [insert_mapOf k g l, List.map_cons]
theorem del_mapOf (l : L) (k : Int) : (mapOf l).del (.int .i64 k) = mapOf (del k l) := by
  unfold mapOf DataW.del
  simp only [filter_mapOf]
theorem put_mapOf (l : L) (k : Int) (g : Nat) : (mapOf l).put (.int .i64 k) (.lit (.int .i64 (g : Int))) = mapOf (put lt k g l) := by
  unfold mapOf DataW.put
  simp only [filter_mapOf]
  rw [show ((Lit.int .i64 k, DataW.lit (Lit.int IntKind.i64 (g : Int))) : Lit × DataW Unit) = enc1 (k, g) from rfl, insert_mapOf]
  rfl
theorem atKey_mapOf (l : L) (k : Int) : (mapOf l).atKey (.int .i64 k) .nil = match omap.look l k with | some g => .lit (.int .i64 (g : Int)) | none => .nil := by
  induction l with
  | nil => rfl
  | cons x l ih =>
    unfold mapOf DataW.atKey at ih ⊢
    rw [look_cons]
    simp only [List.map_cons, List.find?_cons, sameKey_enc] at ih ⊢
    by_cases h : x.1 = k
    · simp [h, enc1]
    · simp only [h, decide_false, if_false]
      exact ih

/-- block m is a map that holds just these -/
structure MapAt (w : World) (m : Nat) (l : L) : Prop where
  rises : Rises lt l
  own : w.ownsMap Try.prog 3 ptrElem m l.length (mapOf l)
  few : l.length ≤ 1073741824
theorem keyedI : Keyed Try.prog 3 := int_keyed Try.underlying3
theorem zeroPtr (w : World) : (zeroValue 81).run Try.prog w = .ok (.pointer none) w := by kernel_rfl
def ptrTo : Option Nat → Value
  | some g => .pointer (some ⟨g, 0, none⟩)
  | none => .pointer none
section
variable {w w' : World} {m : Nat} {l : L}
theorem MapAt.inside (h : MapAt w m l) : m < w.heap.size := h.own.lt
theorem MapAt.stays (h : MapAt w m l) (hb : w'.heap[m]? = w.heap[m]?) : MapAt w' m l := by
  obtain ⟨es, clock, h1, h2⟩ := h.own
  exact ⟨h.rises, ⟨es, clock, hb.trans h1, h2⟩, h.few⟩
theorem key_of {i : Int} (hi : I64 i) : keyOf Try.prog 3 (.int .i64 i) = some (.int .i64 i) := Go.Maps.keyOf_int_mk Try.underlying3 (by
  obtain ⟨h1, h2⟩ := hi
  simp only [Lit.wf]
  rw [Bool.and_eq_true, decide_eq_true_eq, decide_eq_true_eq]
  exact ⟨h1, h2⟩)
theorem MapAt.lookup (h : MapAt w m l) {i : Int} (hs : I64 i) :
    (Instr.lookup 85 (.map (some m)) (.int .i64 i) false).run Try.prog w = .ok (ptrTo (omap.look l i)) w := by
  obtain ⟨v, ps, hrun, hv⟩ := h.own.lookup keyedI Try.underlying85 (zeroPtr w) (zd := .nil) (zp := []) rfl (key_of hs)
  rw [hrun]
  rw [atKey_mapOf] at hv
  cases hl : omap.look l i with
  | none => rw [hl] at hv; rw [ptrElem_nil hv]; rfl
  | some g => rw [hl] at hv; rw [ptrElem_inv hv]; rfl
theorem MapAt.len (h : MapAt w m l) (ty : TypeId) : (Builtin.len_ #[85] ty #[.map (some m)]).run Try.prog w = .ok (.int .i64 (l.length : Nat)) w := by
  rw [h.own.len Try.underlying85 ty, size_mapOf]
theorem again {w : World} {m n : Nat} {l : L} (h : w.ownsMap Try.prog 3 ptrElem m n (mapOf l)) : w.ownsMap Try.prog 3 ptrElem m l.length (mapOf l) := by
  obtain ⟨es, clock, h1, h2, _, h4⟩ := h
  refine ⟨es, clock, h1, h2, ?_, h4⟩
  have e : Maps.size (mapOf l) = es.size := by rw [h4]; simp [Maps.size, length_sorted]
  rw [size_mapOf] at e
  omega
theorem MapAt.store (h : MapAt w m l) {i : Int} (hs : I64 i) (g : Nat) (hn : (put lt i g l).length ≤ 1073741824) :
    ∃ w', (Instr.mapUpdate 85 (.map (some m)) (.int .i64 i) (.pointer (some ⟨g, 0, none⟩))).run Try.prog w = .ok () w' ∧ MapAt w' m (put lt i g l) ∧ w.grownBy w' (some m) := by
  obtain ⟨w', hrun, ho, hg⟩ := h.own.update keyedI Try.underlying85 (by have := h.few; unfold maxLen; omega) (key_of hs) (ptrElem_some g)
  rw [put_mapOf] at ho
  exact ⟨w', hrun, ⟨rises_put ord h.rises, again ho, hn⟩, hg⟩
theorem MapAt.drop (h : MapAt w m l) {i : Int} (hs : I64 i) (ty : TypeId) :
    ∃ w', (Builtin.delete_ #[85, 3] ty #[.map (some m), .int .i64 i]).run Try.prog w = .ok (.tuple #[]) w' ∧ MapAt w' m (del i l) ∧ w.grownBy w' (some m) := by
  obtain ⟨w', hrun, ho, hg⟩ := h.own.drop keyedI Try.underlying85 (key_of hs) ty
  rw [del_mapOf] at ho
  exact ⟨w', hrun, ⟨rises_del h.rises, again ho, Nat.le_trans (List.length_filter_le _ _) h.few⟩, hg.grown⟩
end
theorem mapAt_made (w : World) : MapAt (w.alloc (.map #[] 0)) w.heap.size [] :=
  ⟨List.Pairwise.nil, World.ownsMap_made _ _ _ _, by simp⟩
end Go.Proofs.Ytokochkjjlbnkaa
