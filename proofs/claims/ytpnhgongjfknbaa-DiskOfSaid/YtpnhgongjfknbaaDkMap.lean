/-
  A map from names to files, as a rising list: name, the file's block. Laws of its look-up, store, drop, length, in that list's words.
-/
import Derived.Test.YtpnhgongjfknbaaProg
import Derived.Test.YtpnhgongjfknbaaOmap
import Derived.Maps.OwnSet
import Derived.Maps.Ext
import Derived.Sort.KeysCollected
import Derived.StringKeys
import Derived.WalkKit
namespace Go.Proofs.Ytpnhgongjfknbaa
open Go.RowKit Go.Maps omap Go.WideShapes

abbrev Nm := List UInt8
abbrev lt : Nm → Nm → Bool := bytesBefore
theorem ord : omap.Ord lt where
  irr := WideAt.bytes_irrefl
  tr := WideShapes.bytes_trans
  tot a b h1 h2 := by
    by_cases h : a = b
    · exact h
    · rcases WideAt.bytes_total a b h with h | h
      · exact absurd (h.symm.trans h1) (by simp)
      · exact absurd (h.symm.trans h2) (by simp)
theorem lt_iff : ∀ a b : Nm, lt a b = true ↔ a < b
  | [], [] => by simp [bytesBefore]
  | [], _ :: _ => by simp [bytesBefore]
  | _ :: _, [] => by simp [bytesBefore]
  | x :: a, y :: b => by
    simp only [bytesBefore, Bool.or_eq_true, decide_eq_true_eq, Bool.and_eq_true, beq_iff_eq, List.cons_lt_cons_iff]
    rw [← lt_iff a b]

/-- how an element reads: a file's block -/
def ptrElem : Value → Option (DataW Unit × List MemPlace)
  | .pointer (some ⟨g, 0, none⟩) => some (.lit (.int .i64 (g : Int)), [])
  | .pointer none => some (.nil, [])
  | _ => none
theorem ptrElem_some (g : Nat) : ptrElem (.pointer (some ⟨g, 0, none⟩)) = some (.lit (.int .i64 (g : Int)), []) := rfl
theorem ptrElem_inv {v : Value} {g : Nat} {ps : List MemPlace} (h : ptrElem v = some (.lit (.int .i64 (g : Int)), ps)) : v = .pointer (some ⟨g, 0, none⟩) := by
  unfold ptrElem at h
  split at h
  · simp only [Option.some.injEq, Prod.mk.injEq, DataW.lit.injEq, Lit.int.injEq, true_and] at h
    have := h.1
    congr
    omega
  · simp at h
  · cases h
theorem ptrElem_nil {v : Value} {ps : List MemPlace} (h : ptrElem v = some (.nil, ps)) : v = .pointer none := by
  unfold ptrElem at h
  split at h
  · simp at h
  · rfl
  · cases h

abbrev L := List (Nm × Nat)
def enc1 (x : Nm × Nat) : Lit × DataW Unit := (.string x.1, .lit (.int .i64 (x.2 : Int)))
def mapOf (l : L) : DataW Unit := .map (l.map enc1)
theorem size_mapOf (l : L) : Maps.size (mapOf l) = l.length := by simp [mapOf, Maps.size]
theorem strKeys_mapOf (l : L) : strKeys (mapOf l) = l.map (·.1) := by
  simp only [strKeys, mapOf, List.map_map]
  rfl
theorem sameKey_enc (x : Nm × Nat) (k : Nm) : (enc1 x).1.sameKey (.string k) = decide (x.1 = k) := by
  simp only [enc1, Lit.sameKey]
  exact Bool.eq_iff_iff.2 (by simp)
theorem filter_mapOf (l : L) (k : Nm) : (l.map enc1).filter (fun p => !p.1.sameKey (.string k)) = (del k l).map enc1 := by
  unfold del
  rw [List.filter_map]
  congr 1
  refine List.filter_congr fun x _ => ?_
  simp [sameKey_enc]
theorem insert_mapOf (k : Nm) (g : Nat) : ∀ l : L, DataW.insert (enc1 (k, g)) (l.map enc1) = (ins lt k g l).map enc1
  | [] => rfl
  | y :: l => by
    unfold ins
    rw [List.map_cons, DataW.insert]
    have : (enc1 (k, g)).1.before (enc1 y).1 = lt k y.1 := rfl
    rw [this]
    split
    · rfl
    · rw [insert_mapOf k g l, List.map_cons]
theorem del_mapOf (l : L) (k : Nm) : (mapOf l).del (.string k) = mapOf (del k l) := by
  unfold mapOf DataW.del
  simp only [filter_mapOf]
theorem put_mapOf (l : L) (k : Nm) (g : Nat) : (mapOf l).put (.string k) (.lit (.int .i64 (g : Int))) = mapOf (put lt k g l) := by
  unfold mapOf DataW.put
  simp only [filter_mapOf]
  rw [show ((Lit.string k, DataW.lit (Lit.int IntKind.i64 (g : Int))) : Lit × DataW Unit) = enc1 (k, g) from rfl, insert_mapOf]
  rfl
theorem atKey_mapOf (l : L) (k : Nm) : (mapOf l).atKey (.string k) .nil = match omap.look l k with | some g => .lit (.int .i64 (g : Int)) | none => .nil := by
  induction l with
  | nil => rfl
  | cons x l ih =>
    unfold mapOf DataW.atKey at ih ⊢
    rw [look_cons]
    simp only [List.map_cons, List.find?_cons, sameKey_enc] at ih ⊢
    by_cases h : x.1 = k
    · simp [h, enc1]
    · simp only [h, decide_false, if_false]
      exact ih

/-- block m is a map that holds just these -/
structure MapAt (w : World) (m : Nat) (l : L) : Prop where
  rises : Rises lt l
  own : w.ownsMap Try.prog 9 ptrElem m l.length (mapOf l)
  few : l.length ≤ 1073741824
theorem keyedS : Keyed Try.prog 9 := string_keyed Try.underlying9
theorem zeroPtr (w : World) : (zeroValue 83).run Try.prog w = .ok (.pointer none) w := by kernel_rfl
def ptrTo : Option Nat → Value
  | some g => .pointer (some ⟨g, 0, none⟩)
  | none => .pointer none
section
variable {w w' : World} {m : Nat} {l : L}
theorem MapAt.inside (h : MapAt w m l) : m < w.heap.size := h.own.lt
theorem MapAt.stays (h : MapAt w m l) (hb : w'.heap[m]? = w.heap[m]?) : MapAt w' m l := by
  obtain ⟨es, clock, h1, h2⟩ := h.own
  exact ⟨h.rises, ⟨es, clock, hb.trans h1, h2⟩, h.few⟩
theorem key_of {s : ByteArray} (hs : s.size ≤ maxLen) : keyOf Try.prog 9 (.string s) = some (.string s.data.toList) := Go.WideMaps.keyOf_string_mk Try.underlying9 hs
theorem MapAt.lookup (h : MapAt w m l) {s : ByteArray} (hs : s.size ≤ maxLen) :
    (Instr.lookup 58 (.map (some m)) (.string s) false).run Try.prog w = .ok (ptrTo (omap.look l s.data.toList)) w := by
  obtain ⟨v, ps, hrun, hv⟩ := h.own.lookup keyedS Try.underlying58 (zeroPtr w) (zd := .nil) (zp := []) rfl (key_of hs)
  rw [hrun]
  rw [atKey_mapOf] at hv
  cases hl : omap.look l s.data.toList with
  | none => rw [hl] at hv; rw [ptrElem_nil hv]; rfl
  | some g => rw [hl] at hv; rw [ptrElem_inv hv]; rfl
theorem MapAt.len (h : MapAt w m l) (ty : TypeId) : (Builtin.len_ #[58] ty #[.map (some m)]).run Try.prog w = .ok (.int .i64 (l.length : Nat)) w := by
  rw [h.own.len Try.underlying58 ty, size_mapOf]
theorem again {w : World} {m n : Nat} {l : L} (h : w.ownsMap Try.prog 9 ptrElem m n (mapOf l)) : w.ownsMap Try.prog 9 ptrElem m l.length (mapOf l) := by
  obtain ⟨es, clock, h1, h2, _, h4⟩ := h
  refine ⟨es, clock, h1, h2, ?_, h4⟩
  have e : Maps.size (mapOf l) = es.size := by rw [h4]; simp [Maps.size, length_sorted]
  rw [size_mapOf] at e
  omega
theorem MapAt.store (h : MapAt w m l) {s : ByteArray} (hs : s.size ≤ maxLen) (g : Nat) (hn : (put lt s.data.toList g l).length ≤ 1073741824) :
    ∃ w', (Instr.mapUpdate 58 (.map (some m)) (.string s) (.pointer (some ⟨g, 0, none⟩))).run Try.prog w = .ok () w' ∧ MapAt w' m (put lt s.data.toList g l) ∧ w.grownBy w' (some m) := by
  obtain ⟨w', hrun, ho, hg⟩ := h.own.update keyedS Try.underlying58 (by have := h.few; unfold maxLen; omega) (key_of hs) (ptrElem_some g)
  rw [put_mapOf] at ho
  exact ⟨w', hrun, ⟨rises_put ord h.rises, again ho, hn⟩, hg⟩
theorem MapAt.drop (h : MapAt w m l) {s : ByteArray} (hs : s.size ≤ maxLen) (ty : TypeId) :
    ∃ w', (Builtin.delete_ #[58, 9] ty #[.map (some m), .string s]).run Try.prog w = .ok (.tuple #[]) w' ∧ MapAt w' m (del s.data.toList l) ∧ w.grownBy w' (some m) := by
  obtain ⟨w', hrun, ho, hg⟩ := h.own.drop keyedS Try.underlying58 (key_of hs) ty
  rw [del_mapOf] at ho
  exact ⟨w', hrun, ⟨rises_del h.rises, again ho, Nat.le_trans (List.length_filter_le _ _) h.few⟩, hg.grown⟩
end
theorem mapAt_made (w : World) : MapAt (w.alloc (.map #[] 0)) w.heap.size [] :=
  ⟨List.Pairwise.nil, World.ownsMap_made _ _ _ _, by simp⟩
/-- the names, sorted, are those that rise -/
theorem sorted_keys {l : L} (h : Rises lt l) {ss : List Nm} (hp : ss.Perm (strKeys (mapOf l))) : ss.mergeSort (fun x y => decide (x ≤ y)) = l.map (·.1) := by
  rw [strKeys_mapOf] at hp
  rw [show ss.mergeSort (fun x y => decide (x ≤ y)) = (l.map (·.1)).mergeSort leB from mergeSort_of_perm hp]
  refine List.mergeSort_of_pairwise ?_
  rw [List.pairwise_map]
  refine h.imp fun {a b} hab => ?_
  simp only [leB, decide_eq_true_eq]
  exact List.le_of_lt ((lt_iff _ _).1 hab)
end Go.Proofs.Ytpnhgongjfknbaa
