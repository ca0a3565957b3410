/-
  Words for the laws: arguments in later worlds, rows of parts, texts.
-/
import Derived.Test.YtboelbmpcbeifaaDoorScF
import Derived.Laws.BytesArg
namespace Go.Proofs.YtboelbmpcbeifaaDoor.crcs
open Go.RowKit crcm

theorem Bs.below {w w' : World} {A : Option Addr} {l : List Nat} (h : Bs w A l) (hb : Below w.heap.size w w') : Bs w' A l := fun hn => by
  obtain ⟨b, off, e, hc⟩ := h hn
  exact ⟨b, off, e, fun j hj => (hb.cell (World.block_lt_of_cell? w _ (hc j hj))).trans (hc j hj)⟩
theorem Part.ok.below {w w' : World} {p : Part} (h : p.ok w) (hb : Below w.heap.size w w') : p.ok w' := ⟨h.room, h.max, h.at_.below hb, h.bytes⟩
theorem Part.ok.alloc {w : World} {p : Part} (h : p.ok w) (o : Obj) : p.ok (w.alloc o) := h.below ((Below.refl _ _).alloc (Nat.le_refl _) o)

/-- a row of parts laid, and its sum -/
theorem sum_built (w : World) (ps : List Part) (cs : Array Value) (hcs : cs = (ps.map Part.v).toArray) (n c : Nat) (hn : n = ps.length) (hm : n ≤ maxLen) (hok : ∀ p ∈ ps, p.ok w) (ht : TabAt w) (f : Nat × Nat) :
    Calls Tryd.prog 37 #[.slice (some ⟨w.heap.size, 0, none⟩) n c] (w.alloc (.cells cs 69 f)) fun e w' => e = .returned (.int .u32 (sum (bytesOf ps) : Nat)) ∧ Below w.heap.size w w' := by
  subst hn
  have hB : Below w.heap.size w (w.alloc (.cells cs 69 f)) := (Below.refl _ _).alloc (Nat.le_refl _) _
  refine (sum_any (some ⟨w.heap.size, 0, none⟩) ps c _ hm (fun _ => ⟨_, 0, rfl, fun j hj => ?_⟩) (fun p hp => (hok p hp).alloc _) (ht.below hB)).mono ?_
  · rw [Nat.zero_add, cell_new, hcs]
    simp [hj, Part.v]
  · rintro e w' ⟨rfl, hd⟩
    exact ⟨rfl, below_drew hB hd⟩

/-- a text of bytes -/
def strOf (l : List Nat) : ByteArray := strOfNums (l.map fun (z : Nat) => (z : Int))
theorem natsOf_strOf {l : List Nat} (h : AreBytes l) : natsOf (strOf l) = l := by
  unfold natsOf strOf
  rw [strOfNums_data, List.map_map, List.map_map]
  conv => rhs; rw [← List.map_id l]
  refine List.map_congr_left fun z hz => ?_
  have := h z hz
  simp
  omega
theorem strOf_size (l : List Nat) : (strOf l).size = l.length := by rw [strOf, strOfNums_size, List.length_map]
theorem natsOf_append (s t : ByteArray) : natsOf (s ++ t) = natsOf s ++ natsOf t := by simp [natsOf]
theorem conv_str (w : World) (A : Option Addr) (l : List Nat) (c : Nat) (hb : Bs w A l) : (convert 69 9 (.slice A l.length c)).run Tryd.prog w = .ok (.string (strOf l)) w := by
  rcases Nat.eq_zero_or_pos l.length with h0 | h0
  · have hl : l = [] := List.eq_nil_of_length_eq_zero h0
    subst hl
    cases A with
    | none => exact run_convert_bytes_nil (P := Tryd.prog) w 69 5 Tryd.underlying69 Tryd.underlying5 0 c 9 Tryd.underlying9
    | some a =>
      rw [run_convert_bytes_string w 69 9 5 _ _ c Tryd.underlying69 Tryd.underlying5 Tryd.underlying9]
      exact run_bytesToString w a 0 c [] (by simp [loadCells, loadCellsFrom])
  · obtain ⟨b, off, rfl, hc⟩ := hb h0
    refine run_convert_bytes_arg (P := Tryd.prog) w 69 5 Tryd.underlying69 Tryd.underlying5 b off l.length c (l.map fun (z : Nat) => (z : Int)) (by simp) (fun i hi => ?_) 9 Tryd.underlying9
    rw [hc i hi]
    simp [hi]

/-- a sum goes on by one byte -/
theorem sum_snoc (l m : List Nat) {k : Nat} (hk : k < m.length) : sts 8 ((sum (l ++ m.take k) ^^^ 4294967295) ^^^ m[k]) ^^^ 4294967295 = sum (l ++ m.take (k + 1)) := by
  unfold sum
  rw [Nat.xor_assoc (crc 4294967295 (l ++ m.take k)), Nat.xor_self, Nat.xor_zero, crc_append, crc_append, crc_snoc _ m hk]
theorem sum_nil (l m : List Nat) : sum (l ++ m.take 0) = sum l := by simp
theorem sum_all (l m : List Nat) : sum (l ++ m.take m.length) = sum (l ++ m) := by simp
end Go.Proofs.YtboelbmpcbeifaaDoor.crcs
