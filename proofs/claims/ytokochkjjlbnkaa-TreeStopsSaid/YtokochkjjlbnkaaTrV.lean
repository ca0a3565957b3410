/-
  Layer 12: slices.Insert of one kid into a row of kids: a new row.
-/
import Derived.Test.YtokochkjjlbnkaaTrU
namespace Go.Proofs.Ytokochkjjlbnkaa
open Go.RowKit trm

set_option maxRecDepth 100000 in
set_option maxHeartbeats 1000000 in
theorem ninsert_grow {w : World} {g i : Nat} {cur : Array Value} {l : List (Option Nat)} (h3 : w.heap[g]? = some (.cells cur tPtr (0, 0))) (h6 : cur.size = l.length) (h7 : cur.toList.take l.length = l.map ptrTo)
    (hi : i < l.length) (vb x c : Nat) (hx : BlkT w vb [.pointer (some ⟨x, 0, none⟩)] tPtr) (hn : l.length ≤ 100000) :
    Calls Try.prog 64 #[.slice (some ⟨g, 0, none⟩) l.length l.length, .int .i64 (i : Nat), .slice (some ⟨vb, 0, none⟩) 1 c] w (InsQ (.slice (some ⟨g, 0, none⟩) l.length l.length) i x l w) := by
  obtain ⟨i0, hi0, hz0, hsz, hby⟩ := info_parts info_ptr
  have hgw : g < w.heap.size := lt_of_block h3
  have hvw : vb < w.heap.size := hx.inside
  have hcur : ∀ k, k < l.length → cur[k]? = (l.map ptrTo)[k]? := fun k hk => by rw [← h7, List.getElem?_take_of_lt hk, Array.getElem?_toList]
  have hold : (Builtin.firstCells i0.size i (.slice (some ⟨g, 0, none⟩) i l.length)).run Try.prog w.drew = .ok ((l.take i).map ptrTo).toArray w.drew := by
    rw [hsz]
    exact run_firstCells_some w.drew 1 i ⟨g, 0, none⟩ i l.length ((l.take i).map ptrTo) (by rw [List.length_map, List.length_take]; omega) (fun j v hj => by
      have hjl := (List.getElem?_eq_some_iff.1 hj).1
      rw [List.length_map, List.length_take] at hjl
      rw [Addr.add_lit, Nat.zero_add]
      show w.cell? _ = _
      rw [cell_of_row _ _ _ _ _ _ h3, hcur j (by omega)]
      rw [List.map_take, List.getElem?_take_of_lt (by omega)] at hj
      exact hj)
  have hrz := fun ty => Lib.run_append_grow_zeros (P := Try.prog) w 82 3 ty 81 i0 _ .i64 .i64 Try.underlying82 Try.underlying3 hi0 hz0 (some ⟨g, 0, none⟩) i l.length ((l.take i).map ptrTo) hold (l.length + 1 - i) (by omega) (by omega) (by omega) (by omega) (by rw [hby]; omega) (by rw [hby]; exact growslice_fits (by omega) (by omega))
  have hik : i + (l.length + 1 - i) = l.length + 1 := by omega
  rw [hik] at hrz
  have hGn := grownCap_ge w (l.length + 1) l.length 81
  have hG63 := grownCap_le_maxLen w (l.length + 1) l.length 81 (by unfold maxLen; omega)
  generalize grownCap w (l.length + 1) l.length 81 = G at *
  obtain ⟨ROW, hROW⟩ : ∃ ROW : Array Value, ROW = ((l.take i).map ptrTo).toArray ++ Builtin.zeroCells (Value.pointer none).cells (l.length + 1 - i) ++ Builtin.zeroCells (Value.pointer none).cells (G - (l.length + 1)) := ⟨_, rfl⟩
  rw [← hROW] at hrz
  have hRl : ROW.size = G := by
    rw [hROW]
    simp [Builtin.zeroCells, Value.cells]
    omega
  have hRt : ∀ k, k < i → ROW[k]? = (l.map ptrTo)[k]? := fun k hk => by
    rw [hROW, Array.append_assoc, Array.getElem?_append_left (by simp; omega)]
    simp only [List.getElem?_toArray]
    rw [List.map_take, List.getElem?_take_of_lt hk]
  obtain ⟨W1, hW1⟩ : ∃ W1, W1 = w.drew.alloc (.cells ROW 81) := ⟨_, rfl⟩
  rw [← hW1] at hrz
  have b1 : W1.heap[w.heap.size]? = some (.cells ROW tPtr (0, 0)) := by rw [hW1]; exact heap_alloc_new w.drew _
  have T0 : Below w.heap.size w W1 := by rw [hW1]; exact ((Below.refl _ w).drew).alloc (Nat.le_refl _) _
  have hN1 : vb ≠ w.heap.size := by omega
  have hN2 : g ≠ w.heap.size := by omega
  have hcpA : ∀ ty dc, (Builtin.copy_ #[82, 82] ty #[.slice (some ⟨w.heap.size, i, none⟩) (l.length + 1 - i) dc, .slice (some ⟨vb, 0, none⟩) 1 c]).run Try.prog W1 = .ok (goInt 1) (W1.setCells w.heap.size i [.pointer (some ⟨x, 0, none⟩)]) := fun ty dc =>
    run_copy_cells W1 _ _ ty 81 w.heap.size i _ dc ⟨vb, 0, none⟩ 1 c [.pointer (some ⟨x, 0, none⟩)] Try.underlying82 info1 (by simp only [Nat.min_def, List.length_singleton]; split <;> omega)
      (fun j v hj => by
        rw [Addr.add_lit, Nat.zero_add, (BlkT.stays hx (T0.block vb hvw)).blk.cell]
        exact hj)
      (fun j hj => by
        have hj0 : j = 0 := by simpa using hj
        rw [cell_of_row _ _ _ _ _ _ b1, Array.getElem?_eq_getElem (by omega)]
        rfl) (fun j hj => frozen_of_row _ _ _ _ _ b1) (fun v hv => by
        obtain rfl := List.mem_singleton.1 hv
        rfl)
  obtain ⟨cur2, b2, s2, k2⟩ := setCells_blk (g := w.heap.size) [.pointer (some ⟨x, 0, none⟩)] i b1
  have T2 := setCells_turn (g := w.heap.size) [.pointer (some ⟨x, 0, none⟩)] i W1
  obtain ⟨W2, hW2⟩ : ∃ W2, W2 = W1.setCells w.heap.size i [.pointer (some ⟨x, 0, none⟩)] := ⟨_, rfl⟩
  rw [← hW2] at hcpA b2 T2
  have g2 : W2.heap[g]? = some (.cells cur tPtr (0, 0)) := ((T2.far g (by have := T0.size; omega) (fun e => hN2 (Option.some.inj e).symm)).2).trans ((T0.block g hgw).trans h3)
  have hdl : ((l.drop i).map ptrTo).length = l.length - i := by rw [List.length_map, List.length_drop]
  have hcpB : ∀ ty dc sc, (Builtin.copy_ #[82, 82] ty #[.slice (some ⟨w.heap.size, i + 1, none⟩) (l.length - i) dc, .slice (some ⟨g, i, none⟩) (l.length - i) sc]).run Try.prog W2.drew = .ok (goInt ((l.drop i).map ptrTo).length) (W2.drew.setCells w.heap.size (i + 1) ((l.drop i).map ptrTo)) := fun ty dc sc =>
    run_copy_cells W2.drew _ _ ty 81 w.heap.size (i + 1) _ dc ⟨g, i, none⟩ _ sc _ Try.underlying82 info1 (by rw [hdl]; simp only [Nat.min_def]; split <;> omega)
      (fun j v hj => by
        have hjl := (List.getElem?_eq_some_iff.1 hj).1
        rw [hdl] at hjl
        rw [Addr.add_lit]
        show W2.cell? _ = _
        rw [cell_of_row _ _ _ _ _ _ g2, hcur _ (by omega)]
        rw [List.map_drop, List.getElem?_drop] at hj
        exact hj)
      (fun j hj => by
        show (W2.cell? _).isSome = true
        rw [cell_of_row _ _ _ _ _ _ b2, Array.getElem?_eq_getElem (by omega)]
        rfl) (fun j hj => by
        show W2.frozen? _ = false
        exact frozen_of_row _ _ _ _ _ b2) (fun v hv => by
        obtain ⟨o, _, rfl⟩ := List.mem_map.1 hv
        exact oneP o)
  obtain ⟨cur3, b3, s3, k3⟩ := setCells_blk (g := w.heap.size) ((l.drop i).map ptrTo) (i + 1) (w := W2.drew) b2
  have T3 := setCells_turn (g := w.heap.size) ((l.drop i).map ptrTo) (i + 1) W2.drew
  obtain ⟨W3, hW3⟩ : ∃ W3, W3 = W2.drew.setCells w.heap.size (i + 1) ((l.drop i).map ptrTo) := ⟨_, rfl⟩
  rw [← hW3] at hcpB b3 T3
  have HQ : Hid (InsQ (.slice (some ⟨g, 0, none⟩) l.length l.length) i x l w (.returned (.slice (some ⟨w.heap.size, 0, none⟩) (l.length + 1) G)) W3) := by
    refine ⟨_, rfl, KOwn.of_cells b3 (insL_len _ (Nat.le_of_lt hi)) hGn hG63 (by omega) ?_, .inr ⟨_, rfl, Nat.le_refl _⟩, ?_⟩
    · apply List.ext_getElem?
      intro k
      by_cases hk : k < l.length + 1
      · have hr : ((insL i (some x) l).map ptrTo)[k]? = ((insL i (some x) l)[k]?).map ptrTo := List.getElem?_map ..
        rw [List.getElem?_take_of_lt hk, Array.getElem?_toList, hr, k3 k (by omega)]
        unfold insL
        by_cases h1 : k < i
        · rw [if_neg (by omega), k2 k (by omega), if_neg (by omega), hRt k h1, List.getElem?_map, List.getElem?_append_left (by rw [List.length_take]; omega), List.getElem?_take_of_lt h1]
        · by_cases h2 : k = i
          · subst h2
            rw [if_neg (by omega), k2 k (by omega), if_pos (by simp), Nat.sub_self, List.getElem?_append_right (by rw [List.length_take]; omega), List.length_take, Nat.min_eq_left (by omega), Nat.sub_self]
            rfl
          · rw [if_pos (by rw [hdl]; omega), List.getElem?_append_right (by rw [List.length_take]; omega), List.length_take, Nat.min_eq_left (by omega), show k - i = (k - (i + 1)) + 1 by omega, List.getElem?_cons_succ, List.getElem?_map]
      · rw [List.getElem?_take_eq_none (by omega), List.getElem?_eq_none (by rw [List.length_map, insL_len _ (Nat.le_of_lt hi)]; omega)]
    · have hb : Below w.heap.size w W3 := (T0.trans (T2.to_below T0.size (fun k (e : some w.heap.size = some k) => Nat.le_of_eq (Option.some.inj e)))).trans ((((Below.refl w.heap.size W2).drew)).trans (T3.to_below (by have := T0.size; have := T2.size; show _ ≤ W2.heap.size; omega) (fun k (e : some w.heap.size = some k) => Nat.le_of_eq (Option.some.inj e))))
      exact ⟨hb.os, hb.tape, hb.output, hb.size, fun k hk _ => ⟨fun (e : some w.heap.size = some k) => by have := Option.some.inj e; omega, hb.block k hk⟩⟩
  have hcb : G ≤ 9223372036854775807 := by unfold maxLen at hG63; omega
  have hz2 : ((i : Int) == (l.length : Int)) = false := by simp; omega
  have hz3 : decide ((l.length : Int) < (l.length : Int) + 1) = true := by simp; omega
  have hkk : (l.length : Int) + 1 - (i : Int) = ((l.length + 1 - i : Nat) : Int) := by omega
  have hb2 : ¬ (G = i + 1) := by omega
  have hb4 : ¬ (G = i) := by omega
  have hb5 : ¬ (l.length = i) := by omega
  have hin : i ≤ l.length := by omega
  have hin1 : (i : Int) ≤ (l.length : Int) + 1 := by omega
  rw [← hkk] at hrz
  clear h3 h6 h7 hx hdl hcur hold hi0 hz0 hsz hby hik hGn hG63 hROW hRl hRt b1 b2 b3 T0 T2 T3 k2 k3 s2 s3 g2 hN1 hN2 hkk hW1 hW2 hW3
  generalize ((l.drop i).map ptrTo).length = dl at *
  generalize hnn : l.length = n at *
  clear hnn
  go_enter Try.func64, Try.ntmps64
  go_wp2_with (at_builtin; first
    | refine wpl_append rfl _ _ 82 3 _ rfl rfl _ _ _ _ rfl rfl (hrz _) ?_
    | refine wpl_copy rfl _ _ 82 82 _ rfl rfl _ _ _ _ rfl rfl (hcpA _ _) ?_)
  have hwi : IntKind.i64.wrap ((i : Int) + 1) = (i : Int) + 1 := by rw [IntKind.wrap_i64]; omega
  have hti : ((i : Int) + 1).toNat = i + 1 := by omega
  have hb3 : (0 : Int) ≤ (i : Int) + 1 := by omega
  go_region_law (refine step_copy rfl _ _ 82 82 _ rfl rfl _ _ _ _ (by simp [Act.eval, Act.put]) (by simp [Act.eval, Act.put]) (hcpB _ _ _) ?_)
  go_wp2_with (fail)
  go_ret
  exact HQ.out
end Go.Proofs.Ytokochkjjlbnkaa
