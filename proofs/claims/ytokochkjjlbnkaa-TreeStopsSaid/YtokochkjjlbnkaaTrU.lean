/-
  Layer 12: slices.Insert of one kid into a row of kids: within it.
-/
import Derived.Test.YtokochkjjlbnkaaTrT
namespace Go.Proofs.Ytokochkjjlbnkaa
open Go.RowKit trm

theorem shape_of {w : World} {g : Nat} {cur : Array Value} {T : TypeId} {fr : Nat × Nat} (h : w.heap[g]? = some (.cells cur T fr)) : w.shape? g = some (T, cur.size) := by
  simp [World.shape?, h]
theorem info1 : (Try.prog.info? 81).map (·.size) = some 1 := by kernel_rfl
theorem overlaps_no {w : World} {vb g : Nat} {u : Value} {cur : Array Value} (hx : BlkT w vb [u] tPtr) (h3 : w.heap[g]? = some (.cells cur tPtr (0, 0))) (hne : vb ≠ g) (hc : cur.size ≠ 0) (o la ca lb cb : Nat) :
    (callFunc 76 #[.slice (some ⟨vb, 0, none⟩) la ca, .slice (some ⟨g, o, none⟩) lb cb]).run Try.prog w = .ok (.value (.bool false)) w := by
  rw [run_callFunc_extern Try.func76 (by kernel_rfl) (by kernel_rfl) (by kernel_rfl) (e := Extern.SlicesOverlaps.overlaps #[82, 82] #[4]) (by kernel_rfl),
    Lib.run_overlaps_apart w 82 4 81 Try.underlying82 1 Try.sizeOf81 ⟨vb, 0, none⟩ ⟨g, o, none⟩ la ca lb cb hne _ _ _ _ (shape_of hx) (shape_of h3) hc (frozen_of_row _ _ _ _ _ hx) (frozen_of_row _ _ _ _ _ hx)]
  rfl
set_option maxRecDepth 100000 in
set_option maxHeartbeats 1000000 in
theorem ninsert_shift {w : World} {g cap i : Nat} {cur : Array Value} {l : List (Option Nat)} (h3 : w.heap[g]? = some (.cells cur tPtr (0, 0))) (h5 : cap ≤ maxLen) (h6 : cur.size = cap) (h7 : cur.toList.take l.length = l.map ptrTo)
    (hi : i < l.length) (hroom : l.length + 1 ≤ cap) (vb x c : Nat) (hx : BlkT w vb [.pointer (some ⟨x, 0, none⟩)] tPtr) (hne : vb ≠ g) (hn : l.length ≤ 100000) :
    Calls Try.prog 64 #[.slice (some ⟨g, 0, none⟩) l.length cap, .int .i64 (i : Nat), .slice (some ⟨vb, 0, none⟩) 1 c] w (InsQ (.slice (some ⟨g, 0, none⟩) l.length cap) i x l w) := by
  have hov := fun w' (hw : ∀ k, w'.heap[k]? = w.heap[k]?) o lb cb => overlaps_no (w := w') (by unfold BlkT; rw [hw]; exact hx) (by rw [hw]; exact h3) hne (by omega) o 1 c lb cb
  have hov := hov w (fun _ => rfl)
  have hdl : ((l.drop i).map ptrTo).length = l.length - i := by rw [List.length_map, List.length_drop]
  have hcell : ∀ (w' : World), w'.heap[g]? = w.heap[g]? → ∀ k, k < cap → (w'.cell? ⟨g, k, none⟩).isSome = true ∧ w'.frozen? ⟨g, k, none⟩ = false := by
    intro w' hw k hk
    rw [cell_of_row _ _ _ _ _ _ (hw.trans h3), frozen_of_row _ _ _ _ _ (hw.trans h3), Array.getElem?_eq_getElem (by omega)]
    exact ⟨rfl, rfl⟩
  have hcur : ∀ k, k < l.length → cur[k]? = (l.map ptrTo)[k]? := fun k hk => by rw [← h7, List.getElem?_take_of_lt hk, Array.getElem?_toList]
  have hcp1 : ∀ (w' : World), w'.heap[g]? = w.heap[g]? → ∀ ty dc sc, (Builtin.copy_ #[82, 82] ty #[.slice (some ⟨g, i + 1, none⟩) (l.length - i) dc, .slice (some ⟨g, i, none⟩) (l.length + 1 - i) sc]).run Try.prog w' = .ok (goInt ((l.drop i).map ptrTo).length) (w'.setCells g (i + 1) ((l.drop i).map ptrTo)) := fun w' hw ty dc sc =>
    run_copy_cells w' _ _ ty 81 g (i + 1) _ dc ⟨g, i, none⟩ _ sc _ Try.underlying82 info1 (by rw [hdl]; simp only [Nat.min_def]; split <;> omega)
      (fun j v hj => by
        have hjl := (List.getElem?_eq_some_iff.1 hj).1
        rw [hdl] at hjl
        rw [Addr.add_lit, cell_of_row _ _ _ _ _ _ (hw.trans h3), hcur _ (by omega)]
        rw [List.map_drop, List.getElem?_drop] at hj
        exact hj)
      (fun j hj => (hcell w' hw _ (by omega)).1) (fun j hj => (hcell w' hw _ (by omega)).2) (fun v hv => by
        obtain ⟨o, _, rfl⟩ := List.mem_map.1 hv
        exact oneP o)
  obtain ⟨w1, hw1⟩ : ∃ w1, w1 = w.drew.setCells g (i + 1) ((l.drop i).map ptrTo) := ⟨_, rfl⟩
  obtain ⟨cur1, hb1, hs1, hk1⟩ := setCells_blk (g := g) ((l.drop i).map ptrTo) (i + 1) (w := w.drew) h3
  have hT1 := setCells_turn (g := g) ((l.drop i).map ptrTo) (i + 1) w.drew
  rw [← hw1] at hb1 hT1
  have hx1 : BlkT w1 vb [.pointer (some ⟨x, 0, none⟩)] tPtr := BlkT.stays (w := w) hx ((hT1.far vb hx.inside (fun e => hne (Option.some.inj e).symm)).2)
  have hcp2 : ∀ ty dc, (Builtin.copy_ #[82, 82] ty #[.slice (some ⟨g, i, none⟩) (l.length + 1 - i) dc, .slice (some ⟨vb, 0, none⟩) 1 c]).run Try.prog w1 = .ok (goInt 1) (w1.setCells g i [.pointer (some ⟨x, 0, none⟩)]) := fun ty dc =>
    run_copy_cells w1 _ _ ty 81 g i _ dc ⟨vb, 0, none⟩ 1 c [.pointer (some ⟨x, 0, none⟩)] Try.underlying82 info1 (by simp only [Nat.min_def, List.length_singleton]; split <;> omega)
      (fun j v hj => by
        rw [Addr.add_lit, Nat.zero_add, hx1.blk.cell]
        exact hj)
      (fun j hj => by
        have hj0 : j = 0 := by simpa using hj
        rw [cell_of_row _ _ _ _ _ _ hb1, Array.getElem?_eq_getElem (by rw [hs1]; omega)]
        rfl) (fun j hj => frozen_of_row _ _ _ _ _ hb1) (fun v hv => by
        obtain rfl := List.mem_singleton.1 hv
        rfl)
  have HQ : Hid (InsQ (.slice (some ⟨g, 0, none⟩) l.length cap) i x l w (.returned (.slice (some ⟨g, 0, none⟩) (l.length + 1) cap)) (w1.setCells g i [.pointer (some ⟨x, 0, none⟩)])) := by
    obtain ⟨cur2, hb2, hs2, hk2⟩ := setCells_blk (g := g) [.pointer (some ⟨x, 0, none⟩)] i hb1
    refine ⟨_, rfl, KOwn.of_cells hb2 (insL_len _ (Nat.le_of_lt hi)) hroom h5 (by omega) ?_, .inl rfl, ?_⟩
    · apply List.ext_getElem?
      intro k
      by_cases hk : k < l.length + 1
      · rw [List.getElem?_take_of_lt hk, Array.getElem?_toList, hk2 k (by omega), List.getElem?_map]
        unfold insL
        by_cases h1 : k < i
        · rw [if_neg (by omega), hk1 k (by omega), if_neg (by omega), hcur k (by omega), List.getElem?_map, List.getElem?_append_left (by rw [List.length_take]; omega), List.getElem?_take_of_lt h1]
        · by_cases h2 : k = i
          · subst h2
            rw [if_pos (by simp), Nat.sub_self, List.getElem?_append_right (by rw [List.length_take]; omega), List.length_take, Nat.min_eq_left (by omega), Nat.sub_self]
            rfl
          · rw [if_neg (by simp; omega), hk1 k (by omega), if_pos (by rw [hdl]; omega), List.getElem?_append_right (by rw [List.length_take]; omega), List.length_take, Nat.min_eq_left (by omega), show k - i = (k - (i + 1)) + 1 by omega, List.getElem?_cons_succ, List.getElem?_map]
      · rw [List.getElem?_take_eq_none (by omega), List.getElem?_eq_none (by rw [List.length_map, insL_len _ (Nat.le_of_lt hi)]; omega)]
    · exact (TurnP.below (S := OneB (some g)) ((Below.refl _ w).drew)).trans (hT1.trans (setCells_turn _ _ _))
  have hcp1 := hcp1 w.drew rfl
  rw [← hw1] at hcp1
  have hcb : cap ≤ 9223372036854775807 := by unfold maxLen at h5; omega
  have hz2 : ((i : Int) == (l.length : Int)) = false := by simp; omega
  have hz3 : decide ((cap : Int) < (l.length : Int) + 1) = false := by simp; omega
  have hb2 : ¬ (cap = i + 1) := by omega
  have hb4 : ¬ (cap = i) := by omega
  have hin : i ≤ l.length := by omega
  have hin1 : (i : Int) ≤ (l.length : Int) + 1 := by omega
  clear h3 h5 h6 h7 hx hne hdl hcell hcur hw1 hb1 hs1 hk1 hT1 hx1
  generalize ((l.drop i).map ptrTo).length = dl at *
  generalize l.length = n at *
  go_enter Try.func64, Try.ntmps64
  go_wp2_with (simp only [hov])
  have hwi : IntKind.i64.wrap ((i : Int) + 1) = (i : Int) + 1 := by rw [IntKind.wrap_i64]; omega
  have hti : ((i : Int) + 1).toNat = i + 1 := by omega
  have hb3 : (0 : Int) ≤ (i : Int) + 1 := by omega
  go_region_law (refine step_copy rfl _ _ 82 82 _ rfl rfl _ _ _ _ (by simp [Act.eval, Act.put]) (by simp [Act.eval, Act.put]) (hcp1 _ _ _) ?_)
  go_wp2_with (at_builtin; refine wpl_copy rfl _ _ 82 82 _ rfl rfl _ _ _ _ rfl rfl (hcp2 _ _) ?_)
  go_ret
  exact HQ.out
end Go.Proofs.Ytokochkjjlbnkaa
