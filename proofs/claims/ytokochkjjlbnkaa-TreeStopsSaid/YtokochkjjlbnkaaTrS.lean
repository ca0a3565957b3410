/-
  Layer 12: slices.Index, slices.Delete of a row of kids.
-/
import Derived.Test.YtokochkjjlbnkaaTrR
import Derived.Test.YtokochkjjlbnkaaTrLay
namespace Go.Proofs.Ytokochkjjlbnkaa
open Go.RowKit trm

theorem idxOf_at : ∀ {l : List Int} {i : Int} {k : Nat} (hk : k < l.length), i ∉ l.take k → l[k] = i → l.idxOf i = k
  | a :: l, i, 0, hk, _, e => by
    simp only [List.getElem_cons_zero] at e
    subst e
    exact List.idxOf_cons_self
  | a :: l, i, k + 1, hk, h, e => by
    rw [List.take_succ_cons, List.mem_cons, not_or] at h
    have h2 := idxOf_at (l := l) (by simpa using hk) h.2 (by simpa using e)
    have h1 : (a == i) = false := by simpa using Ne.symm h.1
    rw [List.idxOf_cons, h1, h2]
    rfl
section
variable {w : World} {b : Nat} {s : Sh} {H : Int → Prop} {P : Int → Option Int} {K : Int → List Int}
set_option maxRecDepth 100000 in
set_option maxHeartbeats 1000000 in
theorem nindex (h : Raw w b s H P K) {q i : Int} (hq : H q) (hK : ∀ x ∈ K q, H x) (hi : i ∈ K q) (hn : (K q).length ≤ 100000) :
    Calls Try.prog 62 #[s.v q, .pointer (some ⟨s.g i, 0, none⟩)] w fun e w' => e = .returned (.int .i64 ((K q).idxOf i : Nat)) ∧ w' = w := by
  obtain ⟨A, c, hv, hc1, hc2, hat⟩ := (h.node q hq).own.at_
  rw [ks_len] at hv
  rw [hv]
  have HAT : Hid (∀ j (hj : j < (K q).length), ∃ g, A = some ⟨g, 0, none⟩ ∧ w.cell? ⟨g, j, none⟩ = some (.pointer (some ⟨s.g (K q)[j], 0, none⟩)) ∧
      ((binOp .eql 81 (.pointer (some ⟨s.g i, 0, none⟩)) (.pointer (some ⟨s.g (K q)[j], 0, none⟩))).run Try.prog w = .ok (.bool (decide (i = (K q)[j]))) w)) := by
    intro j hj
    obtain ⟨g, e, -, hcell⟩ := hat j (by rw [ks_len]; exact hj)
    rw [ks_get] at hcell
    refine ⟨g, e, hcell, ?_⟩
    by_cases h' : i = (K q)[j]
    · rw [← h', decide_eq_true rfl]
      exact ptr_same w _
    · rw [decide_eq_false h']
      exact ptr_other (h.node _ (hK _ hi)).blk (h.node _ (hK _ (List.getElem_mem hj))).blk fun e => h' (h.inj _ _ (hK _ hi) (hK _ (List.getElem_mem hj)) e)
  have HI := Lib.hid hi
  have HN := Lib.hid hn
  clear h hq hK hi hn hat hc1 hc2 hv
  generalize K q = l at *
  go_enter Try.func62, Try.ntmps62
  go_wp2_with (fail)
  go_loopw [8] (fun x wr => ∃ k : Nat, k ≤ l.length ∧ x = .int .i64 k ∧ Hid (i ∉ l.take k) ∧ Hid (wr = w)) (fun x _ => l.length - (intOf x).toNat)
  case atStart => exact ⟨0, Nat.zero_le _, rfl, by show _ ∉ _; simp, rfl⟩
  case round =>
    obtain ⟨k, hk, rfl, HK, HW⟩ := hrel
    obtain rfl := HW.out
    by_cases hlt : k < l.length
    · have t1 : decide (k < l.length) = true := by simpa using hlt
      obtain ⟨g, rfl, k1, k2⟩ := HAT.out k hlt
      have hkb : (k : Int) ≤ 100000 := by have := HN.out; omega
      have HS : Hid (i ≠ l[k] → i ∉ l.take (k + 1)) := fun e => by
        rw [List.take_succ_eq_append_getElem hlt, List.mem_append, List.mem_singleton]
        rintro (h | h)
        · exact HK.out h
        · exact e h
      have HT : Hid (i = l[k] → l.idxOf i = k) := fun e => idxOf_at hlt HK.out e.symm
      generalize l[k] = x at *
      by_cases e : i = x
      · have HT2 := Lib.hid (HT.out e)
        rw [decide_eq_true e] at k2
        clear HS HT e
        go_wp2_with (fail)
        go_ret
        exact ⟨ret_num (by rw [HT2.out]), rfl⟩
      · have HS2 := Lib.hid (HS.out e)
        rw [decide_eq_false e] at k2
        clear HS HT e
        go_wp2_with (fail)
        go_roundw
        case rel => exact ⟨k + 1, by omega, by go_num, HS2, by trivial⟩
        case measure => simp [intOf]; omega
    · obtain rfl : k = l.length := by omega
      have h := HK.out
      rw [List.take_length] at h
      exact absurd HI.out h
end

abbrev OneB (o : Option Nat) : Bset := fun k => o = some k
theorem info_ptr : (Try.prog.info? 81).map (fun i => (i.zero, i.size, i.bytes)) = some (some (.pointer none), 1, 8) := by kernel_rfl
theorem KOwn.of_cells {w : World} {g cap n : Nat} {cur : Array Value} {l : List (Option Nat)} (h : w.heap[g]? = some (.cells cur tPtr (0, 0))) (hn : l.length = n) (hc : n ≤ cap) (hm : cap ≤ maxLen) (hs : cur.size = cap) (ht : cur.toList.take n = l.map ptrTo) : KOwn w (.slice (some ⟨g, 0, none⟩) n cap) l := by
  subst hn
  show World.ownsRow _ _ _ _ _ _ _
  rw [flat_kc]
  exact ⟨by simp, .inr ⟨g, cap, cur, rfl, Nat.zero_le _, h, hc, hm, by simpa using hs, by simpa using ht⟩⟩
theorem KOwn.cells {w : World} {v : Value} {l : List (Option Nat)} (h : KOwn w v l) : (v = .slice none 0 0 ∧ l = []) ∨ ∃ g cap cur, v = .slice (some ⟨g, 0, none⟩) l.length cap ∧ w.heap[g]? = some (.cells cur tPtr (0, 0)) ∧ l.length ≤ cap ∧ cap ≤ maxLen ∧ cur.size = cap ∧ cur.toList.take l.length = l.map ptrTo := by
  obtain ⟨_, h2⟩ := h
  rw [flat_kc] at h2
  rcases h2 with ⟨e, h0⟩ | ⟨g, cap, cur, e, _, h3, h4, h5, h6, h7⟩
  · exact .inl ⟨e, List.eq_nil_of_length_eq_zero h0⟩
  · exact .inr ⟨g, cap, cur, e, h3, h4, h5, by simpa using h6, by simpa using h7⟩
theorem oneP : OneCell ptrTo := fun o => by cases o <;> rfl
theorem putRow_heap {enc : Option Nat → Value} {w : World} {q g : Nat} {d : Array (Option Nat)} {cur : Array Value} {T : TypeId} {fr : Nat × Nat} (h : w.heap[g]? = some (.cells cur T fr)) :
    (Go.Sort.putRow enc (Go.Sort.ahead w q) g 0 d).heap[g]? = some (.cells (Go.Sort.putCells enc 0 d cur) T fr) := by
  unfold Go.Sort.putRow Go.Sort.mapBlock Go.Sort.ahead
  simp only [Array.getElem?_modify, if_true, h, Option.map_some]
  rfl
theorem putRow_turn {enc : Option Nat → Value} {w : World} {q g : Nat} {d : Array (Option Nat)} : TurnP (OneB (some g)) (OneB (some g)) w (Go.Sort.putRow enc (Go.Sort.ahead w q) g 0 d) := by
  unfold Go.Sort.putRow Go.Sort.mapBlock Go.Sort.ahead
  refine ⟨rfl, rfl, rfl, by simp, fun k hk hn => ⟨hn, ?_⟩⟩
  have hne : g ≠ k := fun e => hn (by rw [e])
  simp only [Array.getElem?_modify, if_neg hne]
theorem putCells_take {enc : Option Nat → Value} {d : Array (Option Nat)} {cur : Array Value} {m : Nat} (hm : m ≤ d.size) (hc : d.size ≤ cur.size) : (Go.Sort.putCells enc 0 d cur).toList.take m = (d.toList.take m).map enc := by
  apply List.ext_getElem?
  intro k
  by_cases hk : k < m
  · rw [List.getElem?_take_of_lt hk, List.getElem?_map, List.getElem?_take_of_lt hk]
    unfold Go.Sort.putCells
    simp only [Array.getElem?_toList, Array.getElem?_mapIdx]
    rw [Array.getElem?_eq_getElem (show k < cur.size by omega), Array.getElem?_eq_getElem (show k < d.size by omega)]
    simp only [Option.map_some, Nat.zero_le, true_and, Nat.zero_add, Nat.sub_zero]
    rw [if_pos (by omega), getElem!_pos d k (by omega)]
  · rw [List.getElem?_take_eq_none (by omega), List.getElem?_eq_none (by simp; omega)]
theorem ndelete {w : World} {v : Value} {l : List (Option Nat)} (h : KOwn w v l) {i : Nat} (hi : i < l.length) (hn : l.length ≤ 100000) :
    Calls Try.prog 63 #[v, .int .i64 (i : Nat), .int .i64 ((i + 1 : Nat) : Int)] w fun e w' => ∃ v', e = .returned v' ∧ KOwn w' v' (l.eraseIdx i) ∧ v'.ownBlock = v.ownBlock ∧ TurnP (OneB v.ownBlock) (OneB v.ownBlock) w w' := by
  rcases h.cells with ⟨_, h0⟩ | ⟨g, cap, cur, rfl, h3, h4, h5, h6, h7⟩
  · rw [h0] at hi
    cases hi
  obtain ⟨i0, hi0, hz, hsize, hby⟩ := info_parts info_ptr
  have hH : Go.Sort.Holds ptrTo w g 0 l.toArray := by
    intro j hj
    have hj' : j < l.length := by simpa using hj
    rw [Nat.zero_add, cell_of_row _ _ _ _ _ _ h3, frozen_of_row _ _ _ _ _ h3]
    refine ⟨?_, rfl⟩
    have h8 : cur.toList[j]? = (l.map ptrTo)[j]? := by rw [← h7, List.getElem?_take_of_lt hj']
    rw [Array.getElem?_toList, List.getElem?_map, List.getElem?_eq_getElem hj'] at h8
    rw [h8, getElem!_pos l.toArray j hj]
    rfl
  have hc := AnyE.slices_Delete l_del ptrTo oneP none (Try.zeroValue81) i0 hi0 hsize g 0 cap i (i + 1) l.toArray w hH (by simpa using h4) (by unfold maxLen at h5; omega) (by omega) (by simp; omega)
  have hc : Calls Try.prog 63 #[.slice (some ⟨g, 0, none⟩) l.length cap, .int .i64 (i : Nat), .int .i64 ((i + 1 : Nat) : Int)] w _ := hc
  refine hc.mono ?_
  rintro e w' ⟨rfl, q, rfl⟩
  have hdl : (l.toArray.toList.take i ++ l.toArray.toList.drop (i + 1) ++ List.replicate (i + 1 - i) none).toArray.size = l.length := by
    simp
    omega
  refine ⟨_, rfl, ?_, rfl, putRow_turn⟩
  refine KOwn.of_cells (putRow_heap h3) ?_ ?_ h5 (by simp [Go.Sort.putCells, h6]) ?_
  · rw [List.length_eraseIdx, if_pos hi]
    simp
  · simp
    omega
  · rw [putCells_take (by rw [hdl]; simp) (by rw [hdl]; omega)]
    have : l.toArray.size - (i + 1 - i) = (l.take i ++ l.drop (i + 1)).length := by simp; omega
    rw [this, List.eraseIdx_eq_take_drop_succ]
    rw [List.take_left']
    rfl
end Go.Proofs.Ytokochkjjlbnkaa
