/-
  Layer 12: New; sameId, EqualFunc of rows of kids.
-/
import Derived.Test.YtokochkjjlbnkaaTsI
import Derived.Maps.RangeWalk
namespace Go.Proofs.Ytokochkjjlbnkaa
open Go.RowKit trm itr

theorem make_map (w : World) (o : Option Value) (ho : o = none ∨ ∃ n : Int, o = some (.int .i64 n)) : (Instr.makeMap 85 o).run Try.prog w = .ok (.map (some w.heap.size)) (w.alloc (.map #[] 0)) := by
  rcases ho with rfl | ⟨n, rfl⟩
  · rfl
  · simp [Instr.makeMap, run_underlying Try.underlying85, asInt, asIntOf, newObj, Result.andThen]
    rfl
set_option maxRecDepth 100000 in
set_option maxHeartbeats 1000000 in
theorem tnew (w : World) : Calls Try.prog 10 #[] w fun e w' => ∃ b s, e = .returned (.pointer (some ⟨b, 0, none⟩)) ∧ TreeAt w' b s [] ∧ Below w.heap.size w w' ∧ ∀ k, FootT b s [] k → w.heap.size ≤ k := by
  have hmm := fun w => make_map w none (.inl rfl)
  have hm0 := (mapAt_made w).stays (w' := (w.alloc (.map #[] 0)).alloc (node0 0)) (Below.heap_alloc _ _ _ (by simp))
  obtain ⟨w2, hrun, hm2, hg⟩ := hm0.store (i := 0) (by constructor <;> decide) (w.heap.size + 1) (by show [_].length ≤ _; simp)
  have HM := Lib.hid (And.intro hm2 hg)
  clear hm0 hm2 hg
  go_enter Try.func10, Try.ntmps10
  go_wp2_with (fail)
  go_ret
  obtain ⟨hm2, hg⟩ := HM.out
  have hgs := hg.size
  simp only [World.size_alloc] at hgs
  have hb : Below w.heap.size w w2 := (((Below.refl _ w).alloc (Nat.le_refl _) (.map #[] 0)).alloc (by simp) (node0 0)).grown hg (by simp; omega) (fun k e => by rw [← Option.some.inj e]; exact Nat.le_refl _)
  have hb2 : Below w2.heap.size w2 (w2.alloc (.cells #[.map (some w.heap.size)] tTree)) := (Below.refl _ _).alloc (Nat.le_refl _) _
  have hH : ∀ j, hasP [] j ↔ j = 0 := fun j => by unfold hasP; rw [has_iff]; simp [ids]
  refine ⟨_, ⟨w.heap.size, fun _ => w.heap.size + 1, fun _ => .slice none 0 0⟩, rfl, ⟨⟨BlkT.new w2 [.map (some w.heap.size)] _, ⟨_, hm2.stays (hb2.block _ hm2.inside), fun j g => ?_⟩, fun j hj => ?_, fun j k hj hk _ => ((hH j).1 hj).trans ((hH k).1 hk).symm, fun j k x _ _ e => (nomatch e)⟩, ok_nil⟩, hb.trans (hb2.mono hb.size), ?_⟩
  · rw [omap.look_put, hH]
    by_cases e : j = 0
    · rw [if_pos e]
      simp [e]
    · rw [if_neg e]
      simp [e, omap.look_nil]
  · obtain rfl := (hH j).1 hj
    refine ⟨BlkT.stays (w := w2) ?_ (hb2.block (w.heap.size + 1) (by omega)), SOwn.nil _ _⟩
    exact (hg.block (w.heap.size + 1) (by simp) (fun e => by have := Option.some.inj e; omega)).trans (by
      have := heap_alloc_new (w.alloc (.map #[] 0)) (node0 0)
      rw [World.size_alloc] at this
      exact this)
  · rintro k (e | e | ⟨j, _, e | e⟩)
    · rw [e]; exact hb.size
    · rw [e]; exact Nat.le_refl _
    · rw [e]; simp
    · cases e
set_option maxHeartbeats 1000000 in
theorem same_id {w : World} {g1 g2 : Nat} {i1 i2 : Int} {p1 p2 v1 v2 : Value} (h1 : BlkT w g1 [.int .i64 i1, p1, v1] tNode) (h2 : BlkT w g2 [.int .i64 i2, p2, v2] tNode) :
    Calls Try.prog 41 #[.pointer (some ⟨g1, 0, none⟩), .pointer (some ⟨g2, 0, none⟩)] w fun e w' => e = .returned (.bool (decide (i1 = i2))) ∧ Drew w w' := by
  have c1 := h1.blk.cell 0
  have c2 := h2.blk.cell 0
  have z1 := h1.inside
  have z2 := h2.inside
  simp only [List.getElem?_cons_zero] at c1 c2
  clear h1 h2
  go_enter Try.func41, Try.ntmps41
  go_wp2_with (fail)
  go_quiet (fail)
  go_wp2_with (fail)
  go_ret
  exact ⟨ret_bool rfl, ⟨_, rfl⟩⟩
/-- what the rows of kids are, in two trees -/
def KidsAt (w : World) (v : Value) (l : List Nat) (ids : List Int) : Prop := ∃ A c, v = .slice A l.length c ∧ l.length = ids.length ∧ ∀ j (hj : j < l.length), ∃ g o, A = some ⟨g, 0, none⟩ ∧ o = l[j] ∧ w.cell? ⟨g, j, none⟩ = some (.pointer (some ⟨o, 0, none⟩)) ∧ ∃ p v, BlkT w o [.int .i64 (ids.getD j 0), p, v] tNode
theorem KidsAt.below {w w' : World} {v : Value} {l : List Nat} {ids : List Int} (h : KidsAt w v l ids) (hb : Below w.heap.size w w') : KidsAt w' v l ids := by
  obtain ⟨A, c, e, hl, hh⟩ := h
  refine ⟨A, c, e, hl, fun j hj => ?_⟩
  obtain ⟨g, o, e1, e2, hc, p, v, hb'⟩ := hh j hj
  exact ⟨g, o, e1, e2, (hb.cell (World.block_lt_of_cell? w ⟨g, j, none⟩ hc)).trans hc, p, v, hb'.stays (hb.block _ hb'.inside)⟩
theorem eq_take {a b : List Int} {k : Nat} (h : a.take k = b.take k) (ha : k < a.length) (hb : k < b.length) (e : a.getD k 0 = b.getD k 0) : a.take (k + 1) = b.take (k + 1) := by
  rw [List.getD_eq_getElem?_getD, List.getD_eq_getElem?_getD, List.getElem?_eq_getElem ha, List.getElem?_eq_getElem hb, Option.getD_some, Option.getD_some] at e
  exact take_eq_snoc h ha hb e
theorem ne_get {a b : List Int} {k : Nat} (e : a.getD k 0 ≠ b.getD k 0) : decide (a = b) = false := decide_eq_false fun h => e (by rw [h])
set_option maxRecDepth 100000 in
set_option maxHeartbeats 2000000 in
theorem equal_func {w : World} {v1 v2 : Value} {l1 l2 : List Nat} {i1 i2 : List Int} (h1 : KidsAt w v1 l1 i1) (h2 : KidsAt w v2 l2 i2) (hn : l1.length ≤ 100000 ∧ l2.length ≤ 100000) :
    Calls Try.prog 40 #[v1, v2, .func (.func 41) #[] #[]] w fun e w' => e = .returned (.bool (decide (i1 = i2))) ∧ Drew w w' := by
  have H1 := Lib.hid (fun w' hb => h1.below (w' := w') hb)
  have H2 := Lib.hid (fun w' hb => h2.below (w' := w') hb)
  obtain ⟨A1, c1, rfl, e1, -⟩ := h1
  obtain ⟨A2, c2, rfl, e2, -⟩ := h2
  have HE := Lib.hid (And.intro e1 e2)
  have HN := Lib.hid hn
  have hb1 : (l1.length : Int) ≤ 100000 := by omega
  have hb2 : (l2.length : Int) ≤ 100000 := by omega
  clear hn
  by_cases hl : l1.length = l2.length
  · have q : ((l1.length : Int) != (l2.length : Int)) = false := by simp; omega
    have HL := Lib.hid hl
    clear hl e1 e2
    go_enter Try.func40, Try.ntmps40
    go_wp2_with (fail)
    clear q
    go_loopw [17] (fun x wr => ∃ k : Nat, k ≤ l1.length ∧ x = .int .i64 (k : Nat) ∧ Hid (i1.take k = i2.take k) ∧ Hid (Drew w wr)) (fun x _ => l1.length - (intOf x).toNat)
    case atStart => exact ⟨0, Nat.zero_le _, rfl, rfl, Drew.refl _⟩
    case round =>
      obtain ⟨k, hk, rfl, HK, HD⟩ := hrel
      have hkb : ((k : Nat) : Int) ≤ 100000 := by omega
      by_cases hlt : k < l1.length
      · have t1 : decide (k < l1.length) = true := by simpa using hlt
        have hlt2 : k < l2.length := by rw [← HL.out]; exact hlt
        obtain ⟨A1', c1', q1, -, hh1⟩ := H1.out wr (HD.out.below _)
        obtain ⟨A2', c2', q2, -, hh2⟩ := H2.out wr (HD.out.below _)
        obtain ⟨g1, o1, r1, rfl, k1, p1, v1, b1⟩ := hh1 k hlt
        obtain ⟨g2, o2, r2, rfl, k2, p2, v2, b2⟩ := hh2 k hlt2
        injection q1 with q1 _ q1c
        injection q2 with q2 _ q2c
        subst q1 q2 q1c q2c r1 r2
        have HC := Lib.hid (same_id b1 b2)
        have HS := Lib.hid (fun e => eq_take HK.out (by rw [← HE.out.1]; exact hlt) (by rw [← HE.out.2]; exact hlt2) e)
        have HO := Lib.hid (fun e => ne_get (a := i1) (b := i2) (k := k) e)
        clear hh1 hh2 b1 b2
        generalize i1.getD k 0 = x1 at *
        generalize i2.getD k 0 = x2 at *
        generalize l1[k] = y1 at *
        generalize l2[k] = y2 at *
        by_cases e : x1 = x2
        · have HS2 := Lib.hid (HS.out e)
          rw [decide_eq_true e] at HC
          clear HS HO e
          go_wp2_with (fail)
          refine HC.out.mono ?_
          rintro e w2 ⟨rfl, hd⟩
          have HD2 := Lib.hid (HD.out.trans hd)
          clear hd
          go_wp2_with (fail)
          go_roundw
          case rel => exact ⟨k + 1, by omega, by go_num, HS2, HD2⟩
          case measure => simp [intOf]; omega
        · have HO2 := Lib.hid (HO.out e)
          rw [decide_eq_false e] at HC
          clear HS HO e
          go_wp2_with (fail)
          refine HC.out.mono ?_
          rintro e w2 ⟨rfl, hd⟩
          have HD2 := Lib.hid (HD.out.trans hd)
          clear hd
          go_wp2_with (fail)
          go_ret
          exact ⟨ret_bool HO2.out.symm, HD2.out⟩
      · obtain rfl : k = l1.length := by omega
        have HF : Hid (decide (i1 = i2) = true) := decide_eq_true (by
          have h := HK.out
          rw [HE.out.1, List.take_length, ← HE.out.1, HL.out, HE.out.2, List.take_length] at h
          exact h)
        have t1 : decide (l1.length < l1.length) = false := by simp
        go_wp2_with (fail)
        go_ret
        exact ⟨ret_bool HF.out.symm, HD.out⟩
  · have q : ((l1.length : Int) != (l2.length : Int)) = true := by simp; omega
    have HF : Hid (decide (i1 = i2) = false) := decide_eq_false fun e => hl (by rw [e1, e2, e])
    clear hl e1 e2
    go_enter Try.func40, Try.ntmps40
    go_wp2_with (fail)
    go_ret
    exact ⟨ret_bool HF.out.symm, Drew.refl _⟩
end Go.Proofs.Ytokochkjjlbnkaa
