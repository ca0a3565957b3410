/-
  Layer 12: rows of the document's tree; its Has, Parent, Kids, without.
-/
import Derived.Test.YtokochkjjlbnkaaKit
import Derived.Test.YtokochkjjlbnkaaTrMath
namespace Go.Proofs.Ytokochkjjlbnkaa
open Go.RowKit trm

theorem Drew.trans {a b c : World} (h : Drew a b) (k : Drew b c) : Drew a c := by
  obtain ⟨m, rfl⟩ := k
  exact h.more m
def rcs (r : Int × Int) : List Value := [.int .i64 r.1, .int .i64 r.2]
theorem rcs_len (r : Int × Int) : (rcs r).length = 2 := rfl
theorem rcs_plain (r : Int × Int) : ∀ u ∈ rcs r, u.oneCell' = true := by
  intro u hu
  simp only [rcs, List.mem_cons, List.not_mem_nil, or_false] at hu
  rcases hu with rfl | rfl <;> rfl
abbrev RRow (w : World) (A : Option Addr) (t : T) : Prop := SRow 2 rcs w A t
theorem RRow.at_ {w : World} {A : Option Addr} {l : T} (h : RRow w A l) {j : Nat} (hj : j < l.length) : ∃ b off, A = some ⟨b, off, none⟩ ∧ w.cell? ⟨b, off + j * 2, none⟩ = some (.int .i64 l[j].1) ∧ w.cell? ⟨b, off + j * 2 + 1, none⟩ = some (.int .i64 l[j].2) := by
  obtain ⟨b, off, e, hc⟩ := h (by omega)
  exact ⟨b, off, e, hc j hj 0 _ rfl, hc j hj 1 _ rfl⟩
theorem info_row : (Try.prog.info? 94).map (fun i => (i.zero, i.size, i.bytes)) = some (some (.agg #[.int .i64 0, .int .i64 0]), 2, 16) := by kernel_rfl
abbrev ROwn (w : World) (base : Nat) (v : Value) (l : T) : Prop := SOwn 94 2 rcs w base v l
def ic (z : Int) : List Value := [.int .i64 z]
theorem ic_len (z : Int) : (ic z).length = 1 := rfl
theorem ic_plain (z : Int) : ∀ u ∈ ic z, u.oneCell' = true := by
  intro u hu
  simp only [ic, List.mem_singleton] at hu
  subst hu
  rfl
abbrev IOwn (w : World) (base : Nat) (v : Value) (l : List Int) : Prop := SOwn 3 1 ic w base v l
theorem info_int : (Try.prog.info? 3).map (fun i => (i.zero, i.size, i.bytes)) = some (some (.int .i64 0), 1, 8) := by kernel_rfl
theorem IOwn.irow {w : World} {base : Nat} {v : Value} {l : List Int} (h : IOwn w base v l) : ∃ A c, v = .slice A l.length c ∧ l.length ≤ c ∧ c ≤ maxLen ∧ Row eI w A l := by
  obtain ⟨A, c, h1, h2, h3, h4⟩ := h.row ic_len
  refine ⟨A, c, h1, h2, h3, fun hn => ?_⟩
  obtain ⟨b, off, e, hc⟩ := h4 hn
  refine ⟨b, off, e, fun j hj => ?_⟩
  have := hc j hj 0 _ rfl
  rw [Nat.mul_one, Nat.add_zero] at this
  exact this
/-- one number more -/
theorem app_one {w : World} {base : Nat} {v : Value} {l : List Int} (h : IOwn w base v l) (x : Int) {c : Nat} (hn : l.length ≤ 900000000) (hbase : base ≤ w.heap.size) :
    ∃ v' w', (Builtin.append_ #[35, 35] 35 #[v, .slice (some ⟨w.heap.size, 0, none⟩) 1 c]).run Try.prog (w.alloc (.cells #[.int .i64 x] 3)) = .ok v' w' ∧ IOwn w' base v' (l ++ [x]) ∧
      (w.alloc (.cells #[.int .i64 x] 3)).grownBy w' v.ownBlock ∧ (v'.ownBlock = v.ownBlock ∨ v'.ownBlock = some (w.heap.size + 1)) := by
  obtain ⟨v', w', h1, h2, h3, h4⟩ := SOwn.app (P := Try.prog) (xs := [x]) (c := c) (g := w.heap.size) (o := 0) Try.underlying35 info_int rfl (by decide) (by decide) ic_len ic_plain
    (h.below ((Below.refl _ _).alloc (Nat.le_refl _) (.cells #[.int .i64 x] 3))) (fun _ => srow_new (enc := ic) ic_len w [x] _ rfl) (by simp; omega) (by simp; omega)
  refine ⟨v', w', h1, h2, h3, ?_⟩
  simpa using h4
theorem app_row1 {w : World} {base : Nat} {v : Value} {l : T} (h : ROwn w base v l) (x y : Int) {c : Nat} (hn : l.length ≤ 900000000) (hbase : base ≤ w.heap.size) :
    ∃ v' w', (Builtin.append_ #[28, 28] 28 #[v, .slice (some ⟨w.heap.size, 0, none⟩) 1 c]).run Try.prog (w.alloc (.cells #[.int .i64 x, .int .i64 y] 94)) = .ok v' w' ∧ ROwn w' base v' (l ++ [(x, y)]) ∧
      (w.alloc (.cells #[.int .i64 x, .int .i64 y] 94)).grownBy w' v.ownBlock ∧ (v'.ownBlock = v.ownBlock ∨ v'.ownBlock = some (w.heap.size + 1)) := by
  obtain ⟨v', w', h1, h2, h3, h4⟩ := SOwn.app (P := Try.prog) (xs := [(x, y)]) (c := c) (g := w.heap.size) (o := 0) Try.underlying28 info_row rfl (by decide) (by decide) rcs_len rcs_plain
    (h.below ((Below.refl _ _).alloc (Nat.le_refl _) (.cells #[.int .i64 x, .int .i64 y] 94))) (fun _ => srow_new (enc := rcs) rcs_len w [(x, y)] _ rfl) (by simp; omega) (by simp; omega)
  refine ⟨v', w', h1, h2, h3, ?_⟩
  simpa using h4

theorem has_take {t : T} {i : Int} {k : Nat} (h : i ∉ ids (t.take k)) (hk : k < t.length) (e : t[k].1 ≠ i) : i ∉ ids (t.take (k + 1)) := by
  unfold ids at *
  rw [List.take_succ_eq_append_getElem hk, List.map_append, List.mem_append]
  rintro (h1 | h1)
  · exact h h1
  · rw [List.map_singleton, List.mem_singleton] at h1
    exact e h1.symm
theorem has_at {t : T} {i : Int} {k : Nat} (hk : k < t.length) (e : t[k].1 = i) : i ∈ ids t := mem_ids.2 ⟨t[k].2, by rw [← e]; exact List.getElem_mem hk⟩
theorem par_at {t : T} {i : Int} {k : Nat} (h : i ∉ ids (t.take k)) (hk : k < t.length) (e : t[k].1 = i) : par t i = t[k].2 := by
  have h2 : t = t.take k ++ t[k] :: t.drop (k + 1) := by rw [← List.drop_eq_getElem_cons hk, List.take_append_drop]
  unfold par
  have h3 : t.find? (fun r => decide (r.1 = i)) = some t[k] := by
    refine (congrArg (List.find? fun r => decide (r.1 = i)) h2).trans ?_
    rw [List.find?_append, List.find?_eq_none.2 (fun r hr => by
      simp only [decide_eq_true_eq]
      rintro rfl
      exact h (List.mem_map_of_mem hr)), List.find?_cons_of_pos (by simpa using e)]
    rfl
  rw [h3]
  rfl

set_option maxHeartbeats 1000000 in
theorem dhas (A : Option Addr) (t : T) (c : Nat) (i : Int) (w : World) (hr : RRow w A t) (hn : t.length ≤ 100000) :
    Calls Try.prog 17 #[.slice A t.length c, .int .i64 i] w fun e w' => e = .returned (.bool (has t i)) ∧ Below w.heap.size w w' := by
  have HR := Lib.hid hr
  have HN := Lib.hid hn
  clear hr hn
  by_cases h0 : i = 0
  · subst h0
    have HQ : Hid (has t 0 = true) := has_iff.2 (.inl rfl)
    go_enter Try.func17, Try.ntmps17
    go_wp2_with (fail)
    go_ret
    exact ⟨ret_bool HQ.out.symm, Below.refl _ _⟩
  · have q : (i == 0) = false := by simpa using h0
    have H0 := Lib.hid h0
    clear h0
    go_enter Try.func17, Try.ntmps17
    go_wp2_with (fail)
    clear q
    go_loopw [5] (fun x wr => ∃ k : Nat, k ≤ t.length ∧ x = .int .i64 k ∧ Hid (i ∉ ids (t.take k)) ∧ Hid (wr = w)) (fun x _ => t.length - (intOf x).toNat)
    case atStart => exact ⟨0, Nat.zero_le _, rfl, by show _ ∉ _; simp [ids], rfl⟩
    case round =>
      obtain ⟨k, hk, rfl, HK, HW⟩ := hrel
      obtain rfl := HW.out
      by_cases hlt : k < t.length
      · have t1 : decide (k < t.length) = true := by simpa using hlt
        obtain ⟨b, o, rfl, k1, k2⟩ := HR.out.at_ hlt
        have HS := Lib.hid (has_take HK.out hlt)
        have HT := Lib.hid (fun e => has_at (i := i) hlt e)
        have HB := Lib.hid (show k ≤ 100000 by have := HN.out; omega)
        generalize t[k] = r at *
        obtain ⟨x, y⟩ := r
        simp only at k1 k2 HS HT
        by_cases e : x = i
        · have HT2 := Lib.hid (HT.out e)
          have q : (x == i) = true := by simpa using e
          clear HS HT e
          have hkb : (k : Int) ≤ 100000 := by have := HB.out; omega
          go_wp2_with (fail)
          go_ret
          exact ⟨ret_bool (has_iff.2 (.inr HT2.out)).symm, Below.refl _ _⟩
        · have HS2 := Lib.hid (HS.out e)
          have q : (x == i) = false := by simpa using e
          clear HS HT e
          have hkb : (k : Int) ≤ 100000 := by have := HB.out; omega
          go_wp2_with (fail)
          go_roundw
          case rel => exact ⟨k + 1, by omega, by go_num, HS2, by trivial⟩
          case measure => simp [intOf]; omega
      · obtain rfl : k = t.length := by omega
        have HF : Hid (has t i = false) := by
          have h := HK.out
          rw [List.take_length] at h
          show _ = false
          rw [← Bool.not_eq_true, has_iff]
          rintro (h1 | h1)
          · exact H0.out h1
          · exact h h1
        have t1 : decide (t.length < t.length) = false := by simp
        go_wp2_with (fail)
        go_ret
        exact ⟨ret_bool HF.out.symm, Below.refl _ _⟩

set_option maxHeartbeats 1000000 in
theorem dpar (A : Option Addr) (t : T) (c : Nat) (i : Int) (w : World) (hr : RRow w A t) (hn : t.length ≤ 100000) :
    Calls Try.prog 23 #[.slice A t.length c, .int .i64 i] w fun e w' => e = .returned (.int .i64 (par t i)) ∧ Below w.heap.size w w' := by
  have HR := Lib.hid hr
  have HN := Lib.hid hn
  clear hr hn
  go_enter Try.func23, Try.ntmps23
  go_wp2_with (fail)
  go_loopw [5] (fun x wr => ∃ k : Nat, k ≤ t.length ∧ x = .int .i64 k ∧ Hid (i ∉ ids (t.take k)) ∧ Hid (wr = w)) (fun x _ => t.length - (intOf x).toNat)
  case atStart => exact ⟨0, Nat.zero_le _, rfl, by show _ ∉ _; simp [ids], rfl⟩
  case round =>
    obtain ⟨k, hk, rfl, HK, HW⟩ := hrel
    obtain rfl := HW.out
    by_cases hlt : k < t.length
    · have t1 : decide (k < t.length) = true := by simpa using hlt
      obtain ⟨b, o, rfl, k1, k2⟩ := HR.out.at_ hlt
      have HS := Lib.hid (has_take HK.out hlt)
      have HT := Lib.hid (fun e => par_at (i := i) HK.out hlt e)
      have HB := Lib.hid (show k ≤ 100000 by have := HN.out; omega)
      generalize t[k] = r at *
      obtain ⟨x, y⟩ := r
      simp only at k1 k2 HS HT
      by_cases e : x = i
      · have HT2 := Lib.hid (HT.out e)
        have q : (x == i) = true := by simpa using e
        clear HS HT e
        have hkb : (k : Int) ≤ 100000 := by have := HB.out; omega
        go_wp2_with (fail)
        go_ret
        exact ⟨ret_num HT2.out.symm, Below.refl _ _⟩
      · have HS2 := Lib.hid (HS.out e)
        have q : (x == i) = false := by simpa using e
        clear HS HT e
        have hkb : (k : Int) ≤ 100000 := by have := HB.out; omega
        go_wp2_with (fail)
        go_roundw
        case rel => exact ⟨k + 1, by omega, by go_num, HS2, by trivial⟩
        case measure => simp [intOf]; omega
    · obtain rfl : k = t.length := by omega
      have HF : Hid (par t i = -1) := par_none (by have h := HK.out; rw [List.take_length] at h; exact h)
      have t1 : decide (t.length < t.length) = false := by simp
      go_wp2_with (fail)
      go_ret
      exact ⟨ret_num HF.out.symm, Below.refl _ _⟩
end Go.Proofs.Ytokochkjjlbnkaa
