/-
  What bytes begin with: plain arithmetic of records.
-/
import Derived.Test.YtoipokjoklhfjaaDoorRcD
namespace Go.Proofs.YtoipokjoklhfjaaDoor
open Go.RowKit numb

/-- what is told of bytes: an error, a record, how many bytes it has -/
structure Nx where
  e : Nat
  k : Nat
  d : List Nat
  n : Nat
def nextS (b : List Nat) : Nx :=
  if (St.below ⟨b, 0⟩ 1048576).1.e ≠ 0 then ⟨(St.below ⟨b, 0⟩ 1048576).1.e, 0, [], 0⟩
  else if (St.below ⟨b, 0⟩ 1048576).1.l.length < (St.below ⟨b, 0⟩ 1048576).2 + 5 then ⟨16, 0, [], 0⟩
  else if (b.drop (b.length - (St.below ⟨b, 0⟩ 1048576).1.l.length + (St.below ⟨b, 0⟩ 1048576).2 + 1)).take 4 = sumB (b.take (b.length - (St.below ⟨b, 0⟩ 1048576).1.l.length + (St.below ⟨b, 0⟩ 1048576).2 + 1)) then
    ⟨0, (St.below ⟨b, 0⟩ 1048576).1.l.getD 0 0, ((St.below ⟨b, 0⟩ 1048576).1.l.drop 1).take (St.below ⟨b, 0⟩ 1048576).2, b.length - (St.below ⟨b, 0⟩ 1048576).1.l.length + (St.below ⟨b, 0⟩ 1048576).2 + 5⟩
  else ⟨18, 0, [], 0⟩

theorem below_zero {b : List Nat} (hb : AreBytes b) :
    ((St.below ⟨b, 0⟩ 1048576).1.e = 0 → ∃ r, b = uint (St.below ⟨b, 0⟩ 1048576).2 ++ r ∧ (St.below ⟨b, 0⟩ 1048576).1 = ⟨r, 0⟩ ∧ (St.below ⟨b, 0⟩ 1048576).2 ≤ 1048576) ∧
    ((St.below ⟨b, 0⟩ 1048576).1.e ≠ 0 → (St.below ⟨b, 0⟩ 1048576).1.e = 10 ∨ (St.below ⟨b, 0⟩ 1048576).1.e = 16 ∨ (St.below ⟨b, 0⟩ 1048576).1.e = 17) := by
  have hs : (⟨b, 0⟩ : St).e ≠ 0 → (⟨b, 0⟩ : St).l = [] := fun h => absurd rfl h
  cases hr : read b with
  | bad e =>
    have he := read_bad hr
    have hu := uint_bad hs hr
    have h1 : St.below ⟨b, 0⟩ 1048576 = (St.fail ⟨b, 0⟩ e, 0) := by
      unfold St.below
      rw [hu, if_neg]
      unfold St.fail
      simp
    rw [h1]
    unfold St.fail
    simp only [if_true]
    omega
  | ok v r =>
    have hu := (uint_ok hs hr).1
    obtain ⟨h2, _⟩ := read_ok hb hr
    by_cases hv : 1048576 < v
    · have h1 : St.below ⟨b, 0⟩ 1048576 = (⟨[], 17⟩, 0) := by
        unfold St.below
        rw [hu, if_pos]
        exact ⟨rfl, by omega⟩
      rw [h1]
      simp
    · have h1 : St.below ⟨b, 0⟩ 1048576 = (⟨r, 0⟩, v) := by
        unfold St.below
        rw [hu, if_neg]
        simp
        omega
      rw [h1]
      refine ⟨fun _ => ⟨r, h2, rfl, by show v ≤ _; omega⟩, fun h => absurd rfl h⟩
theorem below_uint {n : Nat} (hn : n ≤ 1048576) (r : List Nat) : St.below ⟨uint n ++ r, 0⟩ 1048576 = (⟨r, 0⟩, n) := by
  have hr : read (uint n ++ r) = .ok n r := read_uint (by omega) r
  have hu := (uint_ok (s := ⟨uint n ++ r, 0⟩) (fun h => absurd rfl h) hr).1
  unfold St.below
  rw [hu, if_neg]
  simp
  omega
/-- ten bytes tell a number -/
theorem read_take {b : List Nat} (hb : AreBytes b) : (∀ e, read b = .bad e → read (b.take 10) = .bad e) ∧ (∀ v r, read b = .ok v r → ∃ r', read (b.take 10) = .ok v r') := by
  by_cases hl : b.length ≤ 10
  · rw [List.take_of_length_le hl]
    exact ⟨fun e h => h, fun v r h => ⟨r, h⟩⟩
  refine ⟨fun e h => ?_, fun v r h => ?_⟩
  · cases h2 : read (b.take 10) with
    | ok v r' =>
      obtain ⟨h3, h4⟩ := read_ok (hb.take 10) h2
      have h5 : b = uint v ++ (r' ++ b.drop 10) := by
        rw [← List.append_assoc, ← h3, List.take_append_drop]
      rw [h5, read_uint h4] at h
      cases h
    | bad e' =>
      have h6 : ∀ l : List Nat, 10 ≤ l.length → ∀ x, read l = .bad x → x = 10 := by
        intro l hl x hx
        unfold numb.read at hx
        simp only at hx
        split at hx
        · exact (Got.bad.inj hx).symm
        · split at hx
          · omega
          · split at hx
            · exact (Got.bad.inj hx).symm
            · cases hx
      rw [h6 b (by omega) e h, h6 (b.take 10) (by rw [List.length_take]; omega) e' h2]
  · obtain ⟨h3, h4⟩ := read_ok hb h
    have h5 := uint_length_le (v := v) (k := 10) (by omega) (by omega)
    refine ⟨r.take (10 - (uint v).length), ?_⟩
    rw [h3, List.take_append, List.take_of_length_le h5]
    exact read_uint h4 _
theorem below_take {b : List Nat} (hb : AreBytes b) : (St.below ⟨b.take 10, 0⟩ 1048576).1.e = (St.below ⟨b, 0⟩ 1048576).1.e ∧ (St.below ⟨b.take 10, 0⟩ 1048576).2 = (St.below ⟨b, 0⟩ 1048576).2 := by
  obtain ⟨h1, h2⟩ := read_take hb
  cases hr : read b with
  | bad e =>
    have h3 := h1 e hr
    have hu := uint_bad (s := ⟨b, 0⟩) (fun h => absurd rfl h) hr
    have hu' := uint_bad (s := ⟨b.take 10, 0⟩) (fun h => absurd rfl h) h3
    unfold St.below
    rw [hu, hu']
    unfold St.fail
    simp
  | ok v r =>
    obtain ⟨r', h3⟩ := h2 v r hr
    have hu := (uint_ok (s := ⟨b, 0⟩) (fun h => absurd rfl h) hr).1
    have hu' := (uint_ok (s := ⟨b.take 10, 0⟩) (fun h => absurd rfl h) h3).1
    unfold St.below
    rw [hu, hu']
    simp only
    split <;> exact ⟨rfl, rfl⟩

/-- how bytes begin, if a number that may be is there -/
structure Head (b : List Nat) (n : Nat) (r : List Nat) : Prop where
  eq : b = uint n ++ r
  le : n ≤ 1048576
theorem head_below {b : List Nat} {n : Nat} {r : List Nat} (h : Head b n r) : St.below ⟨b, 0⟩ 1048576 = (⟨r, 0⟩, n) := by rw [h.eq]; exact below_uint h.le r
theorem next_err {b : List Nat} (h : (St.below ⟨b, 0⟩ 1048576).1.e ≠ 0) : nextS b = ⟨(St.below ⟨b, 0⟩ 1048576).1.e, 0, [], 0⟩ := by unfold nextS; rw [if_pos h]
theorem next_short {b : List Nat} {n : Nat} {r : List Nat} (h : Head b n r) (hs : r.length < n + 5) : nextS b = ⟨16, 0, [], 0⟩ := by
  unfold nextS
  rw [head_below h]
  simp only [ne_eq, not_true, if_false, hs, if_true]
theorem head_len {b : List Nat} {n : Nat} {r : List Nat} (h : Head b n r) : b.length - r.length = (uint n).length := by rw [h.eq, List.length_append]; omega
theorem next_rest {b : List Nat} {n : Nat} {r : List Nat} (h : Head b n r) (hs : ¬ r.length < n + 5) :
    nextS b = if (b.drop ((uint n).length + n + 1)).take 4 = sumB (b.take ((uint n).length + n + 1)) then ⟨0, r.getD 0 0, (r.drop 1).take n, (uint n).length + n + 5⟩ else ⟨18, 0, [], 0⟩ := by
  have hl := head_len h
  unfold nextS
  rw [head_below h]
  simp only [ne_eq, not_true, if_false, hs, hl]
/-- what was read has just these bytes -/
theorem next_ok {b : List Nat} (hb : AreBytes b) (h : (nextS b).e = 0) : ∃ n, n = (nextS b).d.length ∧ Head b n (b.drop (uint n).length) ∧ n + 5 ≤ b.length - (uint n).length ∧ (nextS b).k < 256 ∧ AreBytes (nextS b).d ∧ n ≤ 1048576 ∧
    (nextS b).n = (recB (nextS b).k (nextS b).d).length ∧ (nextS b).n ≤ b.length ∧ b.take (nextS b).n = recB (nextS b).k (nextS b).d := by
  obtain ⟨h0, h1⟩ := below_zero hb
  by_cases he : (St.below ⟨b, 0⟩ 1048576).1.e = 0
  · obtain ⟨r, hr, hs, hn⟩ := h0 he
    obtain ⟨n, hN⟩ : ∃ n, n = (St.below ⟨b, 0⟩ 1048576).2 := ⟨_, rfl⟩
    rw [← hN] at hr hn
    have hH : Head b n r := ⟨hr, hn⟩
    have hrd : b.drop (uint n).length = r := by rw [hr, List.drop_left]
    by_cases hsh : r.length < n + 5
    · rw [next_short hH hsh] at h
      cases h
    · rw [next_rest hH hsh] at h ⊢
      by_cases hsum : (b.drop ((uint n).length + n + 1)).take 4 = sumB (b.take ((uint n).length + n + 1))
      · rw [if_pos hsum]
        simp only
        have hbr : AreBytes r := by rw [← hrd]; exact hb.drop _
        have hdl : ((r.drop 1).take n).length = n := by rw [List.length_take, List.length_drop]; omega
        have hbl : b.length = (uint n).length + r.length := by rw [hr, List.length_append]
        obtain ⟨z, t, rfl⟩ : ∃ z t, r = z :: t := by
          cases r with
          | nil => simp at hsh
          | cons z t => exact ⟨z, t, rfl⟩
        have hz : z < 256 := hbr z (by simp)
        have hsu : b.take ((uint n).length + n + 1) = headB z n ++ t.take n := by
          rw [hr, List.take_append, List.take_of_length_le (by omega), show (uint n).length + n + 1 - (uint n).length = n + 1 by omega, List.take_succ_cons]
          unfold headB
          simp
        have hlen : (recB z (t.take n)).length = (uint n).length + n + 5 := by
          rw [recB_length]
          simp only [List.drop_succ_cons, List.drop_zero] at hdl
          rw [hdl]
          omega
        refine ⟨n, by rw [hdl], ⟨by rw [hrd]; exact hr, hn⟩, by simp at hsh; simp at hbl; omega, by simpa using hz, (hbr.drop 1).take n, hn, ?_, by simp at hsh; simp at hbl; omega, ?_⟩
        · simp only [List.getD_cons_zero, List.drop_succ_cons, List.drop_zero]
          exact hlen.symm
        · simp only [List.getD_cons_zero, List.drop_succ_cons, List.drop_zero]
          have e : b.take ((uint n).length + n + 5) = b.take ((uint n).length + n + 1) ++ (b.drop ((uint n).length + n + 1)).take 4 := by
            rw [show (uint n).length + n + 5 = (uint n).length + n + 1 + 4 by omega, List.take_add]
          rw [e, hsum, hsu]
          unfold recB
          simp only [List.drop_succ_cons, List.drop_zero] at hdl
          rw [hdl]
      · rw [if_neg hsum] at h
        cases h
  · rw [next_err he] at h
    exact absurd h he
theorem next_rec {k : Nat} (d : List Nat) (hd : d.length ≤ 1048576) (r : List Nat) : nextS (recB k d ++ r) = ⟨0, k, d, (recB k d).length⟩ := by
  have hH : Head (recB k d ++ r) d.length (k :: (d ++ (sumB (headB k d.length ++ d) ++ r))) := ⟨by unfold recB headB; simp, hd⟩
  rw [next_rest hH (by simp [sumB_length])]
  have e1 : (recB k d ++ r).take ((uint d.length).length + d.length + 1) = headB k d.length ++ d := by
    unfold recB
    rw [List.append_assoc, List.take_append, List.take_of_length_le (by simp [headB]; omega)]
    have : (uint d.length).length + d.length + 1 - (headB k d.length ++ d).length = 0 := by simp [headB]; omega
    rw [this, List.take_zero, List.append_nil]
  have e2 : (recB k d ++ r).drop ((uint d.length).length + d.length + 1) = sumB (headB k d.length ++ d) ++ r := by
    unfold recB
    rw [List.append_assoc, List.drop_append, List.drop_of_length_le (by simp [headB]; omega)]
    have : (uint d.length).length + d.length + 1 - (headB k d.length ++ d).length = 0 := by simp [headB]; omega
    rw [this, List.drop_zero, List.nil_append]
  rw [e1, e2, List.take_left' (sumB_length _), if_pos rfl, recB_length]
  congr 1
  · simp
  · omega
theorem next_bad {b : List Nat} (hb : AreBytes b) : (nextS b).e = 0 ∨ ((nextS b).e = 10 ∨ (nextS b).e = 16 ∨ (nextS b).e = 17 ∨ (nextS b).e = 18) ∧ nextS b = ⟨(nextS b).e, 0, [], 0⟩ := by
  obtain ⟨h0, h1⟩ := below_zero hb
  by_cases he : (St.below ⟨b, 0⟩ 1048576).1.e = 0
  · obtain ⟨r, hr, hs, hn⟩ := h0 he
    by_cases hsh : r.length < (St.below ⟨b, 0⟩ 1048576).2 + 5
    · rw [next_short ⟨hr, hn⟩ hsh]
      simp
    · rw [next_rest ⟨hr, hn⟩ hsh]
      split <;> simp
  · rw [next_err he]
    right
    have := h1 he
    simp only [and_true]
    omega
theorem next_nil : nextS [] = ⟨16, 0, [], 0⟩ := by
  have h : (St.below ⟨[], 0⟩ 1048576).1.e = 16 := by
    have hu := uint_bad (s := ⟨[], 0⟩) (fun h => absurd rfl h) read_nil
    unfold St.below
    rw [hu]
    rfl
  rw [next_err (by rw [h]; decide), h]
end Go.Proofs.YtoipokjoklhfjaaDoor
