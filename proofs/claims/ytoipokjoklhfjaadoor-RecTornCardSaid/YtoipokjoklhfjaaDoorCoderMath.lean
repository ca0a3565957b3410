/-
  Numbers as bytes, in plain arithmetic: seven bits a byte, the lowest first; the fewest bytes; and back. No word of the program.
-/
import Derived.RowKit
namespace Go.Proofs.YtoipokjoklhfjaaDoor.numb

/-- a number's bytes -/
def uint (v : Nat) : List Nat := if _h : v < 128 then [v] else (v % 128 + 128) :: uint (v / 128)
termination_by v
decreasing_by omega
theorem uint_small {v : Nat} (h : v < 128) : uint v = [v] := by rw [uint]; simp [h]
theorem uint_big {v : Nat} (h : 128 ≤ v) : uint v = (v % 128 + 128) :: uint (v / 128) := by rw [uint]; simp [show ¬ v < 128 by omega]
/-- the number that bytes say -/
def num : List Nat → Nat
  | [] => 0
  | z :: l => z % 128 + 128 * num l
/-- how many bytes at the beginning go on -/
def lead : List Nat → Nat
  | [] => 0
  | z :: l => if 128 ≤ z then lead l + 1 else 0

theorem uint_pos (v : Nat) : 0 < (uint v).length := by
  by_cases h : v < 128
  · simp [uint_small h]
  · simp [uint_big (show 128 ≤ v by omega)]
theorem uint_bytes (v : Nat) : ∀ z ∈ uint v, z < 256 := by
  induction v using Nat.strongRecOn with
  | _ v ih =>
    by_cases h : v < 128
    · rw [uint_small h]; simp; omega
    · rw [uint_big (by omega)]
      intro z hz
      rcases List.mem_cons.1 hz with rfl | hz
      · omega
      · exact ih (v / 128) (by omega) z hz
theorem uint_length_le {v k : Nat} (hk : 0 < k) (h : v < 128 ^ k) : (uint v).length ≤ k := by
  induction k generalizing v with
  | zero => omega
  | succ k ih =>
    by_cases h0 : v < 128
    · simp [uint_small h0]
    · rw [uint_big (by omega), List.length_cons]
      have hk0 : 0 < k := by
        rcases Nat.eq_zero_or_pos k with hz | hz
        · subst hz; simp at h; omega
        · exact hz
      have := ih (v := v / 128) hk0 (by rw [Nat.pow_succ] at h; omega)
      omega
theorem num_uint (v : Nat) : num (uint v) = v := by
  induction v using Nat.strongRecOn with
  | _ v ih =>
    by_cases h : v < 128
    · rw [uint_small h]; simp [num]; omega
    · rw [uint_big (by omega), num, ih (v / 128) (by omega)]
      omega
theorem lead_uint (v : Nat) (r : List Nat) : lead (uint v ++ r) = (uint v).length - 1 := by
  induction v using Nat.strongRecOn with
  | _ v ih =>
    by_cases h : v < 128
    · rw [uint_small h]; simp [lead]; omega
    · rw [uint_big (by omega)]
      simp only [List.cons_append, lead, List.length_cons]
      rw [if_pos (by omega), ih (v / 128) (by omega)]
      have := uint_pos (v / 128)
      omega
/-- the last byte is below 128, and not nought, unless the number is -/
theorem uint_last (v : Nat) : (uint v).getLast? = some (v / 128 ^ ((uint v).length - 1)) ∧ v / 128 ^ ((uint v).length - 1) < 128 ∧ (1 < (uint v).length → v / 128 ^ ((uint v).length - 1) ≠ 0) := by
  induction v using Nat.strongRecOn with
  | _ v ih =>
    by_cases h : v < 128
    · rw [uint_small h]; simp [h]
    · have hp := uint_pos (v / 128)
      obtain ⟨h1, h2, h3⟩ := ih (v / 128) (by omega)
      have e : v / 128 ^ ((uint v).length - 1) = v / 128 / 128 ^ ((uint (v / 128)).length - 1) := by
        rw [uint_big (by omega), List.length_cons, Nat.div_div_eq_div_mul, show (uint (v / 128)).length + 1 - 1 = (uint (v / 128)).length - 1 + 1 by omega, Nat.pow_succ, Nat.mul_comm]
      rw [e]
      refine ⟨?_, h2, fun _ => ?_⟩
      · rw [uint_big (by omega), List.getLast?_cons, h1]
        rfl
      · by_cases hl : 1 < (uint (v / 128)).length
        · exact h3 hl
        · have hl1 : (uint (v / 128)).length = 1 := by omega
          rw [hl1]
          simp
          omega

/-- bytes that go on, and one that doesn't, and isn't nought if others go ahead, are a number's own -/
theorem uint_num : ∀ (l : List Nat) (z : Nat), (∀ y ∈ l, 128 ≤ y ∧ y < 256) → z < 128 → (l ≠ [] → z ≠ 0) → uint (num (l ++ [z])) = l ++ [z] ∧ (z ≠ 0 → 128 ^ l.length ≤ num (l ++ [z]))
  | [], z, _, hz, _ => by
    refine ⟨?_, fun h => ?_⟩
    · simp only [List.nil_append, num]
      rw [uint_small (by omega)]
      congr 1
      omega
    · simp [num]; omega
  | y :: l, z, hl, hz, h0 => by
    have hz0 : z ≠ 0 := h0 (by simp)
    have hy := hl y (by simp)
    obtain ⟨i1, i2⟩ := uint_num l z (fun x hx => hl x (by simp [hx])) hz (fun _ => hz0)
    have i2 := i2 hz0
    have hp : 0 < 128 ^ l.length := Nat.pow_pos (by omega)
    have hbig : 128 ≤ num (y :: l ++ [z]) := by
      simp only [List.cons_append, num]
      omega
    refine ⟨?_, fun _ => ?_⟩
    · rw [uint_big hbig]
      simp only [List.cons_append, num]
      rw [show (y % 128 + 128 * num (l ++ [z])) % 128 + 128 = y by omega, show (y % 128 + 128 * num (l ++ [z])) / 128 = num (l ++ [z]) by omega, i1]
    · simp only [List.cons_append, num, List.length_cons, Nat.pow_succ]
      omega
theorem num_lt : ∀ (l : List Nat), num l < 128 ^ l.length
  | [] => by simp [num]
  | z :: l => by
    have := num_lt l
    simp only [num, List.length_cons, Nat.pow_succ]
    omega
theorem num_append (l m : List Nat) : num (l ++ m) = num l + 128 ^ l.length * num m := by
  induction l with
  | nil => simp [num]
  | cons z l ih =>
    simp only [List.cons_append, num, ih, List.length_cons, Nat.pow_succ]
    rw [Nat.mul_add, ← Nat.mul_assoc, Nat.mul_comm 128 (128 ^ l.length)]
    omega

/-! ### Reading, as the document says it -/
/-- what comes of reading a number: its error's number, or the number and what is behind it -/
inductive Got where
  | bad (e : Nat)
  | ok (v : Nat) (rest : List Nat)
def read (l : List Nat) : Got :=
  let n := min (lead l) 10
  if n = 10 then .bad 10
  else if n = l.length then .bad 16
  else if (n = 9 ∧ 1 < l.getD 9 0) ∨ (0 < n ∧ l.getD n 0 = 0) then .bad 10
  else .ok (num (l.take (n + 1))) (l.drop (n + 1))

theorem lead_le (l : List Nat) : lead l ≤ l.length := by
  induction l with
  | nil => simp [lead]
  | cons z l ih => simp only [lead, List.length_cons]; split <;> omega
theorem lead_all : ∀ (l : List Nat), ∀ y ∈ l.take (lead l), 128 ≤ y
  | [], y, hy => by simp at hy
  | z :: l, y, hy => by
    simp only [lead] at hy
    split at hy
    · rename_i hz
      rw [List.take_succ_cons] at hy
      rcases List.mem_cons.1 hy with rfl | hy
      · exact hz
      · exact lead_all l y hy
    · simp at hy
theorem lead_stop : ∀ (l : List Nat), lead l < l.length → l.getD (lead l) 0 < 128
  | [], h => by simp at h
  | z :: l, h => by
    simp only [lead] at h ⊢
    split
    · rename_i hz
      rw [if_pos hz] at h
      simp only [List.length_cons] at h
      simpa using lead_stop l (by omega)
    · simp; omega

/-- a number's own bytes are read as it -/
theorem read_uint {v : Nat} (hv : v < 18446744073709551616) (r : List Nat) : read (uint v ++ r) = .ok v r := by
  have hlen := uint_length_le (v := v) (k := 10) (by omega) (Nat.lt_of_lt_of_le hv (by decide))
  have hpos := uint_pos v
  obtain ⟨h1, h2, h3⟩ := uint_last v
  have hlast : (uint v ++ r).getD ((uint v).length - 1) 0 = v / 128 ^ ((uint v).length - 1) := by
    rw [List.getLast?_eq_getElem?] at h1
    rw [List.getD_eq_getElem?_getD, List.getElem?_append_left (by omega), h1]
    rfl
  unfold read
  rw [lead_uint]
  have hmin : min ((uint v).length - 1) 10 = (uint v).length - 1 := by omega
  simp only [hmin]
  rw [if_neg (by omega), if_neg (by rw [List.length_append]; omega), if_neg]
  · rw [show (uint v).length - 1 + 1 = (uint v).length by omega, List.take_left, List.drop_left, num_uint]
  · rintro (⟨h9, hb⟩ | ⟨hn, hb⟩)
    · rw [h9] at hlast
      rw [hlast] at hb
      have : v / 128 ^ 9 ≤ 1 := by
        have : v / 128 ^ 9 < 2 := Nat.div_lt_of_lt_mul (Nat.lt_of_lt_of_le hv (by decide))
        omega
      omega
    · rw [hlast] at hb
      exact h3 (by omega) hb
/-- what is read as a number are its own bytes -/
theorem read_ok {l : List Nat} (hb : ∀ y ∈ l, y < 256) {v : Nat} {r : List Nat} (h : read l = .ok v r) : l = uint v ++ r ∧ v < 18446744073709551616 := by
  unfold read at h
  simp only at h
  split at h
  · cases h
  · rename_i h10
    split at h
    · cases h
    · rename_i hne
      split at h
      · cases h
      · rename_i hno
        have hle := lead_le l
        have hmin : min (lead l) 10 = lead l := by omega
        rw [hmin] at h hne hno
        have hlt : lead l < l.length := by omega
        simp only [Got.ok.injEq] at h
        obtain ⟨hv, hr⟩ := h
        have hst := lead_stop l hlt
        have hg : l.getD (lead l) 0 = l[lead l] := by simp [List.getD, hlt]
        have htake : l.take (lead l + 1) = l.take (lead l) ++ [l[lead l]] := List.take_succ_eq_append_getElem hlt
        have hne0 : l.take (lead l) ≠ [] → l[lead l] ≠ 0 := fun hx hz => by
          have : 0 < lead l := by
            rcases Nat.eq_zero_or_pos (lead l) with h0 | h0
            · rw [h0] at hx; simp at hx
            · exact h0
          exact hno (.inr ⟨this, by rw [hg, hz]⟩)
        obtain ⟨hu, _⟩ := uint_num (l.take (lead l)) l[lead l] (fun y hy => ⟨lead_all l y hy, hb y (List.mem_of_mem_take hy)⟩) (by rw [← hg]; exact hst) hne0
        rw [← htake, hv] at hu
        refine ⟨?_, ?_⟩
        · rw [hu, ← hr, List.take_append_drop]
        · rw [← hv, htake, num_append]
          have ht : (l.take (lead l)).length = lead l := by rw [List.length_take]; omega
          have hnl := num_lt (l.take (lead l))
          rw [ht] at hnl ⊢
          have hz : num [l[lead l]] = l[lead l] := by simp [num]; rw [hg] at hst; omega
          rw [hz]
          by_cases h9 : lead l = 9
          · have h91 : l[lead l] ≤ 1 := by
              rcases Nat.lt_or_ge 1 l[lead l] with hx | hx
              · exact absurd (.inl ⟨h9, by rw [← h9, hg]; exact hx⟩) hno
              · exact hx
            have hm : 128 ^ lead l * l[lead l] ≤ 128 ^ lead l * 1 := Nat.mul_le_mul_left _ h91
            have hp : 128 ^ lead l = 128 ^ 9 := by rw [h9]
            rw [hp] at hm hnl ⊢
            omega
          · have h8 : lead l ≤ 8 := by omega
            have hz128 : l[lead l] < 128 := by rw [← hg]; exact hst
            have hp : 128 ^ lead l ≤ 128 ^ 8 := Nat.pow_le_pow_right (by omega) h8
            have : 128 ^ lead l * l[lead l] ≤ 128 ^ 8 * 127 := Nat.mul_le_mul hp (by omega)
            omega

/-! ### Numbers with a sign -/
def zig (n : Int) : Nat := if 0 ≤ n then (n * 2).toNat else ((-(n + 1)) * 2 + 1).toNat
def zag (v : Nat) : Int := if v % 2 = 1 then -((v / 2 : Nat) : Int) - 1 else ((v / 2 : Nat) : Int)
theorem zag_zig (n : Int) : zag (zig n) = n := by
  unfold zag zig
  split <;> split <;> omega
theorem zig_zag (v : Nat) : zig (zag v) = v := by
  unfold zag zig
  split <;> split <;> omega
theorem zig_lt {n : Int} (h1 : -9223372036854775808 ≤ n) (h2 : n ≤ 9223372036854775807) : zig n < 18446744073709551616 := by
  unfold zig
  split <;> omega
theorem zag_range {v : Nat} (h : v < 18446744073709551616) : -9223372036854775808 ≤ zag v ∧ zag v ≤ 9223372036854775807 := by
  unfold zag
  split <;> omega

/-! ### Reading byte by byte -/
def Got.v : Got → Nat | .bad _ => 0 | .ok v _ => v
def Got.e : Got → Nat | .bad e => e | .ok _ _ => 0
def Got.n (l : List Nat) : Got → Nat | .bad _ => 0 | .ok _ r => l.length - r.length
def Got.r : Got → List Nat | .bad _ => [] | .ok _ r => r
theorem lead_ge : ∀ (l : List Nat) (k : Nat), (∀ y ∈ l.take k, 128 ≤ y) → k ≤ l.length → k ≤ lead l
  | _, 0, _, _ => Nat.zero_le _
  | [], k + 1, _, hk => by simp at hk
  | z :: l, k + 1, h, hk => by
    rw [List.take_succ_cons] at h
    have hz := h z (by simp)
    have := lead_ge l k (fun y hy => h y (by simp [hy])) (by simpa using hk)
    simp only [lead]
    rw [if_pos hz]
    omega
theorem lead_eq : ∀ (l : List Nat) (k : Nat), (∀ y ∈ l.take k, 128 ≤ y) → (hk : k < l.length) → l[k] < 128 → lead l = k
  | [], k, _, hk, _ => by simp at hk
  | z :: l, 0, _, _, h => by
    simp only [List.getElem_cons_zero] at h
    simp only [lead]
    rw [if_neg (by omega)]
  | z :: l, k + 1, h, hk, hb => by
    rw [List.take_succ_cons] at h
    have hz := h z (by simp)
    have := lead_eq l k (fun y hy => h y (by simp [hy])) (by simpa using hk) (by simpa using hb)
    simp only [lead]
    rw [if_pos hz, this]
theorem getD_at {l : List Nat} {k : Nat} (hk : k < l.length) : l.getD k 0 = l[k] := by simp [List.getD, hk]
/-- the tenth is above 1 -/
theorem read_tenth {l : List Nat} (h : ∀ y ∈ l.take 9, 128 ≤ y) (hk : 9 < l.length) (hx : 1 < l[9]) : read l = .bad 10 := by
  have hg := lead_ge l 9 h (by omega)
  unfold read
  by_cases h10 : 10 ≤ lead l
  · have hm : min (lead l) 10 = 10 := by omega
    simp only [hm, if_true]
  · have h9 : lead l = 9 := by omega
    have hm : min (lead l) 10 = 9 := by omega
    simp only [hm]
    rw [if_neg (by omega), if_neg (by omega), if_pos]
    refine .inl ⟨by first | trivial | omega, ?_⟩
    rw [getD_at hk]
    exact hx
theorem read_zero {l : List Nat} {k : Nat} (h : ∀ y ∈ l.take k, 128 ≤ y) (hk : k < l.length) (h9 : k ≤ 9) (h0 : 0 < k) (hx : l[k] = 0) : read l = .bad 10 := by
  have hl := lead_eq l k h hk (by omega)
  have hm : min k 10 = k := by omega
  unfold read
  simp only [hl, hm]
  rw [if_neg (by omega), if_neg (by omega), if_pos]
  refine .inr ⟨h0, ?_⟩
  rw [getD_at hk]
  exact hx
theorem read_done {l : List Nat} {k : Nat} (h : ∀ y ∈ l.take k, 128 ≤ y) (hk : k < l.length) (h9 : k ≤ 9) (hx : l[k] < 128) (ht : k = 9 → l[k] ≤ 1) (h0 : 0 < k → l[k] ≠ 0) :
    read l = .ok (num (l.take (k + 1))) (l.drop (k + 1)) := by
  have hl := lead_eq l k h hk hx
  have hm : min k 10 = k := by omega
  unfold read
  simp only [hl, hm]
  rw [if_neg (by omega), if_neg (by omega), if_neg]
  rintro (⟨e, hb⟩ | ⟨e, hb⟩)
  · subst e
    rw [getD_at hk] at hb
    have := ht rfl
    omega
  · rw [getD_at hk] at hb
    exact h0 e hb
theorem read_short {l : List Nat} (h : ∀ y ∈ l, 128 ≤ y) (h9 : l.length ≤ 9) : read l = .bad 16 := by
  have hg := lead_ge l l.length (by simpa using h) (Nat.le_refl _)
  have hle := lead_le l
  have hl : lead l = l.length := by omega
  have hm : min l.length 10 = l.length := by omega
  unfold read
  simp only [hl, hm]
  rw [if_neg (by omega), if_true]
theorem num_snoc {l : List Nat} {k : Nat} (hk : k < l.length) : num (l.take (k + 1)) = num (l.take k) + 128 ^ k * (l[k] % 128) := by
  rw [List.take_succ_eq_append_getElem hk, num_append, List.length_take, show min k l.length = k by omega]
  simp [num]
theorem num_take_lt (l : List Nat) (k : Nat) : num (l.take k) < 128 ^ k := by
  have := num_lt (l.take k)
  have h2 : 128 ^ (l.take k).length ≤ 128 ^ k := Nat.pow_le_pow_right (by omega) (by rw [List.length_take]; omega)
  omega
theorem all_snoc {l : List Nat} {k : Nat} (h : ∀ y ∈ l.take k, 128 ≤ y) (hk : k < l.length) (hx : 128 ≤ l[k]) : ∀ y ∈ l.take (k + 1), 128 ≤ y := by
  intro y hy
  rw [List.take_succ_eq_append_getElem hk] at hy
  rcases List.mem_append.1 hy with hy | hy
  · exact h y hy
  · simp at hy
    omega
end Go.Proofs.YtoipokjoklhfjaaDoor.numb
