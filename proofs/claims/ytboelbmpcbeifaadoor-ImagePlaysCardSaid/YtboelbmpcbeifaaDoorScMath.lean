/-
  The plain mathematics of the sum: one step on whole numbers, its linearity, the sum of a row of bytes; no word of the program.
-/
import Derived.Laws.BitsAllLaws
namespace Go.Proofs.YtboelbmpcbeifaaDoor.crcm

/-- one of the eight steps -/
def st (r : Nat) : Nat := if r % 2 = 1 then (r / 2) ^^^ 3988292384 else r / 2
def sts : Nat → Nat → Nat
  | 0, r => r
  | k + 1, r => sts k (st r)

theorem xor_mod2 (a b : Nat) : (a ^^^ b) % 2 = (a % 2 + b % 2) % 2 := by
  have h := Nat.xor_mod_two_pow (a := a) (b := b) (n := 1)
  simp only [Nat.pow_one] at h
  rw [h]
  rcases Nat.mod_two_eq_zero_or_one a with ha | ha <;> rcases Nat.mod_two_eq_zero_or_one b with hb | hb <;> rw [ha, hb] <;> rfl
theorem xor_div2 (a b : Nat) : (a ^^^ b) / 2 = (a / 2) ^^^ (b / 2) := by
  have h := Nat.shiftRight_xor_distrib (a := a) (b := b) (i := 1)
  simpa [Nat.shiftRight_eq_div_pow] using h

theorem st_xor (a b : Nat) : st (a ^^^ b) = st a ^^^ st b := by
  unfold st
  rw [xor_mod2, xor_div2]
  rcases Nat.mod_two_eq_zero_or_one a with ha | ha <;> rcases Nat.mod_two_eq_zero_or_one b with hb | hb <;> rw [ha, hb] <;> simp
  · rw [Nat.xor_assoc]
  · rw [Nat.xor_assoc, Nat.xor_assoc, Nat.xor_comm 3988292384]
  · rw [Nat.xor_comm (b / 2), Nat.xor_assoc, ← Nat.xor_assoc 3988292384, Nat.xor_self, Nat.zero_xor]
theorem sts_xor (k a b : Nat) : sts k (a ^^^ b) = sts k a ^^^ sts k b := by
  induction k generalizing a b with
  | zero => rfl
  | succ k ih => simp only [sts, st_xor, ih]
theorem st_zero : st 0 = 0 := rfl
theorem sts_zero (k : Nat) : sts k 0 = 0 := by
  induction k with
  | zero => rfl
  | succ k ih => simp only [sts, st_zero, ih]
theorem sts_add (j k r : Nat) : sts (j + k) r = sts k (sts j r) := by
  induction j generalizing r with
  | zero => simp [sts]
  | succ j ih => rw [Nat.succ_add]; simp only [sts, ih]
theorem st_double (a : Nat) : st (a * 2) = a := by
  unfold st
  rw [if_neg (by omega)]
  omega
theorem sts_shift (k a : Nat) : sts k (a * 2 ^ k) = a := by
  induction k with
  | zero => simp [sts]
  | succ k ih => rw [Nat.pow_succ, ← Nat.mul_assoc]; simp only [sts, st_double, ih]

theorem st_lt {r : Nat} (h : r < 4294967296) : st r < 4294967296 := by
  unfold st
  split
  · exact Nat.xor_lt_two_pow (n := 32) (by omega) (by omega)
  · omega
theorem sts_lt (k : Nat) {r : Nat} (h : r < 4294967296) : sts k r < 4294967296 := by
  induction k generalizing r with
  | zero => exact h
  | succ k ih => exact ih (st_lt h)
/-- nothing but nought goes to nought -/
theorem st_ne {r : Nat} (h : r < 4294967296) (h0 : r ≠ 0) : st r ≠ 0 := by
  unfold st
  split
  · intro hx
    have he : r / 2 = 3988292384 := by
      have := congrArg (· ^^^ 3988292384) hx
      simpa [Nat.xor_assoc] using this
    omega
  · omega
theorem sts_ne (k : Nat) {r : Nat} (h : r < 4294967296) (h0 : r ≠ 0) : sts k r ≠ 0 := by
  induction k generalizing r with
  | zero => exact h0
  | succ k ih => exact ih (st_lt h) (st_ne h h0)

/-- a byte more -/
def by8 (r z : Nat) : Nat := sts 8 (r ^^^ z)
/-- a row of bytes more -/
def crc (r : Nat) (l : List Nat) : Nat := l.foldl by8 r
/-- all of them are bytes -/
def AreBytes (l : List Nat) : Prop := ∀ z ∈ l, z < 256

theorem AreBytes.at_ {l : List Nat} (h : AreBytes l) {k : Nat} (hk : k < l.length) : l[k] < 256 := h _ (List.getElem_mem hk)
theorem AreBytes.take {l : List Nat} (h : AreBytes l) (k : Nat) : AreBytes (l.take k) := fun z hz => h z (List.mem_of_mem_take hz)
theorem AreBytes.drop {l : List Nat} (h : AreBytes l) (k : Nat) : AreBytes (l.drop k) := fun z hz => h z (List.mem_of_mem_drop hz)
theorem AreBytes.append {l m : List Nat} (h : AreBytes l) (k : AreBytes m) : AreBytes (l ++ m) := fun z hz => (List.mem_append.1 hz).elim (h z) (k z)
theorem by8_lt {r z : Nat} (h : r < 4294967296) (hz : z < 256) : by8 r z < 4294967296 :=
  sts_lt 8 (Nat.xor_lt_two_pow (n := 32) (by omega) (by omega))
theorem crc_lt {r : Nat} {l : List Nat} (h : r < 4294967296) (hl : AreBytes l) : crc r l < 4294967296 := by
  induction l generalizing r with
  | nil => exact h
  | cons z l ih => exact ih (by8_lt h (hl z (by simp))) fun y hy => hl y (by simp [hy])
theorem crc_nil (r : Nat) : crc r [] = r := rfl
theorem crc_cons (r z : Nat) (l : List Nat) : crc r (z :: l) = crc (sts 8 (r ^^^ z)) l := rfl
theorem crc_append (r : Nat) (l m : List Nat) : crc r (l ++ m) = crc (crc r l) m := by simp [crc]
theorem crc_snoc (r : Nat) (l : List Nat) {k : Nat} (hk : k < l.length) : crc r (l.take (k + 1)) = sts 8 (crc r (l.take k) ^^^ l[k]) := by
  rw [List.take_succ_eq_append_getElem hk, crc_append]
  rfl

/-! ### The tables' part: a step of four, or of eight, is told by nibbles -/
theorem split_at (k x : Nat) : (x % 2 ^ k) ^^^ (x / 2 ^ k * 2 ^ k) = x := by
  apply Nat.eq_of_testBit_eq
  intro i
  rw [Nat.testBit_xor, Nat.testBit_mod_two_pow, Nat.testBit_mul_two_pow, Nat.testBit_div_two_pow]
  by_cases h : i < k
  · have h' : ¬ k ≤ i := by omega
    simp [h, h']
  · have h' : k ≤ i := by omega
    have e : i - k + k = i := by omega
    simp [h, h', e]
theorem nib {m k : Nat} (hm : m = 4 + k) (x : Nat) : sts m x = sts m (x % 16) ^^^ sts k (x / 16) := by
  subst hm
  have h := split_at 4 x
  rw [show (2 : Nat) ^ 4 = 16 from rfl] at h
  have e : sts (4 + k) (x / 16 * 16) = sts k (x / 16) := by
    rw [sts_add]
    exact congrArg (sts k) (sts_shift 4 (x / 16))
  rw [← e, ← sts_xor, h]

/-- the tables, one row behind the other -/
def tabN (j : Nat) : Nat := sts (4 + 4 * (j / 16)) (j % 16)
theorem tabN_lt {j : Nat} : tabN j < 4294967296 := sts_lt _ (by omega)
theorem tab_at {m i j : Nat} (k : Nat) (h : i < 16) (hm : m = 4 + 4 * k) (hj : j = 16 * k + i) : sts m i = tabN j := by
  subst hm hj
  unfold tabN
  rw [show (16 * k + i) / 16 = k by omega, show (16 * k + i) % 16 = i by omega]

/-- one byte by two looks -/
theorem one_sum (x : Nat) : sts 8 x = (x / 256) ^^^ tabN (16 + x % 16) ^^^ tabN (x / 16 % 16) := by
  rw [nib (k := 4) rfl x, nib (k := 0) rfl (x / 16), tab_at (j := 16 + x % 16) 1 (by omega) rfl (by omega), tab_at (j := x / 16 % 16) 0 (by omega) rfl (by omega), Nat.div_div_eq_div_mul]
  show tabN (16 + x % 16) ^^^ (tabN (x / 16 % 16) ^^^ x / 256) = _
  rw [Nat.xor_comm (tabN (x / 16 % 16)), ← Nat.xor_assoc, Nat.xor_comm (tabN (16 + x % 16))]

/-- four bytes by eight looks -/
theorem four_sum (x : Nat) (hx : x < 4294967296) : sts 32 x = tabN (112 + x % 16) ^^^ tabN (96 + x / 16 % 16) ^^^ tabN (80 + x / 256 % 16) ^^^ tabN (64 + x / 4096 % 16) ^^^
    tabN (48 + x / 65536 % 16) ^^^ tabN (32 + x / 1048576 % 16) ^^^ tabN (16 + x / 16777216 % 16) ^^^ tabN (x / 268435456) := by
  rw [nib (k := 28) rfl x, nib (k := 24) rfl (x / 16), nib (k := 20) rfl (x / 16 / 16), nib (k := 16) rfl (x / 16 / 16 / 16), nib (k := 12) rfl (x / 16 / 16 / 16 / 16), nib (k := 8) rfl (x / 16 / 16 / 16 / 16 / 16),
    nib (k := 4) rfl (x / 16 / 16 / 16 / 16 / 16 / 16)]
  simp only [Nat.div_div_eq_div_mul, Nat.reduceMul]
  rw [tab_at (j := 112 + x % 16) 7 (by omega) rfl (by omega), tab_at (j := 96 + x / 16 % 16) 6 (by omega) rfl (by omega), tab_at (j := 80 + x / 256 % 16) 5 (by omega) rfl (by omega),
    tab_at (j := 64 + x / 4096 % 16) 4 (by omega) rfl (by omega), tab_at (j := 48 + x / 65536 % 16) 3 (by omega) rfl (by omega), tab_at (j := 32 + x / 1048576 % 16) 2 (by omega) rfl (by omega),
    tab_at (j := 16 + x / 16777216 % 16) 1 (by omega) rfl (by omega), tab_at (j := x / 268435456) 0 (by omega) rfl (by omega)]
  simp only [Nat.xor_assoc]
/-- four bytes are one behind the other -/
theorem byte_more (k r m : Nat) : sts (8 + k) (r ^^^ m) = sts k (sts 8 (r ^^^ m % 256) ^^^ m / 256) := by
  have h := split_at 8 m
  rw [show (2 : Nat) ^ 8 = 256 from rfl] at h
  have e : sts 8 (m / 256 * 256) = m / 256 := sts_shift 8 (m / 256)
  rw [sts_add]
  congr 1
  rw [sts_xor, sts_xor, Nat.xor_assoc]
  congr 1
  rw [← e, ← sts_xor, h]
theorem four_by {r a b c d : Nat} (ha : a < 256) (hb : b < 256) (hc : c < 256) :
    sts 32 (r ^^^ (a + b * 256 + c * 65536 + d * 16777216)) = sts 8 (sts 8 (sts 8 (sts 8 (r ^^^ a) ^^^ b) ^^^ c) ^^^ d) := by
  have h1 := byte_more 24 r (a + b * 256 + c * 65536 + d * 16777216)
  rw [show (a + b * 256 + c * 65536 + d * 16777216) % 256 = a by omega, show (a + b * 256 + c * 65536 + d * 16777216) / 256 = b + c * 256 + d * 65536 by omega] at h1
  have h2 := byte_more 16 (sts 8 (r ^^^ a)) (b + c * 256 + d * 65536)
  rw [show (b + c * 256 + d * 65536) % 256 = b by omega, show (b + c * 256 + d * 65536) / 256 = c + d * 256 by omega] at h2
  have h3 := byte_more 8 (sts 8 (sts 8 (r ^^^ a) ^^^ b)) (c + d * 256)
  rw [show (c + d * 256) % 256 = c by omega, show (c + d * 256) / 256 = d by omega] at h3
  exact h1.trans (h2.trans h3)

/-! ### The sum of three rows -/
theorem by8_three (r s t : Nat) (x y z : Nat) : sts 8 ((r ^^^ s ^^^ t) ^^^ (x ^^^ y ^^^ z)) = sts 8 (r ^^^ x) ^^^ sts 8 (s ^^^ y) ^^^ sts 8 (t ^^^ z) := by
  simp only [sts_xor]
  ac_rfl

theorem crc_three (r s t : Nat) (l : List (Nat × Nat × Nat)) :
    crc (r ^^^ s ^^^ t) (l.map fun p => p.1 ^^^ p.2.1 ^^^ p.2.2) = crc r (l.map (·.1)) ^^^ crc s (l.map (·.2.1)) ^^^ crc t (l.map (·.2.2)) := by
  induction l generalizing r s t with
  | nil => rfl
  | cons p l ih => simp only [List.map_cons, crc_cons, by8_three, ih]

/-! ### A row of bytes as one number: the first byte lowest -/
def val : List Nat → Nat
  | [] => 0
  | z :: l => z ^^^ (val l * 256)
theorem crc_val (r : Nat) (l : List Nat) : crc r l = sts (8 * l.length) (r ^^^ val l) := by
  induction l generalizing r with
  | nil => simp [crc, val, sts]
  | cons z l ih =>
    rw [crc_cons, ih, show 8 * (z :: l).length = 8 + 8 * l.length by simp [List.length_cons]; omega, sts_add]
    congr 1
    have e : sts 8 (val l * 256) = val l := sts_shift 8 (val l)
    rw [val, ← Nat.xor_assoc, sts_xor 8 (r ^^^ z), e]
/-- a byte that is turned -/
theorem val_set (l : List Nat) (j y : Nat) (hj : j < l.length) : val (l.set j (l[j] ^^^ y)) = val l ^^^ y * 256 ^ j := by
  induction l generalizing j with
  | nil => simp at hj
  | cons x l ih =>
    cases j with
    | zero =>
      simp only [List.getElem_cons_zero, List.set_cons_zero, val, Nat.pow_zero, Nat.mul_one]
      ac_rfl
    | succ j =>
      have h := ih j (by simpa using hj)
      simp only [List.getElem_cons_succ, List.set_cons_succ, val, h, Nat.pow_succ, ← Nat.mul_assoc]
      have e : ∀ p q : Nat, (p ^^^ q) * 256 = p * 256 ^^^ q * 256 := fun p q => by
        have := Nat.shiftLeft_xor_distrib (a := p) (b := q) (i := 8)
        simpa [Nat.shiftLeft_eq] using this
      rw [e, ← Nat.xor_assoc]
/-- two rows of as many bytes that differ in e, from a bit on -/
theorem crc_burst (r : Nat) (l m : List Nat) (at_ e : Nat) (hn : m.length = l.length) (hv : val m = val l ^^^ e * 2 ^ at_) (ha : at_ ≤ 8 * l.length) (he : e < 4294967296) : (crc r l = crc r m) ↔ e = 0 := by
  have h : crc r m = crc r l ^^^ sts (8 * l.length - at_) e := by
    rw [crc_val, crc_val, hn, hv, ← Nat.xor_assoc, sts_xor (8 * l.length)]
    congr 1
    have : 8 * l.length = at_ + (8 * l.length - at_) := by omega
    rw [this, sts_add, sts_shift]
    congr 1
    omega
  rw [h]
  constructor
  · intro hx
    rcases Nat.eq_zero_or_pos e with h0 | h0
    · exact h0
    · have hne := sts_ne (8 * l.length - at_) he (by omega)
      have := congrArg (crc r l ^^^ ·) hx
      simp only [Nat.xor_self, ← Nat.xor_assoc, Nat.zero_xor] at this
      exact absurd this.symm hne
  · intro hx
    rw [hx, sts_zero, Nat.xor_zero]

end Go.Proofs.YtboelbmpcbeifaaDoor.crcm
