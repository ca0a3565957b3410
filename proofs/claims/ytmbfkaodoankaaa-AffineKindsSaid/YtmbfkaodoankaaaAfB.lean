/-
  Layer 8: Shift, Scale, One, Turn; the document's own Right and Take; two maps, two points compared.
-/
import Derived.Test.YtmbfkaodoankaaaAfA
import Derived.Laws.BitsLemmas
namespace Go.Proofs.Ytmbfkaodoankaaa
open Go.RowKit

theorem i64_and3 (n : Int) : bits .and .i64 n 3 = n % 4 := by
  have h3 : (BitVec.ofInt 64 3).toNat = 2 ^ 2 - 1 := by decide
  have key : (BitVec.ofInt 64 n &&& BitVec.ofInt 64 3).toNat = (n % ((2 ^ 64 : Nat) : Int)).toNat % 2 ^ 2 := by
    rw [BitVec.toNat_and, BitVec.toNat_ofInt, h3, Nat.and_two_pow_sub_one_eq_mod]
  show IntKind.i64.wrap ((BitVec.ofInt 64 n &&& BitVec.ofInt 64 3).toNat : Nat) = n % 4
  rw [key, IntKind.wrap_i64]
  omega
theorem i64_and16 (n : Int) : bits .and .i64 n 65535 = n % 65536 := by
  have h3 : (BitVec.ofInt 64 65535).toNat = 2 ^ 16 - 1 := by decide
  have key : (BitVec.ofInt 64 n &&& BitVec.ofInt 64 65535).toNat = (n % ((2 ^ 64 : Nat) : Int)).toNat % 2 ^ 16 := by
    rw [BitVec.toNat_and, BitVec.toNat_ofInt, h3, Nat.and_two_pow_sub_one_eq_mod]
  show IntKind.i64.wrap ((BitVec.ofInt 64 n &&& BitVec.ofInt 64 65535).toNat : Nat) = n % 65536
  rw [key, IntKind.wrap_i64]
  omega

theorem mp_shift (x y : Int) (w : World) : Calls Try.prog 20 #[.int .i64 x, .int .i64 y] w fun e w' => e = .returned (Mp.v ⟨65536, 0, 0, 65536, x, y⟩) ∧ Below w.heap.size w w' := by
  go_enter Try.func20, Try.ntmps20
  go_wp2_with (fail)
  exact blk_ret rfl rfl (blk_at _ _ (by simp) (Mp.cs ⟨65536, 0, 0, 65536, x, y⟩) _) Try.underlying23 rfl (by kernel_rfl) ⟨rfl, (Below.refl _ _).alloc (Nat.le_refl _) _⟩
theorem mp_scale (x y : Int) (w : World) : Calls Try.prog 22 #[.int .i64 x, .int .i64 y] w fun e w' => e = .returned (Mp.v ⟨x, 0, 0, y, 0, 0⟩) ∧ Below w.heap.size w w' := by
  go_enter Try.func22, Try.ntmps22
  go_wp2_with (fail)
  exact blk_ret rfl rfl (blk_at _ _ (by simp) (Mp.cs ⟨x, 0, 0, y, 0, 0⟩) _) Try.underlying23 rfl (by kernel_rfl) ⟨rfl, (Below.refl _ _).alloc (Nat.le_refl _) _⟩
def Mp.one : Mp := ⟨65536, 0, 0, 65536, 0, 0⟩
theorem mp_one (w : World) : Calls Try.prog 24 #[] w fun e w' => e = .returned Mp.one.v ∧ Below w.heap.size w w' := by
  go_enter Try.func24, Try.ntmps24
  go_wp2_with (fail)
  refine (mp_scale 65536 65536 _).mono ?_
  rintro e w1 ⟨rfl, hb⟩
  have br : Blk w1 w.heap.size Mp.o.cs := (blk_new w Mp.o.cs _).below hb (by simp)
  have HB : Hid (Below w.heap.size w w1) := ((Below.refl _ _).alloc (Nat.le_refl _) _).trans (hb.mono (by simp))
  have HR := Lib.hid br
  unfold Mp.v
  simp only
  obtain ⟨⟨c0, c1, c2, c3, c4, c5⟩, ⟨f0, f1, f2, f3, f4, f5⟩, -⟩ := Blk.c6 br
  clear hb br
  go_wp2_with (fail)
  exact blk_ret rfl rfl (Blk.put6 HR.out _ _ _ _ _ _) Try.underlying23 rfl (by kernel_rfl) ⟨rfl, below6 HB.out (Nat.le_refl _) _ _ _ _ _ _⟩
def Mp.turn (q : Int) : Mp := if q % 4 = 1 then ⟨0, 65536, -65536, 0, 0, 0⟩ else if q % 4 = 2 then ⟨-65536, 0, 0, -65536, 0, 0⟩ else if q % 4 = 3 then ⟨0, -65536, 65536, 0, 0, 0⟩ else Mp.one
set_option maxHeartbeats 1000000 in
theorem mp_turn (q : Int) (w : World) : Calls Try.prog 23 #[.int .i64 q] w fun e w' => e = .returned (Mp.turn q).v ∧ Below w.heap.size w w' := by
  have HT : Hid (Mp.turn q = if q % 4 = 1 then ⟨0, 65536, -65536, 0, 0, 0⟩ else if q % 4 = 2 then ⟨-65536, 0, 0, -65536, 0, 0⟩ else if q % 4 = 3 then ⟨0, -65536, 65536, 0, 0, 0⟩ else Mp.one) := rfl
  generalize Mp.turn q = T at *
  have hq := i64_and3 q
  have h4 : 0 ≤ q % 4 ∧ q % 4 < 4 := by omega
  generalize q % 4 = r at *
  rcases (by omega : r = 1 ∨ r = 2 ∨ r = 3 ∨ r = 0) with rfl | rfl | rfl | rfl
  · obtain rfl := HT.out.trans (if_pos rfl)
    clear HT h4
    go_enter Try.func23, Try.ntmps23
    go_wp2_with (fail)
    exact blk_ret rfl rfl (blk_at _ _ (by simp) (Mp.cs ⟨0, 65536, -65536, 0, 0, 0⟩) _) Try.underlying23 rfl (by kernel_rfl) ⟨rfl, (Below.refl _ _).alloc (Nat.le_refl _) _⟩
  · obtain rfl := HT.out.trans ((if_neg (by decide)).trans (if_pos rfl))
    clear HT h4
    go_enter Try.func23, Try.ntmps23
    go_wp2_with (fail)
    refine (mp_scale (-65536) (-65536) _).mono ?_
    rintro e w1 ⟨rfl, hb⟩
    have br : Blk w1 w.heap.size Mp.o.cs := (blk_new w Mp.o.cs _).below hb (by simp)
    have HB : Hid (Below w.heap.size w w1) := ((Below.refl _ _).alloc (Nat.le_refl _) _).trans (hb.mono (by simp))
    have HR := Lib.hid br
    unfold Mp.v
    simp only
    obtain ⟨⟨c0, c1, c2, c3, c4, c5⟩, ⟨f0, f1, f2, f3, f4, f5⟩, -⟩ := Blk.c6 br
    clear hb br
    go_wp2_with (fail)
    exact blk_ret rfl rfl (Blk.put6 HR.out _ _ _ _ _ _) Try.underlying23 rfl (by kernel_rfl) ⟨rfl, below6 HB.out (Nat.le_refl _) _ _ _ _ _ _⟩
  · obtain rfl := HT.out.trans ((if_neg (by decide)).trans ((if_neg (by decide)).trans (if_pos rfl)))
    clear HT h4
    go_enter Try.func23, Try.ntmps23
    go_wp2_with (fail)
    exact blk_ret rfl rfl (blk_at _ _ (by simp) (Mp.cs ⟨0, -65536, 65536, 0, 0, 0⟩) _) Try.underlying23 rfl (by kernel_rfl) ⟨rfl, (Below.refl _ _).alloc (Nat.le_refl _) _⟩
  · obtain rfl := HT.out.trans ((if_neg (by decide)).trans ((if_neg (by decide)).trans (if_neg (by decide))))
    clear HT h4
    go_enter Try.func23, Try.ntmps23
    go_wp2_with (fail)
    refine (mp_one _).mono ?_
    rintro e w1 ⟨rfl, hb⟩
    have br : Blk w1 w.heap.size Mp.o.cs := (blk_new w Mp.o.cs _).below hb (by simp)
    have HB : Hid (Below w.heap.size w w1) := ((Below.refl _ _).alloc (Nat.le_refl _) _).trans (hb.mono (by simp))
    have HR := Lib.hid br
    unfold Mp.v Mp.one
    simp only
    obtain ⟨⟨c0, c1, c2, c3, c4, c5⟩, ⟨f0, f1, f2, f3, f4, f5⟩, -⟩ := Blk.c6 br
    clear hb br
    go_wp2_with (fail)
    exact blk_ret rfl rfl (Blk.put6 HR.out _ _ _ _ _ _) Try.underlying23 rfl (by kernel_rfl) ⟨rfl, below6 HB.out (Nat.le_refl _) _ _ _ _ _ _⟩

/-! ### The document's own -/
theorem mp_ref (m : Mp) (w : World) : Calls Try.prog 8 #[m.v] w fun e w' => e = .returned m.v ∧ Below w.heap.size w w' := by
  obtain ⟨a, b, c, d, e, f⟩ := m
  unfold Mp.v
  simp only
  go_enter Try.func8, Try.ntmps8
  go_wp2_with (fail)
  exact blk_ret rfl rfl (blk_at _ _ (by simp) (Mp.cs ⟨a, b, c, d, e, f⟩) _) Try.underlying28 rfl (by kernel_rfl) ⟨rfl, ((Below.refl _ _).alloc (Nat.le_refl _) _).alloc (by simp) _⟩
theorem Blk.at6 {w : World} {g : Nat} {l : List Int} (h : Blk w g (l.map eI)) {k : Nat} (hk : k < l.length) : w.cell? ⟨g, k, none⟩ = some (.int .i64 l[k]) := by
  rw [h.cell, List.getElem?_map, List.getElem?_eq_getElem hk]
  rfl
set_option maxHeartbeats 1000000 in
theorem mp_dright (m : Mp) (w : World) : Calls Try.prog 7 #[m.v] w fun e w' => e = .returned (.bool m.right) ∧ Below w.heap.size w w' := by
  obtain ⟨a, b, c, d, e, f⟩ := m
  unfold Mp.v Mp.right Mp.l
  simp only
  obtain ⟨l, hl⟩ : ∃ l, [a, b, c, d, e, f] = l := ⟨_, rfl⟩
  have HL : Hid (l.length = 6) := by rw [← hl]; rfl
  have HM : Hid (∀ T, Blk (w.alloc (.cells #[.int .i64 a, .int .i64 b, .int .i64 c, .int .i64 d, .int .i64 e, .int .i64 f] T)) w.heap.size (l.map eI)) := by
    intro T
    rw [← hl]
    exact blk_new w [.int .i64 a, .int .i64 b, .int .i64 c, .int .i64 d, .int .i64 e, .int .i64 f] T
  rw [hl]
  clear hl
  go_enter Try.func7, Try.ntmps7
  go_wp2_with (fail)
  have hB := Lib.hid (HM.out 28)
  have HB : Hid (Below w.heap.size w (w.alloc (.cells #[.int .i64 a, .int .i64 b, .int .i64 c, .int .i64 d, .int .i64 e, .int .i64 f] 28))) := (Below.refl _ _).alloc (Nat.le_refl _) _
  generalize w.alloc (.cells #[.int .i64 a, .int .i64 b, .int .i64 c, .int .i64 d, .int .i64 e, .int .i64 f] 28) = W at *
  clear HM
  go_loop [3] (fun i => ∃ k : Nat, k ≤ 6 ∧ i = .int .i64 k ∧ Hid (allR (l.take k) = true)) (fun i => 6 - (intOf i).toNat)
  case atStart => exact ⟨0, Nat.zero_le _, rfl, by simp [Hid, allR]⟩
  case round =>
    obtain ⟨k, hk, rfl, HK⟩ := hrel
    by_cases hlt : k < 6
    · have hkl : k < l.length := by rw [HL.out]; exact hlt
      have hc := hB.out.at6 hkl
      have hin := hB.out.inside
      have H1 := Lib.hid (allR_snoc HK.out hkl)
      have HN := Lib.hid (allR_bad (l := l) hkl)
      generalize l[k] = x at *
      clear HK
      go_wp2_with (fail)
      refine (dright_any x W).mono ?_
      cases hx : rightB x with
      | true =>
        rw [hx] at H1
        have HB2 := Lib.hid (H1.out rfl)
        clear H1 HN hx
        rintro e w' ⟨rfl, rfl⟩
        go_wp2_with (fail)
        go_round
        case rel => exact ⟨k + 1, by omega, by go_num, HB2⟩
        case measure => simp [intOf]; omega
      | false =>
        rw [hx] at HN
        have HB2 := Lib.hid (HN.out rfl)
        clear H1 HN hx
        rintro e w' ⟨rfl, rfl⟩
        go_wp2_with (fail)
        go_ret
        exact ⟨ret_bool HB2.out.symm, HB.out⟩
    · have hk6 : k = 6 := by omega
      subst hk6
      have HB2 := Lib.hid (allR_take HK.out (by rw [HL.out]; exact Nat.le_refl 6))
      go_wp2_with (fail)
      go_ret
      exact ⟨ret_bool HB2.out.symm, HB.out⟩
end Go.Proofs.Ytmbfkaodoankaaa
