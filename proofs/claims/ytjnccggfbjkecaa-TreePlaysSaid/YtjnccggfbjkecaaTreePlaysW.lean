/-
  Layer 12: TreePlays.
-/
import Derived.Test.YtjnccggfbjkecaaTtE
namespace Go.Proofs.Ytjnccggfbjkecaa
open Go.RowKit trm

set_option maxRecDepth 100000 in
set_option maxHeartbeats 4000000 in
theorem plays_in (A : Option Addr) (l : List O4) (c : Nat) (w : World) (hr : OpRow w A l) (ho : ∀ o ∈ l, o.ok) (hm : l.length ≤ 9223372036854775807) :
    Calls Try.prog 3 #[.slice A l.length c] w fun e w' => e = .returned (.bool true) ∧ Below w.heap.size w w' := by
  by_cases h60 : 60 < l.length
  · have t0 : decide ((60 : Int) < (l.length : Int)) = true := decide_eq_true (by omega)
    clear hr ho h60
    go_enter Try.func3, Try.ntmps3
    go_wp2_with (fail)
    refine (awake_any w).mono ?_
    rintro e w1 ⟨rfl, hb⟩
    have HB := Lib.hid hb
    clear hb
    go_wp2_with (fail)
    go_ret
    exact ⟨rfl, HB.out⟩
  have t0 : decide ((60 : Int) < (l.length : Int)) = false := decide_eq_false (by omega)
  have HL : Hid (l.length ≤ 60) := Nat.le_of_not_lt h60
  have HR := Lib.hid hr
  have HO := Lib.hid ho
  clear hr ho h60
  go_enter Try.func3, Try.ntmps3
  go_wp2_with (fail)
  refine (tnew w).mono ?_
  rintro e w1 ⟨b, s, rfl, hT, hb, hf⟩
  have HM := Lib.hid (MyPlay.made hb hT hf)
  have HT := Lib.hid hT
  have HB := Lib.hid hb
  clear hT hb hf
  go_wp2_with (fail)
  generalize w1.alloc (.cells #[.pointer (some ⟨b, 0, none⟩), .slice none 0 0] tPlay) = w2 at *
  generalize w1.heap.size = g at *
  clear HT HB
  go_loopw [20] (fun x wr => ∃ k : Nat, k ≤ l.length ∧ x = .int .i64 k ∧ Hid (MyPlay w g b (runT [] (l.take k)) wr)) (fun x _ => l.length - (intOf x).toNat)
  case atStart => exact ⟨0, Nat.zero_le _, rfl, HM.out⟩
  case round =>
    obtain ⟨k, hk, rfl, HK⟩ := hrel
    by_cases hlt : k < l.length
    · have t1 : decide (k < l.length) = true := by simpa using hlt
      have HLT := Lib.hid hlt
      have hkb : (k : Int) ≤ 10000 := by have := HL.out; omega
      obtain ⟨b1, o1, rA, k1⟩ := HR.out.in_ hlt
      subst rA
      obtain ⟨c1, c2, c3, c4⟩ := k1 _ HK.out.bel
      have HOK := Lib.hid (HO.out _ (List.getElem_mem hlt))
      have HS := Lib.hid (runT_snoc [] hlt)
      have HN : Hid ((runT [] (l.take k)).length ≤ 1000) := by
        have h1 := (runT_ok ok_nil (l.take k)).2
        rw [List.length_take, List.length_nil] at h1
        have := HL.out
        show _ ≤ _
        omega
      have HN1 : Hid ((runT [] (l.take (k + 1))).length ≤ 1000) := by
        have h1 := (runT_ok ok_nil (l.take (k + 1))).2
        rw [List.length_take, List.length_nil] at h1
        have := HL.out
        show _ ≤ _
        omega
      clear k1
      generalize l[k] = o at *
      generalize runT [] (l.take k) = T0 at *
      obtain ⟨T1, hT1⟩ : ∃ x, runT [] (l.take (k + 1)) = x := ⟨_, rfl⟩
      have HT1 := Lib.hid hT1
      rw [hT1] at HS HN1
      clear hT1
      obtain ⟨ok, oi, op, on⟩ := o
      simp only at c1 c2 c3 c4
      go_wp2_with (fail)
      have hb1 : Below wr.heap.size wr (wr.alloc (.cells #[.int .i64 ok, .int .i64 oi, .int .i64 op, .int .i64 on] tOp)) := (Below.refl _ _).alloc (Nat.le_refl _) _
      refine ((HK.out.below hb1).step HN.out ⟨ok, oi, op, on⟩ HOK.out).mono ?_
      rintro e w3 ⟨rfl, hm3⟩
      rw [← HS.out] at hm3
      have HM3 := Lib.hid hm3
      clear hm3 hb1 c1 c2 c3 c4 HK
      go_wp2_with (fail)
      refine (HM3.out.is HN1.out).mono ?_
      rintro e w4 ⟨rfl, hm4⟩
      have HM4 := Lib.hid hm4
      clear hm4 HM3
      go_wp2_with (fail)
      go_roundw
      case rel => exact ⟨k + 1, HLT.out, by go_num, by rw [HT1.out]; exact HM4⟩
      case measure => have := HLT.out; simp [intOf]; omega
    · obtain rfl : k = l.length := by omega
      have t1 : decide (l.length < l.length) = false := by simp
      have HBK := Lib.hid HK.out.bel
      clear HK
      go_wp2_with (fail)
      refine (awake_any wr).mono ?_
      rintro e w3 ⟨rfl, hb3⟩
      have HB3 := Lib.hid hb3
      clear hb3
      go_wp2_with (fail)
      go_ret
      exact ⟨rfl, HBK.out.trans (HB3.out.mono HBK.out.size)⟩
end Go.Proofs.Ytjnccggfbjkecaa
