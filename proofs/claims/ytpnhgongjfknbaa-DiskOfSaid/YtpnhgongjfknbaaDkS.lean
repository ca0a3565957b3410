/-
  May commands be gone through?
-/
import Derived.Test.YtpnhgongjfknbaaDkOpen
namespace Go.Proofs.Ytpnhgongjfknbaa
open Go.RowKit omap

def smallC (x : Cm) : Bool := decide (x.data.l.length ≤ 200) && decide (x.more.l.length ≤ 200) && decide (x.name.size ≤ 100) && decide (x.to.size ≤ 100) && decide (x.cs.length ≤ 60)
def smallB (l : List Cm) : Bool := l.all smallC && decide (l.length ≤ 60)
theorem smallC_iff {x : Cm} : smallC x = true ↔ x.data.l.length ≤ 200 ∧ x.more.l.length ≤ 200 ∧ x.name.size ≤ 100 ∧ x.to.size ≤ 100 ∧ x.cs.length ≤ 60 := by
  simp only [smallC, Bool.and_eq_true, decide_eq_true_eq, and_assoc]
set_option maxRecDepth 100000 in
set_option maxHeartbeats 4000000 in
theorem small_any (A : Option Addr) (l : List Cm) (c : Nat) (w : World) (hr : CmRow w A l) (hn : l.length ≤ 9223372036854775807) :
    Calls Try.prog 8 #[.slice A l.length c] w fun e w' => e = .returned (.bool (smallB l)) ∧ Below w.heap.size w w' := by
  have HROW := Lib.hid hr
  have HN := Lib.hid hn
  clear hr hn
  go_enter Try.func8, Try.ntmps8
  go_wp2_with (fail)
  go_loopw [7] (fun i wr => ∃ k : Nat, k ≤ l.length ∧ i = .int .i64 k ∧ Hid ((l.take k).all smallC = true) ∧ Hid (Below w.heap.size w wr)) (fun i _ => l.length - (intOf i).toNat)
  case atStart => exact ⟨0, Nat.zero_le _, rfl, rfl, Below.refl _ _⟩
  case round =>
    obtain ⟨k, hk, rfl, hall, hb⟩ := hrel
    by_cases hlt : k < l.length
    · have hkb : (k : Int) ≤ 9223372036854775806 := by have := HN.out; omega
      obtain ⟨rb, off, ra, hcell⟩ := (HROW.out.below hb.out) (by omega)
      subst ra
      obtain ⟨q0, q1, q2, q3, q4, q5, q6⟩ := hcell k hlt
      have hsucc : (l.take (k + 1)).all smallC = smallC l[k] := by
        rw [List.take_succ_eq_append_getElem hlt, List.all_append, hall.out]
        simp
      have hwhole : smallC l[k] = false → smallB l = false := fun h => by
        unfold smallB
        rw [Bool.and_eq_false_iff]
        left
        rw [List.all_eq_false]
        exact ⟨l[k], List.getElem_mem hlt, by rw [h]; simp⟩
      obtain ⟨x, hx⟩ : ∃ x, x = l[k] := ⟨_, rfl⟩
      rw [← hx] at q0 q1 q2 q3 q4 q5 q6 hsucc hwhole
      have hbl : rb < wr.heap.size := World.block_lt_of_cell? wr _ q0
      have HSU := Lib.hid hsucc
      have HWH := Lib.hid hwhole
      obtain ⟨kind, name, to, data, more, n, cA, cs, cc⟩ := x
      unfold Part.v at q3 q4
      simp only at q0 q1 q2 q3 q4 q5 q6
      have HB2 : Hid (Below w.heap.size w (wr.alloc (.cells #[.int .i64 kind, .string name, .string to, .slice data.a data.l.length data.c, .slice more.a more.l.length more.c, .int .i64 n, .slice cA cs.length cc] 38))) := hb.out.trans (((Below.refl _ _).alloc (Nat.le_refl _) _).mono hb.out.size)
      cases hsm : smallC ⟨kind, name, to, data, more, n, cA, cs, cc⟩ with
      | true =>
        obtain ⟨s1, s2, s3, s4, s5⟩ := smallC_iff.1 hsm
        simp only at s1 s2 s3 s4 s5
        have t1 : decide ((200 : Int) < (data.l.length : Int)) = false := by simp; omega
        have t2 : decide ((200 : Int) < (more.l.length : Int)) = false := by simp; omega
        have t3 : decide ((100 : Int) < (name.size : Int)) = false := by simp; omega
        have t4 : decide ((100 : Int) < (to.size : Int)) = false := by simp; omega
        have t5 : decide ((60 : Int) < (cs.length : Int)) = false := by simp; omega
        have HSM : Hid ((l.take (k + 1)).all smallC = true) := HSU.out.trans hsm
        clear hcell hx hsucc hwhole hsm s1 s2 s3 s4 s5
        go_wp2_with (fail)
        go_roundw
        case rel => exact ⟨k + 1, by omega, by go_num, HSM.out, HB2.out⟩
        case measure => simp [intOf]; omega
      | false =>
        have HF : Hid (smallB l = false) := HWH.out hsm
        have HNS : Hid (¬ (data.l.length ≤ 200 ∧ more.l.length ≤ 200 ∧ name.size ≤ 100 ∧ to.size ≤ 100 ∧ cs.length ≤ 60)) := fun h => by
          have : smallC ⟨kind, name, to, data, more, n, cA, cs, cc⟩ = true := smallC_iff.2 h
          rw [hsm] at this
          cases this
        clear hcell hx hsucc hwhole hsm
        go_wp2_with (fail)
        all_goals first
          | (go_ret
             rw [HF.out]
             exact ⟨rfl, HB2.out⟩)
          | (exfalso
             exact HNS.out ⟨by omega, by omega, by omega, by omega, by omega⟩)
    · have hk' : k = l.length := by omega
      subst hk'
      have HE : Hid (smallB l = decide (l.length ≤ 60)) := by
        have := hall.out
        rw [List.take_length] at this
        show _ = _
        unfold smallB
        rw [this, Bool.true_and]
      have te : decide ((l.length : Int) ≤ 60) = decide (l.length ≤ 60) := by
        congr 1
        exact propext (by omega)
      clear hall hlt
      go_wp2_with (fail)
      go_ret
      rw [HE.out]
      exact ⟨by simp, hb.out⟩
end Go.Proofs.Ytpnhgongjfknbaa
