/-
  Layer 9: rows of pixels and parts: Over, Stack, By.
-/
import Derived.Test.YtolekbgbcahfgaaPxB
namespace Go.Proofs.Ytolekbgbcahfgaa
open Go.RowKit pxm

def eP (p : P4) : Value := .int .u32 (p.num : Nat)
def eN (q : Nat) : Value := .int .i64 (q : Nat)
theorem foldl_take {α β : Type} (f : β → α → β) (b : β) {l : List α} {k : Nat} (hk : k < l.length) : (l.take (k + 1)).foldl f b = f ((l.take k).foldl f b) l[k] := by
  rw [List.take_succ_eq_append_getElem hk, List.foldl_append]
  rfl
theorem overAll_take {p : P4} {l : List P4} {k : Nat} (hk : k < l.length) : overAll p (l.take (k + 1)) = (overAll p (l.take k)).over l[k] := foldl_take _ _ hk
theorem stack_take {d : P4} {l : List P4} {k : Nat} (hk : k < l.length) : stack d (l.take (k + 1)) = l[k].over (stack d (l.take k)) := foldl_take _ _ hk
theorem timesAll_take {p : P4} {l : List Nat} {k : Nat} (hk : k < l.length) : timesAll p (l.take (k + 1)) = (timesAll p (l.take k)).times l[k] := foldl_take _ _ hk
theorem right_take {l : List P4} (h : ∀ d ∈ l, d.Right) (k : Nat) : ∀ d ∈ l.take k, d.Right := fun d hd => h d (List.mem_of_mem_take hd)

set_option maxHeartbeats 1000000 in
theorem over_any (p : P4) (hp : p.Right) (A : Option Addr) (l : List P4) (c : Nat) (w : World) (hl : ∀ d ∈ l, d.Right) (hrow : Row eP w A l) (hn : l.length ≤ maxLen) :
    Calls Try.prog 19 #[.int .u32 (p.num : Nat), .slice A l.length c] w fun e w' => e = .returned (.int .u32 ((overAll p l).num : Nat)) ∧ Below w.heap.size w w' := by
  unfold maxLen at hn
  have HROW := Lib.hid hrow
  have HL := Lib.hid hl
  have HP := Lib.hid hp
  clear hrow hl hp
  go_enter Try.func19, Try.ntmps19
  go_wp2_with (fail)
  go_loopw [0, 9] (fun x i wr => ∃ k : Nat, k ≤ l.length ∧ i = .int .i64 k ∧ x = .int .u32 ((overAll p (l.take k)).num : Nat) ∧ Hid (Below w.heap.size w wr)) (fun _ i _ => l.length - (intOf i).toNat)
  case atStart => exact ⟨0, Nat.zero_le _, rfl, rfl, Below.refl _ _⟩
  case round =>
    obtain ⟨k, hk, rfl, rfl, HB⟩ := hrel
    by_cases hlt : k < l.length
    · obtain ⟨b, off, rfl, hc⟩ := Row.at_ (HROW.out.below HB.out) hlt
      unfold eP at hc
      have HS := Lib.hid (overAll_take (p := p) hlt)
      have HC := Lib.hid (mover_any (overAll p (l.take k)) l[k] (overAll_right HP.out (right_take HL.out k)) (HL.out _ (List.getElem_mem hlt)) wr)
      generalize overAll p (l.take k) = q at *
      generalize l[k] = d at *
      go_wp2_with (fail)
      refine HC.out.mono ?_
      rintro e w2 ⟨rfl, hb⟩
      have HB2 := Lib.hid (bel_step HB.out (Nat.le_refl _) hb)
      clear hb HB hc HC
      go_wp2_with (fail)
      go_roundw
      case rel => exact ⟨k + 1, by omega, by go_num, by rw [HS.out], HB2⟩
      case measure => simp [intOf]; omega
    · obtain rfl : k = l.length := by omega
      go_wp2_with (fail)
      go_ret
      exact ⟨ret_num (by rw [List.take_length]), HB.out⟩
set_option maxHeartbeats 1000000 in
theorem stack_any (A : Option Addr) (l : List P4) (c : Nat) (w : World) (hl : ∀ d ∈ l, d.Right) (hrow : Row eP w A l) (hn : l.length ≤ maxLen) :
    Calls Try.prog 20 #[.slice A l.length c] w fun e w' => e = .returned (.int .u32 ((stack zero l).num : Nat)) ∧ Below w.heap.size w w' := by
  unfold maxLen at hn
  have HROW := Lib.hid hrow
  have HL := Lib.hid hl
  clear hrow hl
  go_enter Try.func20, Try.ntmps20
  go_wp2_with (fail)
  go_loopw [3, 8] (fun x i wr => ∃ k : Nat, k ≤ l.length ∧ i = .int .i64 k ∧ x = .int .u32 ((stack zero (l.take k)).num : Nat) ∧ Hid (Below w.heap.size w wr)) (fun _ i _ => l.length - (intOf i).toNat)
  case atStart => exact ⟨0, Nat.zero_le _, rfl, rfl, Below.refl _ _⟩
  case round =>
    obtain ⟨k, hk, rfl, rfl, HB⟩ := hrel
    by_cases hlt : k < l.length
    · obtain ⟨b, off, rfl, hc⟩ := Row.at_ (HROW.out.below HB.out) hlt
      unfold eP at hc
      have HS := Lib.hid (stack_take (d := zero) hlt)
      have HC := Lib.hid (mover_any l[k] (stack zero (l.take k)) (HL.out _ (List.getElem_mem hlt)) (stack_right zero_right (right_take HL.out k)) wr)
      generalize stack zero (l.take k) = q at *
      generalize l[k] = d at *
      go_wp2_with (fail)
      refine HC.out.mono ?_
      rintro e w2 ⟨rfl, hb⟩
      have HB2 := Lib.hid (bel_step HB.out (Nat.le_refl _) hb)
      clear hb HB hc HC
      go_wp2_with (fail)
      go_roundw
      case rel => exact ⟨k + 1, by omega, by go_num, by rw [HS.out], HB2⟩
      case measure => simp [intOf]; omega
    · obtain rfl : k = l.length := by omega
      go_wp2_with (fail)
      go_ret
      exact ⟨ret_num (by rw [List.take_length]), HB.out⟩
set_option maxHeartbeats 1000000 in
theorem bys_any (p : P4) (hp : p.Right) (A : Option Addr) (l : List Nat) (c : Nat) (w : World) (hl : ∀ q ∈ l, q < 256) (hrow : Row eN w A l) (hn : l.length ≤ maxLen) :
    Calls Try.prog 22 #[.int .u32 (p.num : Nat), .slice A l.length c] w fun e w' => e = .returned (.int .u32 ((timesAll p l).num : Nat)) ∧ Below w.heap.size w w' := by
  unfold maxLen at hn
  have HROW := Lib.hid hrow
  have HL := Lib.hid hl
  have HP := Lib.hid hp
  clear hrow hl hp
  go_enter Try.func22, Try.ntmps22
  go_wp2_with (fail)
  go_loopw [0, 9] (fun x i wr => ∃ k : Nat, k ≤ l.length ∧ i = .int .i64 k ∧ x = .int .u32 ((timesAll p (l.take k)).num : Nat) ∧ Hid (Below w.heap.size w wr)) (fun _ i _ => l.length - (intOf i).toNat)
  case atStart => exact ⟨0, Nat.zero_le _, rfl, rfl, Below.refl _ _⟩
  case round =>
    obtain ⟨k, hk, rfl, rfl, HB⟩ := hrel
    by_cases hlt : k < l.length
    · obtain ⟨b, off, rfl, hc⟩ := Row.at_ (HROW.out.below HB.out) hlt
      unfold eN at hc
      have HS := Lib.hid (timesAll_take (p := p) hlt)
      have HC := Lib.hid (mby_any (timesAll p (l.take k)) (timesAll_right HP.out (fun q hq => HL.out q (List.mem_of_mem_take hq))).bytes l[k] (HL.out _ (List.getElem_mem hlt)) wr)
      generalize timesAll p (l.take k) = q at *
      generalize l[k] = d at *
      go_wp2_with (fail)
      refine HC.out.mono ?_
      rintro e w2 ⟨rfl, hb⟩
      have HB2 := Lib.hid (bel_step HB.out (Nat.le_refl _) hb)
      clear hb HB hc HC
      go_wp2_with (fail)
      go_roundw
      case rel => exact ⟨k + 1, by omega, by go_num, by rw [HS.out], HB2⟩
      case measure => simp [intOf]; omega
    · obtain rfl : k = l.length := by omega
      go_wp2_with (fail)
      go_ret
      exact ⟨ret_num (by rw [List.take_length]), HB.out⟩
end Go.Proofs.Ytolekbgbcahfgaa
