/-
  Layer 12: what only asks a tree: Has, Parent, Kids, Len, kid, others, within.
-/
import Derived.Test.YtokochkjjlbnkaaTrN
import Derived.Laws.NewBlocks
namespace Go.Proofs.Ytokochkjjlbnkaa
open Go.RowKit trm

theorem all_take {l : List Int} {P : Int → Bool} {k : Nat} (hk : k < l.length) (h : (l.take k).all P = true) (h1 : P l[k] = true) : (l.take (k + 1)).all P = true := by
  rw [List.take_succ_eq_append_getElem hk, List.all_append, h]
  simp [h1]
theorem all_not {l : List Int} {P : Int → Bool} {k : Nat} (hk : k < l.length) (h1 : P l[k] = false) : l.all P = false := by
  rw [List.all_eq_false]
  exact ⟨l[k], List.getElem_mem hk, by simp [h1]⟩
section
variable {w : World} {b : Nat} {s : Sh} {t : T}
set_option maxHeartbeats 1000000 in
theorem thas (h : TreeAt w b s t) (A : Option Addr) (l : List Int) (c : Nat) (hr : Row eI w A l) (hi : ∀ x ∈ l, I64 x) (hn : l.length ≤ 100000) :
    Calls Try.prog 16 #[.pointer (some ⟨b, 0, none⟩), .slice A l.length c] w fun e w' => e = .returned (.bool (l.all (has t))) ∧ Below w.heap.size w w' := by
  obtain ⟨c0, bi⟩ := h.raw.top
  have HRW := Lib.hid h.raw
  have HR := Lib.hid hr
  have HI := Lib.hid hi
  have HN := Lib.hid hn
  clear h hr hi hn
  go_enter Try.func16, Try.ntmps16
  go_wp2_with (fail)
  go_loopw [9] (fun x wr => ∃ k : Nat, k ≤ l.length ∧ x = .int .i64 k ∧ Hid ((l.take k).all (has t) = true) ∧ Hid (wr = w)) (fun x _ => l.length - (intOf x).toNat)
  case atStart => exact ⟨0, Nat.zero_le _, rfl, by show _ = _; simp, rfl⟩
  case round =>
    obtain ⟨k, hk, rfl, HK, HW⟩ := hrel
    obtain rfl := HW.out
    by_cases hlt : k < l.length
    · have t1 : decide (k < l.length) = true := by simpa using hlt
      obtain ⟨b2, o2, rfl, k1⟩ := HR.out.at_ hlt
      have HS := Lib.hid (all_take (P := has t) hlt HK.out)
      have HT := Lib.hid (all_not (P := has t) hlt)
      have hix := HI.out _ (List.getElem_mem hlt)
      have HB := Lib.hid (show k ≤ 100000 by have := HN.out; omega)
      generalize l[k] = x at *
      unfold eI at k1
      by_cases hx : has t x = true
      · have hlk := HRW.out.look_some hix hx
        have HS2 := Lib.hid (HS.out hx)
        have hkb : (k : Int) ≤ 100000 := by have := HB.out; omega
        clear HS HT hx hix HB
        go_wp2_with (fail)
        go_roundw
        case rel => exact ⟨k + 1, by omega, by go_num, HS2, by trivial⟩
        case measure => simp [intOf]; omega
      · have hlk := HRW.out.look_none hix hx
        have HT2 := Lib.hid (HT.out (by simpa using hx))
        have hkb : (k : Int) ≤ 100000 := by have := HB.out; omega
        clear HS HT hx hix HB
        go_wp2_with (fail)
        go_ret
        exact ⟨ret_bool HT2.out.symm, Below.refl _ _⟩
    · obtain rfl : k = l.length := by omega
      have HF : Hid (l.all (has t) = true) := by have h := HK.out; rw [List.take_length] at h; exact h
      have t1 : decide (l.length < l.length) = false := by simp
      go_wp2_with (fail)
      go_ret
      exact ⟨ret_bool HF.out.symm, Below.refl _ _⟩
theorem upT_some {i : Int} (h0 : i ≠ 0) : upT t i = some (par t i) := if_neg h0
theorem upT_zero : upT t 0 = none := rfl
theorem par_zero (ok : Ok t) : par t 0 = -1 := par_none fun h => ok.ne0 h rfl
set_option maxHeartbeats 1000000 in
theorem tparent (h : TreeAt w b s t) (i : Int) (hi : I64 i) :
    Calls Try.prog 18 #[.pointer (some ⟨b, 0, none⟩), .int .i64 i] w fun e w' => e = .returned (.int .i64 (par t i)) ∧ Below w.heap.size w w' := by
  obtain ⟨c0, bi⟩ := h.raw.top
  by_cases hx : has t i = true
  · have hlk := h.raw.look_some hi hx
    obtain ⟨⟨n0, n1, n2⟩, -, ni⟩ := h.raw.cells (i := i) hx
    by_cases h0 : i = 0
    · subst h0
      have HQ := Lib.hid (par_zero h.ok)
      rw [upT_zero] at n1
      simp only [Option.map_none, ptrTo] at n1
      clear h hi hx n0 n2
      go_enter Try.func18, Try.ntmps18
      go_wp2_with (fail)
      go_ret
      exact ⟨ret_num HQ.out.symm, Below.refl _ _⟩
    · rw [upT_some h0] at n1
      have hp : hasP t (par t i) := has_iff.2 (h.ok.par_ok ((has_iff.1 hx).resolve_left h0))
      obtain ⟨⟨m0, -, -⟩, -, mi⟩ := h.raw.cells hp
      simp only [Option.map_some, ptrTo] at n1
      clear h hi hx n0 n2 h0 hp
      go_enter Try.func18, Try.ntmps18
      go_wp2_with (fail)
      go_ret
      exact ⟨rfl, Below.refl _ _⟩
  · have hlk := h.raw.look_none hi hx
    have HQ := Lib.hid (par_none (not_has hx).2)
    clear h hi hx
    go_enter Try.func18, Try.ntmps18
    go_wp2_with (fail)
    go_ret
    exact ⟨ret_num HQ.out.symm, Below.refl _ _⟩
end
end Go.Proofs.Ytokochkjjlbnkaa
