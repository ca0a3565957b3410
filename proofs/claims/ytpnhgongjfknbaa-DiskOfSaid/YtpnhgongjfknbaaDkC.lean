/-
  The contracts of what only looks at a disk, or arms it.
-/
import Derived.Test.YtpnhgongjfknbaaDkB
namespace Go.Proofs.Ytpnhgongjfknbaa
open Go.RowKit omap

theorem restore_any (b m : Nat) (p : Pw) (cap used : Nat) (es : Es) (w : World) (h : Raw w b m p cap used es) :
    Calls Try.prog 43 #[.pointer (some ⟨b, 0, none⟩)] w fun e w' => e = .returned (.tuple #[]) ∧ Raw w' b m ⟨p.steps, 0, false⟩ cap used es ∧ Turn (foot b m es) (foot b m es) w w' := by
  obtain ⟨_, c1, c2, _⟩ := h.cells
  have f1 := h.blk.free 1
  have f2 := h.blk.free 2
  have h1 := h.set (p' := ⟨p.steps, 0, p.down⟩) (cap' := cap) (used' := used) 1 (.int .i64 0) rfl
  have h2 := h1.set (p' := ⟨p.steps, 0, false⟩) (cap' := cap) (used' := used) 2 (.bool false) rfl
  have hb : (⟨b, 1, none⟩ : Addr).block ∈ foot b m es := List.mem_cons_self
  have hb2 : (⟨b, 2, none⟩ : Addr).block ∈ foot b m es := List.mem_cons_self
  have HT := Lib.hid ((Turn.set (w := w) hb (.int .i64 0)).trans (Turn.set hb2 (.bool false)))
  have H := Lib.hid h2
  clear h h1 h2 hb hb2
  go_enter Try.func43, Try.ntmps43
  go_wp2_with (fail)
  go_end0
  exact ⟨rfl, H.out, HT.out⟩

set_option maxHeartbeats 1000000 in
theorem arm_any (b m : Nat) (p : Pw) (cap used : Nat) (es : Es) (n : Int) (w : World) (h : Raw w b m p cap used es) :
    Calls Try.prog 23 #[.pointer (some ⟨b, 0, none⟩), .int .i64 n] w fun e w' => e = .returned (.tuple #[]) ∧ Raw w' b m { p with left := if p.down then p.left else n.toNat } cap used es ∧ Turn (foot b m es) (foot b m es) w w' := by
  obtain ⟨_, c1, c2, _⟩ := h.cells
  have f1 := h.blk.free 1
  obtain ⟨steps, left, down⟩ := p
  simp only at c1 c2
  cases down with
  | true =>
    have H := Lib.hid h
    clear h
    go_enter Try.func23, Try.ntmps23
    go_wp2_with (fail)
    go_end0
    exact ⟨rfl, H.out, Turn.refl _ _⟩
  | false =>
    have HX : Hid (∀ x : Int, x = max n 0 → Raw (w.setCell ⟨b, 1, none⟩ (.int .i64 x)) b m ⟨steps, n.toNat, false⟩ cap used es ∧ Turn (foot b m es) (foot b m es) w (w.setCell ⟨b, 1, none⟩ (.int .i64 x))) := fun x hx =>
      ⟨h.set (p' := ⟨steps, n.toNat, false⟩) (cap' := cap) (used' := used) 1 (.int .i64 x) (by
        have hm : ((n.toNat : Nat) : Int) = x := by omega
        simp only [cellsOf, hm]
        rfl), Turn.set (a := ⟨b, 1, none⟩) List.mem_cons_self _⟩
    clear h
    go_enter Try.func23, Try.ntmps23
    go_wp2_with (fail)
    all_goals go_end0
    all_goals exact ⟨rfl, HX.out _ (by omega)⟩

theorem down_any (b m : Nat) (p : Pw) (cap used : Nat) (es : Es) (w : World) (h : Raw w b m p cap used es) :
    Calls Try.prog 20 #[.pointer (some ⟨b, 0, none⟩)] w fun e w' => e = .returned (.bool p.down) ∧ w = w' := by
  obtain ⟨_, _, c2, _⟩ := h.cells
  clear h
  go_enter Try.func20, Try.ntmps20
  go_wp2_with (fail)
  go_ret
  exact ⟨rfl, rfl⟩
theorem steps_any (b m : Nat) (p : Pw) (cap used : Nat) (es : Es) (w : World) (h : Raw w b m p cap used es) :
    Calls Try.prog 29 #[.pointer (some ⟨b, 0, none⟩)] w fun e w' => e = .returned (.int .i64 (p.steps : Nat)) ∧ w = w' := by
  obtain ⟨c0, _⟩ := h.cells
  clear h
  go_enter Try.func29, Try.ntmps29
  go_wp2_with (fail)
  go_ret
  exact ⟨rfl, rfl⟩
theorem capacity_any (b m : Nat) (p : Pw) (cap used : Nat) (es : Es) (w : World) (h : Raw w b m p cap used es) :
    Calls Try.prog 34 #[.pointer (some ⟨b, 0, none⟩)] w fun e w' => e = .returned (.int .i64 (cap : Nat)) ∧ w = w' := by
  obtain ⟨_, _, _, c3, _⟩ := h.cells
  clear h
  go_enter Try.func34, Try.ntmps34
  go_wp2_with (fail)
  go_ret
  exact ⟨rfl, rfl⟩
theorem used_any (b m : Nat) (p : Pw) (cap used : Nat) (es : Es) (w : World) (h : Raw w b m p cap used es) :
    Calls Try.prog 30 #[.pointer (some ⟨b, 0, none⟩)] w fun e w' => e = .returned (.int .i64 (if p.down then 0 else used : Nat)) ∧ w = w' := by
  obtain ⟨_, _, c2, _, c4, _⟩ := h.cells
  obtain ⟨steps, left, down⟩ := p
  simp only at c2
  clear h
  cases down
  · go_enter Try.func30, Try.ntmps30
    go_wp2_with (fail)
    go_ret
    exact ⟨rfl, rfl⟩
  · go_enter Try.func30, Try.ntmps30
    go_wp2_with (fail)
    go_ret
    exact ⟨rfl, rfl⟩

/-! ### Names -/
def nameC (c : UInt8) : Bool := (decide (97 ≤ c.toNat) && decide (c.toNat ≤ 122)) || (decide (48 ≤ c.toNat) && decide (c.toNat ≤ 57)) || c.toNat == 46 || c.toNat == 45 || c.toNat == 95
def nameB (k : Nm) : Bool := decide (1 ≤ k.length) && decide (k.length ≤ 64) && k.all nameC

def runeB (r : Int) : Bool := (decide (97 ≤ r) && decide (r ≤ 122)) || (decide (48 ≤ r) && decide (r ≤ 57)) || r == 46 || r == 45 || r == 95
set_option maxHeartbeats 1000000 in
theorem inName_any (r : Int) (w : World) (h0 : 0 ≤ r) (h1 : r ≤ 2000000000) : Calls Try.prog 54 #[.int .i32 r] w fun e w' => e = .returned (.bool (runeB r)) ∧ w = w' := by
  go_enter Try.func54, Try.ntmps54
  go_wp2_with (fail)
  all_goals go_ret
  all_goals first
    | exact ⟨rfl, rfl⟩
    | (refine ⟨congrArg (fun x => Ending.returned (Value.bool x)) (?_ : _ = runeB r), rfl⟩
       rw [Bool.eq_iff_iff]
       simp only [runeB, Bool.or_eq_true, Bool.and_eq_true, decide_eq_true_eq, beq_iff_eq, true_iff]
       omega)
theorem runeB_byte (c : UInt8) : runeB (c.toNat : Int) = nameC c := by
  unfold runeB nameC
  rw [Bool.eq_iff_iff]
  simp only [Bool.or_eq_true, Bool.and_eq_true, decide_eq_true_eq, beq_iff_eq]
  omega
theorem runeB_high {r : Int} (h : 128 ≤ r) : runeB r = false := by
  rw [Bool.eq_false_iff]
  simp only [runeB, ne_eq, Bool.or_eq_true, Bool.and_eq_true, decide_eq_true_eq, beq_iff_eq]
  omega
theorem nameC_high {c : UInt8} (h : 128 ≤ c.toNat) : nameC c = false := by rw [← runeB_byte]; exact runeB_high (by omega)
/-- what is left to be looked at -/
def restB (s : ByteArray) (pos : Nat) : Bool := (s.data.toList.drop pos).all nameC
theorem restB_end {s : ByteArray} {pos : Nat} (h : ¬ pos < s.size) : restB s pos = true := by
  unfold restB
  rw [List.drop_eq_nil_of_le (by rw [Array.length_toList]; exact Nat.le_of_not_lt h)]
  rfl
theorem restB_step {s : ByteArray} {pos : Nat} (h : pos < s.size) : restB s pos = (nameC s[pos] && restB s (pos + 1)) := by
  unfold restB
  have hl : pos < s.data.toList.length := by rw [Array.length_toList]; exact h
  rw [List.drop_eq_getElem_cons hl, List.all_cons]
  rfl
theorem decode_le (s : ByteArray) (pos : Nat) : (Utf8.decode s pos).1 ≤ 2000000000 := by
  simp only [Utf8.decode, Utf8.runeError]
  repeat' split
  all_goals omega
set_option maxHeartbeats 2000000 in
theorem name_any (s : ByteArray) (w : World) (hs : s.size ≤ maxLen) : Calls Try.prog 31 #[.string s] w fun e w' => e = .returned (.bool (nameB s.data.toList)) ∧ Below w.heap.size w w' := by
  have hsz : s.data.toList.length = s.size := by rw [Array.length_toList]; rfl
  have hsm : (s.size : Int) ≤ 9223372036854775807 := by unfold maxLen at hs; omega
  by_cases hok : 1 ≤ s.size ∧ s.size ≤ 64
  · have he : nameB s.data.toList = restB s 0 := by
      unfold nameB restB
      rw [hsz]
      simp [hok.1, hok.2]
    have t1 : decide ((s.size : Int) < 1) = false := by simp; omega
    have t2 : decide ((64 : Int) < (s.size : Int)) = false := by simp; omega
    obtain ⟨ok1, ok2⟩ := hok
    rw [he]
    have HS := Lib.hid hs
    clear he hsz hs
    go_enter Try.func31, Try.ntmps31
    go_wp2_with (fail)
    go_loopw [4] (fun _ w' => ∃ pos : Nat, w' = w.iter s pos ∧ restB s 0 = restB s pos) (fun _ w' => s.size - w'.iterPos w.heap.size)
    case atStart => exact ⟨0, rfl, rfl⟩
    case round =>
      obtain ⟨pos, rfl, hc⟩ := hrel
      have HC := Lib.hid hc
      clear hc
      by_cases hp : pos < s.size
      · have hst := restB_step hp
        by_cases ha : s[pos].toNat < 128
        · have hnx : ∀ ty, (Instr.next (.pointer (some ⟨w.heap.size, 0, none⟩)) true ty).run Try.prog (w.iter s pos) = _ := fun ty => run_next_ascii w s pos ty hp ha
          obtain ⟨c, hc⟩ : ∃ c, c = s[pos] := ⟨_, rfl⟩
          rw [← hc] at hst ha hnx
          have hr := runeB_byte c
          have hb0 : (0 : Int) ≤ (c.toNat : Int) := by omega
          have hb1 : (c.toNat : Int) ≤ 2000000000 := by omega
          clear hc ha
          cases hn : nameC c with
          | true =>
            rw [hn] at hst hr
            have HST := Lib.hid hst
            have HN := Lib.hid hr
            clear hst hr hn
            go_wp2_with (fail)
            refine (inName_any (c.toNat : Int) _ hb0 hb1).mono ?_
            rintro e w1 ⟨rfl, rfl⟩
            rw [HN.out]
            go_wp2_with (fail)
            go_roundw
            case rel => exact ⟨pos + 1, rfl, by rw [HC.out, HST.out, Bool.true_and]⟩
            case measure =>
              simp
              omega
          | false =>
            rw [hn] at hst hr
            have HST := Lib.hid hst
            have HN := Lib.hid hr
            clear hst hr hn
            go_wp2_with (fail)
            refine (inName_any (c.toNat : Int) _ hb0 hb1).mono ?_
            rintro e w1 ⟨rfl, rfl⟩
            rw [HN.out]
            go_wp2_with (fail)
            go_ret
            rw [HC.out, HST.out, Bool.false_and]
            exact ⟨rfl, (Below.refl _ _).alloc (Nat.le_refl _) _⟩
        · have hnx : ∀ ty, (Instr.next (.pointer (some ⟨w.heap.size, 0, none⟩)) true ty).run Try.prog (w.iter s pos) = _ := fun ty => run_next_any w s pos ty hp
          obtain ⟨hh, _⟩ := decode_high s pos hp (by omega)
          have hle := decode_le s pos
          generalize Utf8.decode s pos = d at hnx hh hle
          obtain ⟨r, k⟩ := d
          simp only at hnx hh hle
          have hr := runeB_high (r := (r : Int)) (by omega)
          rw [nameC_high (by omega), Bool.false_and] at hst
          have HST := Lib.hid hst
          have HN := Lib.hid hr
          have hb0 : (0 : Int) ≤ (r : Int) := by omega
          have hb1 : (r : Int) ≤ 2000000000 := by omega
          clear hst hr hh ha hle
          go_wp2_with (fail)
          refine (inName_any (r : Int) _ hb0 hb1).mono ?_
          rintro e w1 ⟨rfl, rfl⟩
          rw [HN.out]
          go_wp2_with (fail)
          go_ret
          rw [HC.out, HST.out]
          exact ⟨rfl, (Below.refl _ _).alloc (Nat.le_refl _) _⟩
      · have hnx : ∀ ty, (Instr.next (.pointer (some ⟨w.heap.size, 0, none⟩)) true ty).run Try.prog (w.iter s pos) = _ := fun ty => run_next_end w s pos ty hp
        go_wp2_with (fail)
        go_ret
        rw [HC.out, restB_end hp]
        exact ⟨rfl, (Below.refl _ _).alloc (Nat.le_refl _) _⟩
  · have he : nameB s.data.toList = false := by
      unfold nameB
      rw [hsz, Bool.eq_false_iff]
      simp only [ne_eq, Bool.and_eq_true, decide_eq_true_eq]
      exact fun h => hok h.1
    rw [he]
    by_cases h1 : s.size < 1
    · have t1 : decide ((s.size : Int) < 1) = true := by simp; omega
      clear he hsz hs hok h1
      go_enter Try.func31, Try.ntmps31
      go_wp2_with (fail)
      go_ret
      exact ⟨rfl, Below.refl _ _⟩
    · have t1 : decide ((s.size : Int) < 1) = false := by simp; omega
      have t2 : decide ((64 : Int) < (s.size : Int)) = true := by simp; omega
      clear he hsz hs hok h1
      go_enter Try.func31, Try.ntmps31
      go_wp2_with (fail)
      go_ret
      exact ⟨rfl, Below.refl _ _⟩
end Go.Proofs.Ytpnhgongjfknbaa
