/-
  The document's own answers: numbers and texts as bytes.
-/
import Derived.Test.YtoipokjoklhfjaaDoorCoG
import Derived.Test.YtoipokjoklhfjaaDoorRegs
namespace Go.Proofs.YtoipokjoklhfjaaDoor
open Go.RowKit numb

theorem row_cell {w : World} {g z : Nat} (h : w.cell? ⟨g, 0, none⟩ = some (.int .u8 (z : Nat))) : Bs w (some ⟨g, 0, none⟩) [z] := fun _ => ⟨g, 0, rfl, fun j hj => by
  have : j = 0 := by simpa using hj
  subst this
  exact h⟩

set_option maxHeartbeats 1000000 in
theorem ref_uint_any (n : Nat) : ∀ (v : Nat) (w : World), v < n → U64 v →
    Calls Tryd.prog 20 #[.int .u64 (v : Nat)] w fun e w' => e = .returned (.string (strOf (uint v))) ∧ Below w.heap.size w w' := by
  induction n with
  | zero => intro v w h; omega
  | succ n ih =>
  intro v w hvn hU
  have hv := hU.lt
  by_cases hs : v < 128
  · have S := Lib.hid (uint_small hs)
    obtain ⟨z, hz⟩ : ∃ z, z = v := ⟨_, rfl⟩
    have hc := conv_str (w.alloc (.cells #[.int .u8 (z : Nat)] 5)) (some ⟨w.heap.size, 0, none⟩) [z] 1 (row_cell (cell_of_row _ _ 0 _ _ _ (heap_alloc_new w _)))
    simp only [List.length_cons, List.length_nil, Nat.zero_add] at hc
    have e1 : (v : Int) % 256 = (z : Int) := by omega
    have S2 : Hid (strOf (uint v) = strOf [z]) := by show _ = _; rw [S.out, hz]
    generalize strOf [z] = t at *
    have t : decide ((v : Int) < 128) = true := by simp; omega
    clear S
    clear ih hU hvn hv hz hs
    go_enter Tryd.func20, Tryd.ntmps20
    go_wp2_with (fail)
    go_ret
    rw [S2.out]
    exact ⟨rfl, (Below.refl _ _).alloc (Nat.le_refl _) _⟩
  · have S := Lib.hid (uint_big (v := v) (by omega))
    have t : decide ((v : Int) < 128) = false := by simp; omega
    obtain ⟨r, hr⟩ : ∃ r, r = v % 128 := ⟨_, rfl⟩
    obtain ⟨z, hz⟩ : ∃ z, z = v % 128 + 128 := ⟨_, rfl⟩
    obtain ⟨q, hq⟩ : ∃ q, q = v / 128 := ⟨_, rfl⟩
    have E1 : Hid ((v : Int).tmod 128 = (r : Int)) := by show _ = _; rw [Int.tmod_eq_emod_of_nonneg (by omega)]; omega
    have E2 : Hid (IntKind.u64.wrap ((r : Int) + 128) = (z : Int)) := by show _ = _; rw [IntWalk.u64_in _ (by omega)]; omega
    have E3 : Hid (IntKind.u8.wrap (z : Int) = (z : Int)) := by show _ = _; exact IntWalk.u8_in _ (by omega)
    have E7 : Hid (IntKind.u64.wrap ((v : Int) / 128) = (q : Int)) := by show _ = _; rw [IntWalk.u64_in _ (by omega)]; omega
    have HQ : Hid (q < n) := by show _ < _; omega
    have hUq : U64 q := by unfold U64; omega
    have hz256 : AreBytes [z] := fun y hy => by simp at hy; omega
    have E9 : Hid (strOf [z] ++ strOf (uint q) = strOf (uint v)) := by
      show _ = _
      rw [strOf_append hz256 (uint_bytes q), S.out, ← hz, ← hq]
      rfl
    have SZ : Hid (¬ 9223372036854775807 < (strOf [z]).size + (strOf (uint q)).size) := by
      show ¬ _ < _
      have := uint_length_le (v := q) (k := 10) (by omega) (Nat.lt_of_lt_of_le hUq.lt (by decide))
      rw [strOf_size, strOf_size]
      simp only [List.length_cons, List.length_nil]
      omega
    clear hr hz hq hvn hU hs S hv
    go_enter Tryd.func20, Tryd.ntmps20
    go_wp2_with (fail)
    refine regs.wp_region_put (regs.bl) (regs.noJ) [9, 10, 11, 12, 13, 14, 15, 16, 17, 18, 2] (by kernel_rfl) (by kernel_rfl) (fun _ => regs.bl_refl _) (regs.bl_trans) (fun i => (match i with
      | 0 => regs.Say.val _ (.int .u64 v)
      | 1 => regs.Say.val _ (.int .u64 (r : Nat))
      | 2 => regs.Say.val _ (.int .u64 (z : Nat))
      | 3 => regs.Say.val _ (.int .u8 (z : Nat))
      | 4 => regs.Say.one (.int .u8 z)
      | 5 => regs.Say.val _ (.string (strOf [z]))
      | 6 => regs.Say.val _ (.int .u64 v)
      | 7 => regs.Say.val _ (.int .u64 (q : Nat))
      | 8 => regs.Say.val _ (.string (strOf (uint q)))
      | 9 => regs.Say.val _ (.string (strOf (uint v)))
      | 10 => regs.Say.val _ (.string (strOf (uint v)))
      | _ => regs.Say.any _ : regs.Say (regs.bl)).p) (fun _ => regs.Say.mono _) (by kernel_rfl) ((Below.refl _ _).drew) (regs.noJ_ok _ _) ⟨?_, ?_, ?_, ?_, ?_, ?_, ?_, ?_, ?_, ?_, ?_, trivial⟩ ?_
    · refine regs.StepOK.plain rfl fun L a w1 hh => ?_
      have h0 : a.tmps[0]?.getD undef = .int .u64 v := by rw [← Array.getD_eq_getD_getElem?]; exact hh.old 0 rfl
      have hJ := Lib.hid hh.st
      clear hh
      go_simp
      exact ⟨_, rfl, regs.bl_refl _, rfl, hJ.out⟩
    · refine regs.StepOK.plain rfl fun L a w1 hh => ?_
      have h9 : a.tmps[9]?.getD undef = .int .u64 v := by rw [← Array.getD_eq_getD_getElem?]; exact hh.dep 0 9 (by kernel_rfl) (by kernel_rfl)
      have e1 := E1.out
      have hJ := Lib.hid hh.st
      clear hh
      go_simp
      exact ⟨_, rfl, regs.bl_refl _, rfl, hJ.out⟩
    · refine regs.StepOK.plain rfl fun L a w1 hh => ?_
      have h10 : a.tmps[10]?.getD undef = .int .u64 (r : Nat) := by rw [← Array.getD_eq_getD_getElem?]; exact hh.dep 1 10 (by kernel_rfl) (by kernel_rfl)
      have e2 := E2.out
      have hJ := Lib.hid hh.st
      clear hh
      go_simp
      exact ⟨_, rfl, regs.bl_refl _, rfl, hJ.out⟩
    · refine regs.StepOK.plain rfl fun L a w1 hh => ?_
      have h11 : a.tmps[11]?.getD undef = .int .u64 (z : Nat) := by rw [← Array.getD_eq_getD_getElem?]; exact hh.dep 2 11 (by kernel_rfl) (by kernel_rfl)
      have e3 := E3.out
      have hJ := Lib.hid hh.st
      clear hh
      go_simp
      exact ⟨_, rfl, regs.bl_refl _, rfl, hJ.out⟩
    · refine regs.StepOK.plain rfl fun L a w1 hh => ?_
      have h12 : a.tmps[12]?.getD undef = .int .u8 (z : Nat) := by rw [← Array.getD_eq_getD_getElem?]; exact hh.dep 3 12 (by kernel_rfl) (by kernel_rfl)
      have hJ := Lib.hid hh.st
      clear hh
      go_simp
      exact ⟨_, rfl, (Below.refl _ _).alloc (Nat.le_refl _) _, ⟨_, rfl, cell_of_row _ _ 0 _ _ _ (heap_alloc_new w1 _)⟩, hJ.out⟩
    · refine regs.StepOK.plain rfl fun L a w1 hh => ?_
      obtain ⟨g, h13, hcell⟩ : ∃ g, a.tmps[13]?.getD undef = .slice (some ⟨g, 0, none⟩) 1 1 ∧ w1.cell? ⟨g, 0, none⟩ = some (.int .u8 z) := by rw [← Array.getD_eq_getD_getElem?]; exact hh.dep 4 13 (by kernel_rfl) (by kernel_rfl)
      have hc := conv_str w1 (some ⟨g, 0, none⟩) [z] 1 (row_cell hcell)
      simp only [List.length_cons, List.length_nil, Nat.zero_add] at hc
      have hJ := Lib.hid hh.st
      clear hh
      go_simp
      exact ⟨_, rfl, regs.bl_refl _, rfl, hJ.out⟩
    · refine regs.StepOK.plain rfl fun L a w1 hh => ?_
      have h0 : a.tmps[0]?.getD undef = .int .u64 v := by rw [← Array.getD_eq_getD_getElem?]; exact hh.old 0 rfl
      have hJ := Lib.hid hh.st
      clear hh
      go_simp
      exact ⟨_, rfl, regs.bl_refl _, rfl, hJ.out⟩
    · refine regs.StepOK.plain rfl fun L a w1 hh => ?_
      have h15 : a.tmps[15]?.getD undef = .int .u64 v := by rw [← Array.getD_eq_getD_getElem?]; exact hh.dep 6 15 (by kernel_rfl) (by kernel_rfl)
      have e7 := E7.out
      have hJ := Lib.hid hh.st
      clear hh
      go_simp
      exact ⟨_, rfl, regs.bl_refl _, rfl, hJ.out⟩
    · refine regs.StepOK.plain rfl fun L a w1 hh => ?_
      have h16 : a.tmps[16]?.getD undef = .int .u64 (q : Nat) := by rw [← Array.getD_eq_getD_getElem?]; exact hh.dep 7 16 (by kernel_rfl) (by kernel_rfl)
      have hJ := Lib.hid hh.st
      clear hh
      go_simp
      refine (ih q w1 HQ.out hUq).mono ?_
      rintro e w2 ⟨rfl, hb2⟩
      exact ⟨_, rfl, hb2, rfl, hJ.out⟩
    · refine regs.StepOK.plain rfl fun L a w1 hh => ?_
      have h14 : a.tmps[14]?.getD undef = .string (strOf [z]) := by rw [← Array.getD_eq_getD_getElem?]; exact hh.dep 5 14 (by kernel_rfl) (by kernel_rfl)
      have h17 : a.tmps[17]?.getD undef = .string (strOf (uint q)) := by rw [← Array.getD_eq_getD_getElem?]; exact hh.dep 8 17 (by kernel_rfl) (by kernel_rfl)
      have e9 := E9.out
      have sz := SZ.out
      have hJ := Lib.hid hh.st
      clear hh
      go_simp
      exact ⟨_, rfl, regs.bl_refl _, rfl, hJ.out⟩
    · refine regs.StepOK.plain rfl fun L a w1 hh => ?_
      have h18 : a.tmps[18]?.getD undef = .string (strOf (uint v)) := by rw [← Array.getD_eq_getD_getElem?]; exact hh.dep 9 18 (by kernel_rfl) (by kernel_rfl)
      have hJ := Lib.hid hh.st
      clear hh
      go_simp
      exact ⟨_, rfl, regs.bl_refl _, rfl, hJ.out⟩
    intro L w1 val _ _ hb hf
    have v2 : val 2 = .string (strOf (uint v)) := hf 10 2 (by kernel_rfl)
    clear hf
    simp only [regs.putAll, List.map_cons, List.map_nil]
    rw [v2]
    go_simp
    go_wp2_with (fail)
    go_ret
    exact ⟨rfl, hb⟩

theorem ref_uint (v : Nat) (w : World) (hU : U64 v) :
    Calls Tryd.prog 20 #[.int .u64 (v : Nat)] w fun e w' => e = .returned (.string (strOf (uint v))) ∧ Below w.heap.size w w' := ref_uint_any (v + 1) v w (by omega) hU

end Go.Proofs.YtoipokjoklhfjaaDoor
