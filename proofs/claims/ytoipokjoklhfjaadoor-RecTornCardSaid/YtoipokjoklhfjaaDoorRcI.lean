/-
  The document's own: a sum's bytes, a record as the document has it, the record with which a text begins.
-/
import Derived.Test.YtoipokjoklhfjaaDoorRcH
import Derived.Test.YtoipokjoklhfjaaDoorCoH
import Derived.Test.YtoipokjoklhfjaaDoorCoJ
import Derived.StillTailTactics
namespace Go.Proofs.YtoipokjoklhfjaaDoor
open Go.RowKit numb

theorem le4_at (v : Nat) {i : Nat} (h : i < 4) : (le4 v).take (i + 1) = (le4 v).take i ++ [v / 256 ^ i % 256] := by
  match i, h with
  | 0, _ => simp [le4]
  | 1, _ => simp [le4]
  | 2, _ => simp [le4]
  | 3, _ => simp [le4]
theorem str_snoc {l : List Nat} {z : Nat} (hl : AreBytes l) (hz : z < 256) : strOf l ++ strOf [z] = strOf (l ++ [z]) := strOf_append hl (fun y hy => by simp at hy; omega)
set_option maxRecDepth 100000 in
set_option maxHeartbeats 1000000 in
theorem dsum_any (s : ByteArray) (w : World) (hs : s.size ≤ maxLen) :
    Calls Tryd.prog 21 #[.string s] w fun e w' => e = .returned (.string (strOf (sumB (natsOf s)))) ∧ Below w.heap.size w w' := by
  have HR := Lib.hid (crcs.ref_any s w hs)
  have hv : sumN (natsOf s) < 4294967296 := sumN_lt (natsOf_are s)
  have HV : Hid (sumB (natsOf s) = le4 (sumN (natsOf s))) := rfl
  rw [show crcs.sum (crcs.natsOf s) = sumN (natsOf s) from rfl] at HR
  rw [HV.out]
  generalize sumN (natsOf s) = v at *
  clear HV
  go_enter Tryd.func21, Tryd.ntmps21
  go_wp2_with (fail)
  refine HR.out.mono ?_
  rintro e w1 ⟨rfl, rfl⟩
  go_wp2_with (fail)
  go_loopw [3, 4, 5] (fun x o i wr => ∃ (k r : Nat), k ≤ 4 ∧ i = .int .i64 k ∧ x = .int .u32 r ∧ o = .string (strOf ((le4 v).take k)) ∧ Hid (r = v / 256 ^ k) ∧ Hid (Below w.heap.size w wr)) (fun _ _ i _ => 4 - (intOf i).toNat)
  case atStart => exact ⟨0, v, by omega, rfl, rfl, rfl, by show _ = _; simp, Below.refl _ _⟩
  case round =>
    obtain ⟨k, r, hk, rfl, rfl, rfl, HRR, hb⟩ := hrel
    by_cases hlt : k < 4
    · have hz : r % 256 < 256 := Nat.mod_lt _ (by omega)
      have hrv : r < 4294967296 := by rw [HRR.out]; exact Nat.lt_of_le_of_lt (Nat.div_le_self _ _) hv
      obtain ⟨z, hzz⟩ : ∃ z, z = r % 256 := ⟨_, rfl⟩
      have hl4 := le4_at v hlt
      rw [← HRR.out, ← hzz] at hl4
      have hsn := str_snoc (l := (le4 v).take k) ((le4_are v).take k) (show z < 256 by omega)
      rw [← hl4] at hsn
      have hsz : (strOf ((le4 v).take k)).size ≤ 4 := by rw [strOf_size, List.length_take]; omega
      have hc := conv_str (wr.alloc (.cells #[.int .u8 (z : Nat)] 5)) (some ⟨wr.heap.size, 0, none⟩) [z] 1 (row_cell (cell_of_row _ _ 0 _ _ _ (heap_alloc_new wr _)))
      simp only [List.length_cons, List.length_nil, Nat.zero_add] at hc
      have hadd : ∀ w', (Op.stringOp .add (strOf ((le4 v).take k)) (strOf [z])).run Tryd.prog w' = .ok (.string (strOf ((le4 v).take k) ++ strOf [z])) w' := fun w' => run_string_add_sum w' _ _ (by rw [strOf_size [z]]; simp only [List.length_cons, List.length_nil]; omega)
      rw [hsn] at hadd
      have HRR2 : Hid (r / 256 = v / 256 ^ (k + 1)) := by show _ = _; rw [HRR.out, Nat.div_div_eq_div_mul, Nat.pow_succ]
      have e1 : (r : Int) % 256 = (z : Int) := by omega
      have e2 : (z : Int) % 256 = (z : Int) := by omega
      have hki : (k : Int) < 4 := by omega
      clear hl4 hsn hsz HRR hzz hz
      obtain ⟨S2, hS2⟩ : ∃ S, S = strOf ((le4 v).take (k + 1)) := ⟨_, rfl⟩
      rw [← hS2] at hadd
      have HS2 := Lib.hid hS2
      have HB2 : Hid (Below w.heap.size w (wr.alloc (.cells #[.int .u8 (z : Nat)] 5))) := hb.out.alloc hb.out.size _
      clear hS2
      generalize strOf [z] = S1 at *
      generalize strOf ((le4 v).take k) = S0 at *
      go_wp2_with (fail)
      exact ⟨⟨k + 1, r / 256, by omega, by go_num, by go_num, by rw [HS2.out], HRR2, HB2⟩, by simp [intOf]; omega⟩
    · obtain rfl : k = 4 := by omega
      have h4 : (le4 v).take 4 = le4 v := rfl
      rw [h4]
      clear hlt h4
      go_wp2_with (fail)
      go_ret
      exact ⟨rfl, hb.out⟩

set_option maxHeartbeats 1000000 in
/-- a record as the document has it -/
theorem ref_rec_any (x : Rc) (w : World) (hx : x.p.ok w) : Calls Tryd.prog 11 #[x.v] w fun e w' => e = .returned (.agg #[.int .i64 x.k, .string (strOf x.p.l)]) ∧ Below w.heap.size w w' := by
  obtain ⟨k, a, l, c⟩ := x
  unfold Rc.v Part.v
  simp only at hx ⊢
  have hc := conv_str ((w.alloc (.cells #[.int .i64 k, .slice a l.length c] 27)).alloc (.cells #[.int .i64 0, .string ⟨#[]⟩] 30)) a l c ((hx.alloc _).alloc _).at_
  clear hx
  generalize strOf l = S at *
  go_enter Tryd.func11, Tryd.ntmps11
  go_wp2_with (fail)
  exact bodyPost_ret (v := .agg #[.int .i64 k, .string S]) (by simp [results, Tryd.results11, go_sem]) rfl ⟨rfl, ((Below.refl _ _).alloc (Nat.le_refl _) _).alloc (by simp) _⟩
end Go.Proofs.YtoipokjoklhfjaaDoor
