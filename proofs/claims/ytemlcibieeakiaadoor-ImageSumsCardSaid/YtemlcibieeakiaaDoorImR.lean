/-
  Layer 10: the document's bytes of an image; sums of images that differ in one pixel.
-/
import Derived.Test.YtemlcibieeakiaaDoorImQ
import Derived.Laws.Concat
namespace Go.Proofs.YtemlcibieeakiaaDoor
open Go.RowKit pxm imm

/-! ### Sums -/
theorem mul_xor (a b k : Nat) : (a ^^^ b) * 256 ^ k = a * 256 ^ k ^^^ b * 256 ^ k := by
  have e : (256 : Nat) ^ k = 2 ^ (8 * k) := by rw [Nat.pow_mul]
  have := Nat.shiftLeft_xor_distrib (a := a) (b := b) (i := 8 * k)
  rw [e]
  simpa [Nat.shiftLeft_eq] using this
theorem val_app (l m : List Nat) : crcm.val (l ++ m) = crcm.val l ^^^ crcm.val m * 256 ^ l.length := by
  induction l with
  | nil => simp [crcm.val]
  | cons z l ih =>
    have h1 := mul_xor (crcm.val l) (crcm.val m * 256 ^ l.length) 1
    rw [Nat.pow_one] at h1
    rw [List.cons_append, crcm.val, ih, h1, crcm.val, List.length_cons, Nat.pow_succ, ← Nat.mul_assoc, Nat.xor_assoc]
theorem val_le4 {n : Nat} : crcm.val (le4 n) = n := by
  have s1 := crcm.split_at 8 n
  have s2 := crcm.split_at 8 (n / 256)
  have s3 := crcm.split_at 8 (n / 65536)
  have p8 : (2 : Nat) ^ 8 = 256 := rfl
  rw [p8] at s1 s2 s3
  rw [Nat.div_div_eq_div_mul] at s2 s3
  simp only [le4, crcm.val, Nat.zero_mul, Nat.xor_zero]
  rw [show n / (65536 * 256) = n / 16777216 from rfl] at s3
  rw [show n / (256 * 256) = n / 65536 from rfl] at s2
  rw [s3, s2, s1]
theorem flat_set (l : List Nat) {j : Nat} (hj : j < l.length) (p : Nat) : ∃ A C, l.flatMap le4 = A ++ (le4 l[j] ++ C) ∧ (l.set j p).flatMap le4 = A ++ (le4 p ++ C) := by
  refine ⟨(l.take j).flatMap le4, (l.drop (j + 1)).flatMap le4, ?_, ?_⟩
  · conv => lhs; rw [← List.take_append_drop j l]
    rw [List.flatMap_append, List.drop_eq_getElem_cons hj, List.flatMap_cons]
  · rw [List.set_eq_take_append_cons_drop, if_pos hj, List.flatMap_append, List.flatMap_cons]
theorem sums_apart (W H : Nat) (l : List Nat) {j : Nat} (hj : j < l.length) (p : Nat) (h1 : l[j] < 4294967296) (h2 : p < 4294967296) : crcs.sum (sumL W H l) = crcs.sum (sumL W H (l.set j p)) ↔ l[j] = p := by
  obtain ⟨A, C, e1, e2⟩ := flat_set l hj p
  have f1 : sumL W H l = (le4 W ++ le4 H ++ A) ++ (le4 l[j] ++ C) := by unfold sumL; rw [e1]; simp [List.append_assoc]
  have f2 : sumL W H (l.set j p) = (le4 W ++ le4 H ++ A) ++ (le4 p ++ C) := by unfold sumL; rw [e2]; simp [List.append_assoc]
  generalize le4 W ++ le4 H ++ A = B at *
  have hv : crcm.val (B ++ (le4 p ++ C)) = crcm.val (B ++ (le4 l[j] ++ C)) ^^^ (l[j] ^^^ p) * 2 ^ (8 * B.length) := by
    rw [val_app B, val_app B, val_app (le4 p), val_app (le4 l[j]), val_le4, val_le4, le4_len, le4_len, Nat.xor_assoc, show (2 : Nat) ^ (8 * B.length) = 256 ^ B.length by rw [Nat.pow_mul], ← mul_xor]
    congr 2
    rw [Nat.xor_comm l[j] p, ← Nat.xor_assoc, Nat.xor_comm (l[j] ^^^ _) p, Nat.xor_assoc, Nat.xor_comm l[j], Nat.xor_assoc, Nat.xor_self, Nat.xor_zero]
  have hb := crcm.crc_burst 4294967295 (B ++ (le4 l[j] ++ C)) (B ++ (le4 p ++ C)) (8 * B.length) (l[j] ^^^ p) (by simp [le4]) hv (by simp; omega) (Nat.xor_lt_two_pow (n := 32) h1 h2)
  unfold crcs.sum
  rw [f1, f2]
  have hx : ∀ a b : Nat, a ^^^ 4294967295 = b ^^^ 4294967295 ↔ a = b := fun a b => ⟨fun h => by
    have := congrArg (· ^^^ 4294967295) h
    simpa [Nat.xor_assoc] using this, fun h => by rw [h]⟩
  rw [hx, hb]
  constructor
  · intro h
    have := congrArg (· ^^^ p) h
    simpa [Nat.xor_assoc] using this
  · intro h
    rw [h, Nat.xor_self]
/-! ### The document's bytes -/
theorem strOf_app {l m : List Nat} (hl : crcm.AreBytes l) (hm : crcm.AreBytes m) : crcs.strOf l ++ crcs.strOf m = crcs.strOf (l ++ m) := by
  have h : crcs.natsOf (crcs.strOf l ++ crcs.strOf m) = crcs.natsOf (crcs.strOf (l ++ m)) := by
    rw [crcs.natsOf_append, crcs.natsOf_strOf hl, crcs.natsOf_strOf hm, crcs.natsOf_strOf (hl.append hm)]
  unfold crcs.natsOf at h
  have h2 : ∀ a b : List UInt8, a.map (·.toNat) = b.map (·.toNat) → a = b := fun a => by
    induction a with
    | nil => intro b hb; cases b with | nil => rfl | cons _ _ => simp at hb
    | cons x a ih =>
      intro b hb
      cases b with
      | nil => simp at hb
      | cons y b =>
        simp only [List.map_cons, List.cons.injEq] at hb
        rw [UInt8.toNat_inj.1 hb.1, ih b hb.2]
  have h3 := h2 _ _ h
  exact ByteArray.ext (Array.toList_inj.1 h3)
theorem enters_bytes1 : Enters Tryd.prog 38 := enters_of Tryd.func38 (by kernel_rfl) rfl
set_option maxHeartbeats 1000000 in
theorem bytes1_any (n : Nat) (hn : n < 4294967296) (w : World) : Calls Tryd.prog 38 #[.int .u32 (n : Nat)] w fun e w' => e = .returned (.string (crcs.strOf (le4 n))) ∧ Below w.heap.size w w' := by
  have hcv : (convert 69 9 (.slice (some ⟨w.heap.size, 0, none⟩) 4 4)).run Tryd.prog (w.alloc (.cells #[.int .u8 (n % 256 : Nat), .int .u8 (n / 256 % 256 : Nat), .int .u8 (n / 65536 % 256 : Nat), .int .u8 (n / 16777216 : Nat)] 5)) = .ok (.string (crcs.strOf (le4 n))) (w.alloc (.cells #[.int .u8 (n % 256 : Nat), .int .u8 (n / 256 % 256 : Nat), .int .u8 (n / 65536 % 256 : Nat), .int .u8 (n / 16777216 : Nat)] 5)) :=
    crcs.conv_str _ (some ⟨w.heap.size, 0, none⟩) (le4 n) 4 (fun _ => ⟨w.heap.size, 0, rfl, fun j hj => by
      have hj4 : j < 4 := hj
      obtain rfl | rfl | rfl | rfl : j = 0 ∨ j = 1 ∨ j = 2 ∨ j = 3 := by omega
      all_goals simp [le4]⟩)
  have e1 : (n : Int) % 256 = ((n % 256 : Nat) : Int) := by simp
  have e2 : (n : Int) / 256 % 256 = ((n / 256 % 256 : Nat) : Int) := by simp
  have e3 : (n : Int) / 65536 % 256 = ((n / 65536 % 256 : Nat) : Int) := by simp
  have e4 : (n : Int) / 16777216 = ((n / 16777216 : Nat) : Int) := by simp
  have h4 : n / 16777216 < 256 := by omega
  have h3 : n / 65536 % 256 < 256 := by omega
  have h2 : n / 256 % 256 < 256 := by omega
  have h1 : n % 256 < 256 := by omega
  generalize crcs.strOf (le4 n) = q at *
  generalize n / 16777216 = k3 at *
  generalize n / 65536 % 256 = k2 at *
  generalize n / 256 % 256 = k1 at *
  generalize n % 256 = k0 at *
  go_enter Tryd.func38, Tryd.ntmps38
  go_wp2_with (fail)
  go_ret
  exact ⟨rfl, (Below.refl _ _).alloc (Nat.le_refl _) _⟩
end Go.Proofs.YtemlcibieeakiaaDoor
