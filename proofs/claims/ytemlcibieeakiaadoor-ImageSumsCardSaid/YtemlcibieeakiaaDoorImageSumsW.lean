/-
  ImageSums: the walk.
-/
import Derived.Test.YtemlcibieeakiaaDoorImT
import Derived.Test.YtemlcibieeakiaaDoorImageChecksW
namespace Go.Proofs.YtemlcibieeakiaaDoor
open Go.RowKit pxm imm

theorem Row.off {α : Type} {enc : α → Value} {w w' : World} {A : Option Addr} {l : List α} {S : List Nat} {B : Nat} (h : Row enc w A l) (ho : Off S w w') (hA : ∀ b off, A = some ⟨b, off, none⟩ → b < B) (hS : ∀ q ∈ S, B ≤ q) : Row enc w' A l := fun hn => by
  obtain ⟨b, off, e, hc⟩ := h hn
  refine ⟨b, off, e, fun j hj => ?_⟩
  have hb := World.block_lt_of_cell? w ⟨b, _, none⟩ (hc j hj)
  have h1 := ho.far b hb (fun hm => by have := hA b off e; have := hS b hm; omega)
  rw [← hc j hj]
  simp only [World.cell?, h1]
/-- boxes, an argument's pixels, a copy's, the table -/
def JT (old : List (Nat × List Value)) (A : Option Addr) (l : List Nat) (gc : Nat) (l2 : List Nat) (w : World) : Prop := JBs old w ∧ Row eW w A l ∧ Px w gc l2 ∧ crcs.TabAt w
theorem JT.below {old : List (Nat × List Value)} {A : Option Addr} {l : List Nat} {gc : Nat} {l2 : List Nat} {w w' : World} (h : JT old A l gc l2 w) (hb : Below w.heap.size w w') : JT old A l gc l2 w' := ⟨h.1.below hb, h.2.1.below hb, h.2.2.1.below hb, h.2.2.2.below hb⟩
theorem set_same {l : List Nat} {j p : Nat} (hj : j < l.length) : l = l.set j p ↔ l[j] = p := by
  constructor
  · intro h
    have h2 : (l.set j p)[j]'(by simpa using hj) = p := by simp
    rw [← h2]
    congr 1
  · intro h
    rw [← h]
    simp
theorem div_place {W ka : Nat} : (ka / W) * W + ka % W = ka := by rw [Nat.mul_comm]; exact Nat.div_add_mod ka W
set_option maxHeartbeats 8000000 in
set_option maxRecDepth 100000 in
theorem sums_core (W H : Nat) (A : Option Addr) (l : List Nat) (c : Nat) (kx : Int) (p : Nat) (hs : sidesB (W : Nat) (H : Nat) = true) (hlen : l.length = W * H) (hk0 : chk (W : Nat) (H : Nat) l = 0) (h400 : l.length ≤ 400) (hz : ∀ z ∈ l, z < 4294967296) (hp4 : p < 4294967296) (w : World) (hr : Row eW w A l) (ht : crcs.TabAt w) :
    Calls Tryd.prog 5 #[imV (W : Nat) (H : Nat) A l.length c, .int .i64 kx, .int .u32 (p : Nat)] w fun e w' => e = .returned (.bool true) ∧ Below w.heap.size w w' := by
  have hS := sidesB_iff.1 hs
  have hW0 : 0 < W := by omega
  have hW4 : W ≤ 4096 := by omega
  have hH4 : H ≤ 4096 := by omega
  have hn0 : 0 < l.length := by rw [hlen]; exact Nat.mul_pos (by omega) (by omega)
  have hml : l.length ≤ maxLen := by unfold maxLen; omega
  have hwb : wholeB (W : Nat) (H : Nat) l.length = true := whole_iff.2 ⟨hs, by rw [hlen]; simp⟩
  have HAW := Lib.hid (awk ht)
  have HT := Lib.hid ht
  have HR := Lib.hid hr
  have HAB : Hid (∀ b off, A = some ⟨b, off, none⟩ → b < w.heap.size) := fun b off e => by
    obtain ⟨b2, o2, e2, hb, _⟩ := hr.some_ hn0
    rw [e] at e2
    simp only [Option.some.injEq, Addr.mk.injEq, and_true] at e2
    omega
  have HLC : Hid (∀ w, Row eW w A l → Calls Tryd.prog 8 #[.agg #[.int .i64 (W : Nat), .int .i64 (H : Nat), .slice A l.length c]] w fun e w' => e = .returned (.int .i64 0) ∧ Below w.heap.size w w') := fun w h => by
    have h2 := lcheck_any (W : Nat) (H : Nat) A l c hz hml w h
    rw [hk0] at h2
    exact h2
  have HFR := Lib.hid (fun w => dfr_any p hp4 w)
  have HRT := Lib.hid (fun w => drt_any p hp4 w)
  have HCP := Lib.hid (fun w hr => copy_any (W : Nat) (H : Nat) A l c w hr hn0 (by omega))
  unfold CopyQ at HCP
  have HE1 : Hid (∀ gc cap w, Row eW w A l → Px w gc l → Calls Tryd.prog 20 #[.agg #[.int .i64 (W : Nat), .int .i64 (H : Nat), .slice A l.length c], .agg #[.int .i64 (W : Nat), .int .i64 (H : Nat), .slice (some ⟨gc, 0, none⟩) l.length cap]] w fun e w' => e = .returned (.bool true) ∧ Below w.heap.size w w') := fun gc cap w h1 h2 => by
    have h := equal_any (W : Nat) (H : Nat) A l c (W : Nat) (H : Nat) (some ⟨gc, 0, none⟩) l cap w h1 h2.row hn0 hn0 hml hml
    rw [show eqB (W : Nat) (H : Nat) l (W : Nat) (H : Nat) l = true by simp [eqB]] at h
    exact h
  obtain ⟨sm, hsm⟩ : ∃ x, crcs.sum (sumL W H l) = x := ⟨_, rfl⟩
  have HS1 : Hid (∀ w, Row eW w A l → crcs.TabAt w → Calls Tryd.prog 21 #[.agg #[.int .i64 (W : Nat), .int .i64 (H : Nat), .slice A l.length c]] w fun e w' => e = .returned (.int .u32 (sm : Nat)) ∧ Below w.heap.size w w') := fun w h1 h2 => by
    have h := isum_any W H hW4 hH4 A l c hz (by omega) w h1 h2
    rw [hsm] at h
    exact h
  have HS2 : Hid (∀ gc cap w, Px w gc l → crcs.TabAt w → Calls Tryd.prog 21 #[.agg #[.int .i64 (W : Nat), .int .i64 (H : Nat), .slice (some ⟨gc, 0, none⟩) l.length cap]] w fun e w' => e = .returned (.int .u32 (sm : Nat)) ∧ Below w.heap.size w w') := fun gc cap w h1 h2 => by
    have h := isum_any W H hW4 hH4 (some ⟨gc, 0, none⟩) l cap hz (by omega) w h1.row h2
    rw [hsm] at h
    exact h
  obtain ⟨bs, hbs⟩ : ∃ x, crcs.strOf (sumL W H l) = x := ⟨_, rfl⟩
  have HBY : Hid (∀ w, Row eW w A l → Calls Tryd.prog 23 #[.agg #[.int .i64 (W : Nat), .int .i64 (H : Nat), .slice A l.length c]] w fun e w' => e = .returned (.string bs) ∧ Below w.heap.size w w') := fun w h1 => by
    have h := bytes_any W H hW4 hH4 A l c hz (by omega) w h1
    rw [hbs] at h
    exact h
  have HRS : Hid (∀ w, Calls Tryd.prog 22 #[.string bs] w fun e w' => e = .returned (.int .u32 (sm : Nat)) ∧ Below w.heap.size w w') := fun w => by
    have h := crcs.ref_any bs w (by rw [← hbs, crcs.strOf_size, sumL_len]; unfold maxLen; omega)
    rw [← hbs, crcs.natsOf_strOf (sumL_are (by omega) (by omega) hz), hsm, hbs] at h
    exact h.mono fun _ _ ⟨he, hw⟩ => ⟨he, by rw [hw]; exact Below.refl _ _⟩
  -- what is asked at a place
  have HPL : Hid (∀ (ka : Nat) (hk : ka < l.length), ∃ la sm2, l[ka] = la ∧ la < 4294967296 ∧ (∀ w, Row eW w A l → Calls Tryd.prog 18 #[.agg #[.int .i64 (W : Nat), .int .i64 (H : Nat), .slice A l.length c], .int .i64 (ka % W : Nat), .int .i64 (ka / W : Nat)] w fun e w' => e = .returned (.int .u32 (la : Nat)) ∧ Below w.heap.size w w') ∧
      (rb p = true → ∀ gc cap w, Px w gc l → Calls Tryd.prog 15 #[.agg #[.int .i64 (W : Nat), .int .i64 (H : Nat), .slice (some ⟨gc, 0, none⟩) l.length cap], .int .i64 (ka % W : Nat), .int .i64 (ka / W : Nat), .int .u32 (p : Nat)] w fun e w' => e = .returned (.bool true) ∧ Px w' gc (l.set ka p) ∧ Off [gc] w w') ∧
      (∀ gc cap w, Row eW w A l → Px w gc (l.set ka p) → Calls Tryd.prog 20 #[.agg #[.int .i64 (W : Nat), .int .i64 (H : Nat), .slice A l.length c], .agg #[.int .i64 (W : Nat), .int .i64 (H : Nat), .slice (some ⟨gc, 0, none⟩) l.length cap]] w fun e w' => e = .returned (.bool ((la : Int) == (p : Int))) ∧ Below w.heap.size w w') ∧
      (∀ gc cap w, Px w gc (l.set ka p) → crcs.TabAt w → Calls Tryd.prog 21 #[.agg #[.int .i64 (W : Nat), .int .i64 (H : Nat), .slice (some ⟨gc, 0, none⟩) l.length cap]] w fun e w' => e = .returned (.int .u32 (sm2 : Nat)) ∧ Below w.heap.size w w') ∧ ((sm : Int) == (sm2 : Int)) = ((la : Int) == (p : Int))) := fun ka hk => by
    have hi : inB (W : Nat) (H : Nat) (ka % W : Nat) (ka / W : Nat) = true := place_ok hW0 (by rw [← hlen]; exact hk)
    have hpl : (((ka / W : Nat) : Int) * (W : Nat) + (ka % W : Nat)).toNat = ka := by
      have h : ((ka / W : Nat) : Int) * (W : Nat) + (ka % W : Nat) = (ka : Nat) := by
        have := div_place (W := W) (ka := ka)
        rw [← Int.natCast_mul, ← Int.natCast_add, this]
      rw [h, Int.toNat_natCast]
    refine ⟨l[ka], crcs.sum (sumL W H (l.set ka p)), rfl, hz _ (List.getElem_mem hk), fun w h => ?_, fun hrb gc cap w h => ?_, fun gc cap w h1 h2 => ?_, fun gc cap w h1 h2 => ?_, ?_⟩
    · have h2 := at_any (W : Nat) (H : Nat) A l c (ka % W : Nat) (ka / W : Nat) hwb hml w h
      unfold pixAt at h2
      rw [if_pos hi, hpl, List.getD_eq_getElem?_getD, List.getElem?_eq_getElem hk] at h2
      exact h2
    · have h2 := set_any (W : Nat) (H : Nat) gc l cap (ka % W : Nat) (ka / W : Nat) p hp4 hwb hml w h
      unfold pxSet at h2
      rw [hi, hrb, hpl] at h2
      exact h2
    · have h := equal_any (W : Nat) (H : Nat) A l c (W : Nat) (H : Nat) (some ⟨gc, 0, none⟩) (l.set ka p) cap w h1 h2.row hn0 (by rw [List.length_set]; exact hn0) hml (by rw [List.length_set]; exact hml)
      rw [List.length_set, show eqB (W : Nat) (H : Nat) l (W : Nat) (H : Nat) (l.set ka p) = ((l[ka] : Int) == (p : Int)) by
        unfold eqB
        rw [decide_eq_true rfl, decide_eq_true rfl, Bool.true_and, Bool.true_and, Bool.eq_iff_iff, decide_eq_true_eq, set_same hk, beq_iff_eq]
        omega] at h
      exact h
    · have h := isum_any W H hW4 hH4 (some ⟨gc, 0, none⟩) (l.set ka p) cap (fun z hm => (List.mem_or_eq_of_mem_set hm).elim (hz z) (fun h => by rw [h]; exact hp4)) (by rw [List.length_set]; omega) w h1.row h2
      rw [List.length_set] at h
      exact h
    · have h := sums_apart W H l hk p (hz _ (List.getElem_mem hk)) hp4
      rw [hsm] at h
      rw [Bool.eq_iff_iff, beq_iff_eq, beq_iff_eq]
      constructor
      · intro h2; have := h.1 (by omega); omega
      · intro h2; have := h.2 (by omega); omega
  have HTU : Hid (∀ w, Row eW w A l → Calls Tryd.prog 20 #[.agg #[.int .i64 (W : Nat), .int .i64 (H : Nat), .slice A l.length c], .agg #[.int .i64 (H : Nat), .int .i64 (W : Nat), .slice A l.length c]] w fun e w' => e = .returned (.bool ((W : Int) == (H : Int))) ∧ Below w.heap.size w w') := fun w h1 => by
    have h := equal_any (W : Nat) (H : Nat) A l c (H : Nat) (W : Nat) A l c w h1 h1 hn0 hn0 hml hml
    rw [show eqB (W : Nat) (H : Nat) l (H : Nat) (W : Nat) l = ((W : Int) == (H : Int)) by
      unfold eqB
      rw [Bool.eq_iff_iff, decide_eq_true rfl, Bool.and_true, Bool.and_eq_true, decide_eq_true_eq, decide_eq_true_eq, beq_iff_eq]
      omega] at h
    exact h
  have HAW2 : Hid (∀ w, crcs.TabAt w → Calls Tryd.prog 7 #[] w fun e w' => e = .returned (.bool true) ∧ Below w.heap.size w w') := fun w h => awake_any w h
  have HNW : Hid (¬ W = 0) := by show ¬ _; omega
  clear hsm hbs hS hW4 hH4 hml hwb ht hr hs hk0 hz
  have hn63 : l.length ≤ 9223372036854775807 := by omega
  have HLEN := Lib.hid hlen
  clear hlen
  unfold frV imV at *
  have t1 : decide ((400 : Int) < (l.length : Int)) = false := by simp; omega
  go_enter Tryd.func5, Tryd.ntmps5
  go_wp2_with (fail)
  have hb0 : Below w.heap.size w (w.alloc (.cells #[.int .i64 (W : Nat), .int .i64 (H : Nat), .slice A l.length c] 24)) := (Below.refl _ _).alloc (Nat.le_refl _) _
  refine (HLC.out _ (HR.out.below hb0)).mono ?_
  rintro e w1 ⟨rfl, hb⟩
  have HB1 : Hid (Below w.heap.size w w1) := hb0.trans (hb.mono hb0.size)
  have K1 : Hid (Blk w1 w.heap.size [.int .i64 (W : Nat), .int .i64 (H : Nat), .slice A l.length c]) := (blk_new w [.int .i64 (W : Nat), .int .i64 (H : Nat), .slice A l.length c] _).below' hb
  clear hb hb0 HLC t1
  go_wp2_with (fail)
  refine (HFR.out _).mono ?_
  rintro e w2 ⟨rfl, hb⟩
  have HB2 : Hid (Below w.heap.size w w2) := HB1.out.trans (hb.mono HB1.out.size)
  have K2 := Lib.hid (K1.out.below' hb)
  clear hb HFR HB1 K1
  go_wp2_with (fail)
  refine (HRT.out _).mono ?_
  rintro e w3 ⟨rfl, hb⟩
  have HB3 : Hid (Below w.heap.size w w3) := HB2.out.trans (hb.mono HB2.out.size)
  have K3 := Lib.hid (K2.out.below' hb)
  clear hb HRT HB2 K2
  generalize hyy : rb p = y at *
  cases y with
  | false =>
    go_wp2_with (fail)
    refine (HAW.out _ HB3.out).mono ?_
    rintro e w4 ⟨rfl, hb⟩
    have HB4 := Lib.hid hb
    clear hb
    go_wp2_with (fail)
    go_ret
    exact ⟨rfl, HB4.out⟩
  | true =>
    clear hyy
    obtain ⟨⟨c0, c1, c2⟩, -, ci⟩ := K3.out.c3
    go_wp2_with (fail)
    refine (HCP.out _ (HR.out.below HB3.out)).mono ?_
    rintro e w4 ⟨gc, cap, rfl, hx, hgc, hcap, hcm, hb⟩
    have HB4 : Hid (Below w.heap.size w w4) := HB3.out.trans (hb.mono HB3.out.size)
    have K4 := Lib.hid (K3.out.below' hb)
    have HX4 := Lib.hid hx
    have HGC : Hid (w.heap.size < gc ∧ gc < w4.heap.size) := ⟨Nat.lt_of_lt_of_le K3.out.inside hgc, hx.inside⟩
    clear hb hx hgc hcap hcm HB3 K3 HCP c0 c1 c2 ci
    go_wp2_with (fail)
    have hb5 : Below w4.heap.size w4 (w4.alloc (.cells #[.int .i64 (W : Nat), .int .i64 (H : Nat), .slice (some ⟨gc, 0, none⟩) l.length cap] 24)) := (Below.refl _ _).alloc (Nat.le_refl _) _
    have HB5 := Lib.hid (HB4.out.trans (hb5.mono HB4.out.size))
    have HJ5 : Hid (JT [(w.heap.size, [.int .i64 (W : Nat), .int .i64 (H : Nat), .slice A l.length c]), (w4.heap.size, [.int .i64 (W : Nat), .int .i64 (H : Nat), .slice (some ⟨gc, 0, none⟩) l.length cap])] A l gc l (w4.alloc (.cells #[.int .i64 (W : Nat), .int .i64 (H : Nat), .slice (some ⟨gc, 0, none⟩) l.length cap] 24))) :=
      ⟨⟨K4.out.below' hb5, blk_new w4 [.int .i64 (W : Nat), .int .i64 (H : Nat), .slice (some ⟨gc, 0, none⟩) l.length cap] _, trivial⟩, HR.out.below HB5.out, HX4.out.below hb5, HT.out.below HB5.out⟩
    clear hb5 HB4 K4 HX4
    generalize w4.alloc (.cells #[.int .i64 (W : Nat), .int .i64 (H : Nat), .slice (some ⟨gc, 0, none⟩) l.length cap] 24) = w5 at *
    generalize w4.heap.size = bc at *
    have qsm : ((sm : Int) != (sm : Int)) = false := by simp
    refine regs.wp_region_put (regs.bl) (fun _ wx => JT [(w.heap.size, [.int .i64 (W : Nat), .int .i64 (H : Nat), .slice A l.length c]), (bc, [.int .i64 (W : Nat), .int .i64 (H : Nat), .slice (some ⟨gc, 0, none⟩) l.length cap])] A l gc l wx) [29, 30, 31, 32, 33, 34, 35, 36, 37, 38, 39, 40, 41, 42, 43, 44, 45, 46, 47] (by kernel_rfl) (by kernel_rfl) (fun _ => regs.bl_refl _) (regs.bl_trans) (fun i => (match i with
      | 0 => regs.Say.val _ (.agg #[.int .i64 (W : Nat), .int .i64 (H : Nat), .slice A l.length c])
      | 1 => regs.Say.val _ (.agg #[.int .i64 (W : Nat), .int .i64 (H : Nat), .slice (some ⟨gc, 0, none⟩) l.length cap])
      | 2 => regs.Say.val _ (.bool true)
      | 3 => regs.Say.val _ (.bool false)
      | 4 => regs.Say.val _ (.bool false)
      | 5 => regs.Say.val _ (.agg #[.int .i64 (W : Nat), .int .i64 (H : Nat), .slice A l.length c])
      | 6 => regs.Say.val _ (.int .u32 (sm : Nat))
      | 7 => regs.Say.val _ (.agg #[.int .i64 (W : Nat), .int .i64 (H : Nat), .slice A l.length c])
      | 8 => regs.Say.val _ (.string bs)
      | 9 => regs.Say.val _ (.int .u32 (sm : Nat))
      | 10 => regs.Say.val _ (.bool false)
      | 11 => regs.Say.val _ (.bool false)
      | 12 => regs.Say.val _ (.bool false)
      | 13 => regs.Say.val _ (.agg #[.int .i64 (W : Nat), .int .i64 (H : Nat), .slice (some ⟨gc, 0, none⟩) l.length cap])
      | 14 => regs.Say.val _ (.int .u32 (sm : Nat))
      | 15 => regs.Say.val _ (.agg #[.int .i64 (W : Nat), .int .i64 (H : Nat), .slice A l.length c])
      | 16 => regs.Say.val _ (.int .u32 (sm : Nat))
      | 17 => regs.Say.val _ (.bool false)
      | 18 => regs.Say.val _ (.bool false)
      | _ => regs.Say.any _ : regs.Say (regs.bl)).p) (fun _ => regs.Say.mono _) (by kernel_rfl) ((Below.refl _ _).drew) (HJ5.out) ⟨?_, ?_, ?_, ?_, ?_, ?_, ?_, ?_, ?_, ?_, ?_, ?_, ?_, ?_, ?_, ?_, ?_, ?_, ?_, trivial⟩ ?_
    · refine regs.StepOK.plain rfl fun L a w1 hh => ?_
      have h3 : a.tmps[3]?.getD undef = .pointer (some ⟨w.heap.size, 0, none⟩) := by rw [← Array.getD_eq_getD_getElem?]; exact hh.old 3 rfl
      obtain ⟨⟨c0, c1, c2⟩, -, ci⟩ := (hh.st.1.1).c3
      have hJ := Lib.hid hh.st
      clear hh
      go_simp
      exact ⟨_, rfl, regs.bl_refl _, rfl, hJ.out⟩
    · refine regs.StepOK.plain rfl fun L a w1 hh => ?_
      have h7 : a.tmps[7]?.getD undef = .pointer (some ⟨bc, 0, none⟩) := by rw [← Array.getD_eq_getD_getElem?]; exact hh.old 7 rfl
      obtain ⟨⟨c0, c1, c2⟩, -, ci⟩ := (hh.st.1.2.1).c3
      have hJ := Lib.hid hh.st
      clear hh
      go_simp
      exact ⟨_, rfl, regs.bl_refl _, rfl, hJ.out⟩
    · refine regs.StepOK.plain rfl fun L a w1 hh => ?_
      have h29 : a.tmps[29]?.getD undef = .agg #[.int .i64 (W : Nat), .int .i64 (H : Nat), .slice A l.length c] := by rw [← Array.getD_eq_getD_getElem?]; exact hh.dep 0 29 (by kernel_rfl) (by kernel_rfl)
      have h30 : a.tmps[30]?.getD undef = .agg #[.int .i64 (W : Nat), .int .i64 (H : Nat), .slice (some ⟨gc, 0, none⟩) l.length cap] := by rw [← Array.getD_eq_getD_getElem?]; exact hh.dep 1 30 (by kernel_rfl) (by kernel_rfl)
      have := True.intro
      have hJ := Lib.hid hh.st
      clear hh
      go_simp
      refine (HE1.out gc cap w1 hJ.out.2.1 hJ.out.2.2.1).mono ?_
      rintro e w9 ⟨rfl, hb9⟩
      exact ⟨_, rfl, hb9, rfl, JT.below hJ.out hb9⟩
    · refine regs.StepOK.plain rfl fun L a w1 hh => ?_
      have h31 : a.tmps[31]?.getD undef = .bool true := by rw [← Array.getD_eq_getD_getElem?]; exact hh.dep 2 31 (by kernel_rfl) (by kernel_rfl)
      have hJ := Lib.hid hh.st
      clear hh
      go_simp
      exact ⟨_, rfl, regs.bl_refl _, rfl, hJ.out⟩
    · refine regs.StepOK.plain rfl fun L a w1 hh => ?_
      have h32 : a.tmps[32]?.getD undef = .bool false := by rw [← Array.getD_eq_getD_getElem?]; exact hh.dep 3 32 (by kernel_rfl) (by kernel_rfl)
      have hJ := Lib.hid hh.st
      clear hh
      go_simp
      exact ⟨_, rfl, regs.bl_refl _, rfl, hJ.out⟩
    · refine regs.StepOK.yes 4 false 33 rfl rfl (fun L a w1 hh => hh.dep 4 33 (by kernel_rfl) (by kernel_rfl)) fun L a w1 hh => ?_
      have h3 : a.tmps[3]?.getD undef = .pointer (some ⟨w.heap.size, 0, none⟩) := by rw [← Array.getD_eq_getD_getElem?]; exact hh.old 3 rfl
      obtain ⟨⟨c0, c1, c2⟩, -, ci⟩ := (hh.st.1.1).c3
      have hJ := Lib.hid hh.st
      clear hh
      go_simp
      exact ⟨_, rfl, regs.bl_refl _, rfl, hJ.out⟩
    · refine regs.StepOK.yes 4 false 33 rfl rfl (fun L a w1 hh => hh.dep 4 33 (by kernel_rfl) (by kernel_rfl)) fun L a w1 hh => ?_
      have h34 : a.tmps[34]?.getD undef = .agg #[.int .i64 (W : Nat), .int .i64 (H : Nat), .slice A l.length c] := by rw [← Array.getD_eq_getD_getElem?]; exact hh.dep 5 34 (by kernel_rfl) (by kernel_rfl)
      have := True.intro
      have hJ := Lib.hid hh.st
      clear hh
      go_simp
      refine (HS1.out w1 hJ.out.2.1 hJ.out.2.2.2).mono ?_
      rintro e w9 ⟨rfl, hb9⟩
      exact ⟨_, rfl, hb9, rfl, JT.below hJ.out hb9⟩
    · refine regs.StepOK.yes 4 false 33 rfl rfl (fun L a w1 hh => hh.dep 4 33 (by kernel_rfl) (by kernel_rfl)) fun L a w1 hh => ?_
      have h3 : a.tmps[3]?.getD undef = .pointer (some ⟨w.heap.size, 0, none⟩) := by rw [← Array.getD_eq_getD_getElem?]; exact hh.old 3 rfl
      obtain ⟨⟨c0, c1, c2⟩, -, ci⟩ := (hh.st.1.1).c3
      have hJ := Lib.hid hh.st
      clear hh
      go_simp
      exact ⟨_, rfl, regs.bl_refl _, rfl, hJ.out⟩
    · refine regs.StepOK.yes 4 false 33 rfl rfl (fun L a w1 hh => hh.dep 4 33 (by kernel_rfl) (by kernel_rfl)) fun L a w1 hh => ?_
      have h36 : a.tmps[36]?.getD undef = .agg #[.int .i64 (W : Nat), .int .i64 (H : Nat), .slice A l.length c] := by rw [← Array.getD_eq_getD_getElem?]; exact hh.dep 7 36 (by kernel_rfl) (by kernel_rfl)
      have := True.intro
      have hJ := Lib.hid hh.st
      clear hh
      go_simp
      refine (HBY.out w1 hJ.out.2.1).mono ?_
      rintro e w9 ⟨rfl, hb9⟩
      exact ⟨_, rfl, hb9, rfl, JT.below hJ.out hb9⟩
    · refine regs.StepOK.yes 4 false 33 rfl rfl (fun L a w1 hh => hh.dep 4 33 (by kernel_rfl) (by kernel_rfl)) fun L a w1 hh => ?_
      have h37 : a.tmps[37]?.getD undef = .string bs := by rw [← Array.getD_eq_getD_getElem?]; exact hh.dep 8 37 (by kernel_rfl) (by kernel_rfl)
      have := True.intro
      have hJ := Lib.hid hh.st
      clear hh
      go_simp
      refine (HRS.out w1).mono ?_
      rintro e w9 ⟨rfl, hb9⟩
      exact ⟨_, rfl, hb9, rfl, JT.below hJ.out hb9⟩
    · refine regs.StepOK.yes 4 false 33 rfl rfl (fun L a w1 hh => hh.dep 4 33 (by kernel_rfl) (by kernel_rfl)) fun L a w1 hh => ?_
      have h35 : a.tmps[35]?.getD undef = .int .u32 (sm : Nat) := by rw [← Array.getD_eq_getD_getElem?]; exact hh.dep 6 35 (by kernel_rfl) (by kernel_rfl)
      have h38 : a.tmps[38]?.getD undef = .int .u32 (sm : Nat) := by rw [← Array.getD_eq_getD_getElem?]; exact hh.dep 9 38 (by kernel_rfl) (by kernel_rfl)
      have q := qsm
      have hJ := Lib.hid hh.st
      clear hh
      go_simp
      exact ⟨_, rfl, regs.bl_refl _, rfl, hJ.out⟩
    · refine regs.StepOK.plain rfl fun L a w1 hh => ?_
      have h33 : a.tmps[33]?.getD undef = .bool false := by rw [← Array.getD_eq_getD_getElem?]; exact hh.dep 4 33 (by kernel_rfl) (by kernel_rfl)
      have h39 : a.tmps[39]?.getD undef = .bool false := by rw [← Array.getD_eq_getD_getElem?]; exact hh.dep 10 39 (by kernel_rfl) (by kernel_rfl)
      have hJ := Lib.hid hh.st
      clear hh
      go_simp
      exact ⟨_, rfl, regs.bl_refl _, rfl, hJ.out⟩
    · refine regs.StepOK.plain rfl fun L a w1 hh => ?_
      have h40 : a.tmps[40]?.getD undef = .bool false := by rw [← Array.getD_eq_getD_getElem?]; exact hh.dep 11 40 (by kernel_rfl) (by kernel_rfl)
      have hJ := Lib.hid hh.st
      clear hh
      go_simp
      exact ⟨_, rfl, regs.bl_refl _, rfl, hJ.out⟩
    · refine regs.StepOK.yes 12 false 41 rfl rfl (fun L a w1 hh => hh.dep 12 41 (by kernel_rfl) (by kernel_rfl)) fun L a w1 hh => ?_
      have h7 : a.tmps[7]?.getD undef = .pointer (some ⟨bc, 0, none⟩) := by rw [← Array.getD_eq_getD_getElem?]; exact hh.old 7 rfl
      obtain ⟨⟨c0, c1, c2⟩, -, ci⟩ := (hh.st.1.2.1).c3
      have hJ := Lib.hid hh.st
      clear hh
      go_simp
      exact ⟨_, rfl, regs.bl_refl _, rfl, hJ.out⟩
    · refine regs.StepOK.yes 12 false 41 rfl rfl (fun L a w1 hh => hh.dep 12 41 (by kernel_rfl) (by kernel_rfl)) fun L a w1 hh => ?_
      have h42 : a.tmps[42]?.getD undef = .agg #[.int .i64 (W : Nat), .int .i64 (H : Nat), .slice (some ⟨gc, 0, none⟩) l.length cap] := by rw [← Array.getD_eq_getD_getElem?]; exact hh.dep 13 42 (by kernel_rfl) (by kernel_rfl)
      have := True.intro
      have hJ := Lib.hid hh.st
      clear hh
      go_simp
      refine (HS2.out gc cap w1 hJ.out.2.2.1 hJ.out.2.2.2).mono ?_
      rintro e w9 ⟨rfl, hb9⟩
      exact ⟨_, rfl, hb9, rfl, JT.below hJ.out hb9⟩
    · refine regs.StepOK.yes 12 false 41 rfl rfl (fun L a w1 hh => hh.dep 12 41 (by kernel_rfl) (by kernel_rfl)) fun L a w1 hh => ?_
      have h3 : a.tmps[3]?.getD undef = .pointer (some ⟨w.heap.size, 0, none⟩) := by rw [← Array.getD_eq_getD_getElem?]; exact hh.old 3 rfl
      obtain ⟨⟨c0, c1, c2⟩, -, ci⟩ := (hh.st.1.1).c3
      have hJ := Lib.hid hh.st
      clear hh
      go_simp
      exact ⟨_, rfl, regs.bl_refl _, rfl, hJ.out⟩
    · refine regs.StepOK.yes 12 false 41 rfl rfl (fun L a w1 hh => hh.dep 12 41 (by kernel_rfl) (by kernel_rfl)) fun L a w1 hh => ?_
      have h44 : a.tmps[44]?.getD undef = .agg #[.int .i64 (W : Nat), .int .i64 (H : Nat), .slice A l.length c] := by rw [← Array.getD_eq_getD_getElem?]; exact hh.dep 15 44 (by kernel_rfl) (by kernel_rfl)
      have := True.intro
      have hJ := Lib.hid hh.st
      clear hh
      go_simp
      refine (HS1.out w1 hJ.out.2.1 hJ.out.2.2.2).mono ?_
      rintro e w9 ⟨rfl, hb9⟩
      exact ⟨_, rfl, hb9, rfl, JT.below hJ.out hb9⟩
    · refine regs.StepOK.yes 12 false 41 rfl rfl (fun L a w1 hh => hh.dep 12 41 (by kernel_rfl) (by kernel_rfl)) fun L a w1 hh => ?_
      have h43 : a.tmps[43]?.getD undef = .int .u32 (sm : Nat) := by rw [← Array.getD_eq_getD_getElem?]; exact hh.dep 14 43 (by kernel_rfl) (by kernel_rfl)
      have h45 : a.tmps[45]?.getD undef = .int .u32 (sm : Nat) := by rw [← Array.getD_eq_getD_getElem?]; exact hh.dep 16 45 (by kernel_rfl) (by kernel_rfl)
      have q := qsm
      have hJ := Lib.hid hh.st
      clear hh
      go_simp
      exact ⟨_, rfl, regs.bl_refl _, rfl, hJ.out⟩
    · refine regs.StepOK.plain rfl fun L a w1 hh => ?_
      have h41 : a.tmps[41]?.getD undef = .bool false := by rw [← Array.getD_eq_getD_getElem?]; exact hh.dep 12 41 (by kernel_rfl) (by kernel_rfl)
      have h46 : a.tmps[46]?.getD undef = .bool false := by rw [← Array.getD_eq_getD_getElem?]; exact hh.dep 17 46 (by kernel_rfl) (by kernel_rfl)
      have hJ := Lib.hid hh.st
      clear hh
      go_simp
      exact ⟨_, rfl, regs.bl_refl _, rfl, hJ.out⟩
    intro L w6 val hL hJ hR hv
    have h47 : val 47 = .bool false := hv 18 47 (by kernel_rfl)
    have HK6 := Lib.hid hJ
    have HR6 := Lib.hid hR
    clear hv hL hJ hR
    simp only [regs.putAll, List.map_cons, List.map_nil]
    rw [h47]
    generalize val 29 = v29
    generalize val 30 = v30
    generalize val 31 = v31
    generalize val 32 = v32
    generalize val 33 = v33
    generalize val 34 = v34
    generalize val 35 = v35
    generalize val 36 = v36
    generalize val 37 = v37
    generalize val 38 = v38
    generalize val 39 = v39
    generalize val 40 = v40
    generalize val 41 = v41
    generalize val 42 = v42
    generalize val 43 = v43
    generalize val 44 = v44
    generalize val 45 = v45
    generalize val 46 = v46
    simp only [Act.put, List.setIfInBounds_toArray, List.set_cons_zero, List.set_cons_succ]
    clear h47
    have HB6 : Hid (Below w.heap.size w w6) := HB5.out.trans (HR6.out.mono HB5.out.size)
    clear HJ5 HR6 HB5 HE1 HS2 HBY HRS qsm
    have hj := HK6.out.1.1
    obtain ⟨⟨c0, c1, c2⟩, -, ci⟩ := hj.c3
    clear hj
    by_cases k0 : kx < 0
    · have t : decide (kx < 0) = true := by simpa using k0
      clear k0
      go_wp2_with (fail)
      refine (HAW.out _ HB6.out).mono ?_
      rintro e w7 ⟨rfl, hb⟩
      have HB7 := Lib.hid hb
      clear hb
      go_wp2_with (fail)
      go_ret
      exact ⟨rfl, HB7.out⟩
    · obtain ⟨ka, rfl⟩ := Int.eq_ofNat_of_zero_le (show 0 ≤ kx by omega)
      have t : decide ((ka : Int) < 0) = false := by simp
      by_cases k1 : l.length ≤ ka
      · have t2 : decide (l.length ≤ ka) = true := by simpa using k1
        clear k0 k1
        go_wp2_with (fail)
        refine (HAW.out _ HB6.out).mono ?_
        rintro e w7 ⟨rfl, hb⟩
        have HB7 := Lib.hid hb
        clear hb
        go_wp2_with (fail)
        go_ret
        exact ⟨rfl, HB7.out⟩
      · have t2 : decide (l.length ≤ ka) = false := by simpa using k1
        obtain ⟨la, sm2, hla, hla4, hat, hset, heq, hsum, hss⟩ := HPL.out ka (by omega)
        have HAT := Lib.hid hat
        have HSET := Lib.hid (hset (by trivial))
        have HEQ := Lib.hid heq
        have HSU := Lib.hid hsum
        have HSS := Lib.hid hss
        have hq1 : Int.tmod (ka : Int) (W : Int) = ((ka % W : Nat) : Int) := rfl
        have hq2 : Int.tdiv (ka : Int) (W : Int) = ((ka / W : Nat) : Int) := rfl
        have HDW : Hid (IntKind.i64.wrap ((ka / W : Nat) : Int) = ((ka / W : Nat) : Int)) := IntWalk.i64_in _ (by have h9 := Nat.div_le_self ka W; generalize ka / W = q9 at *; omega)
        have HD1 := Lib.hid hq1
        have HD2 := Lib.hid hq2
        obtain ⟨l2, hl2⟩ : ∃ x, l.set ka p = x := ⟨_, rfl⟩
        rw [hl2] at HSET HEQ HSU
        clear hat hset heq hsum hss hla hla4 HPL hq1 hq2 hl2 k0 k1
        generalize ka % W = am at *
        generalize ka / W = ad at *
        go_wp2_with (fail)
        have HJ6 : Hid (JT [(w.heap.size, [.int .i64 (W : Nat), .int .i64 (H : Nat), .slice A l.length c]), (bc, [.int .i64 (W : Nat), .int .i64 (H : Nat), .slice (some ⟨gc, 0, none⟩) l.length cap])] A l gc l w6) := HK6.out
        clear HK6 c0 c1 c2 ci
        refine regs.wp_region_put (regs.bl) (fun _ wx => JT [(w.heap.size, [.int .i64 (W : Nat), .int .i64 (H : Nat), .slice A l.length c]), (bc, [.int .i64 (W : Nat), .int .i64 (H : Nat), .slice (some ⟨gc, 0, none⟩) l.length cap])] A l gc l wx) [58, 59, 60, 61, 62, 63, 64, 65, 66, 67, 8] (by kernel_rfl) (by kernel_rfl) (fun _ => regs.bl_refl _) (regs.bl_trans) (fun i => (match i with
          | 0 => regs.Say.val _ (.agg #[.int .i64 (W : Nat), .int .i64 (H : Nat), .slice A l.length c])
          | 1 => regs.Say.val _ (.int .i64 (ka : Nat))
          | 2 => regs.Say.val _ (.pointer (some ⟨w.heap.size, 0, none⟩))
          | 3 => regs.Say.val _ (.int .i64 (W : Nat))
          | 4 => regs.Say.val _ (.int .i64 (am : Nat))
          | 5 => regs.Say.val _ (.int .i64 (ka : Nat))
          | 6 => regs.Say.val _ (.pointer (some ⟨w.heap.size, 0, none⟩))
          | 7 => regs.Say.val _ (.int .i64 (W : Nat))
          | 8 => regs.Say.val _ (.int .i64 (ad : Nat))
          | 9 => regs.Say.val _ (.int .u32 (la : Nat))
          | 10 => regs.Say.val _ (.int .u32 (la : Nat))
          | _ => regs.Say.any _ : regs.Say (regs.bl)).p) (fun _ => regs.Say.mono _) (by kernel_rfl) ((Below.refl _ _).drew) (HJ6.out) ⟨?_, ?_, ?_, ?_, ?_, ?_, ?_, ?_, ?_, ?_, ?_, trivial⟩ ?_
        · refine regs.StepOK.plain rfl fun L a w1 hh => ?_
          have h3 : a.tmps[3]?.getD undef = .pointer (some ⟨w.heap.size, 0, none⟩) := by rw [← Array.getD_eq_getD_getElem?]; exact hh.old 3 rfl
          obtain ⟨⟨c0, c1, c2⟩, -, ci⟩ := (hh.st.1.1).c3
          have hJ := Lib.hid hh.st
          clear hh
          go_simp
          exact ⟨_, rfl, regs.bl_refl _, rfl, hJ.out⟩
        · refine regs.StepOK.plain rfl fun L a w1 hh => ?_
          have h1 : a.tmps[1]?.getD undef = .int .i64 (ka : Nat) := by rw [← Array.getD_eq_getD_getElem?]; exact hh.old 1 rfl
          have hJ := Lib.hid hh.st
          clear hh
          go_simp
          exact ⟨_, rfl, regs.bl_refl _, rfl, hJ.out⟩
        · refine regs.StepOK.plain rfl fun L a w1 hh => ?_
          have h3 : a.tmps[3]?.getD undef = .pointer (some ⟨w.heap.size, 0, none⟩) := by rw [← Array.getD_eq_getD_getElem?]; exact hh.old 3 rfl
          have hJ := Lib.hid hh.st
          clear hh
          go_simp
          exact ⟨_, rfl, regs.bl_refl _, rfl, hJ.out⟩
        · refine regs.StepOK.plain rfl fun L a w1 hh => ?_
          have h60 : a.tmps[60]?.getD undef = .pointer (some ⟨w.heap.size, 0, none⟩) := by rw [← Array.getD_eq_getD_getElem?]; exact hh.dep 2 60 (by kernel_rfl) (by kernel_rfl)
          obtain ⟨⟨c0, c1, c2⟩, -, ci⟩ := (hh.st.1.1).c3
          have hJ := Lib.hid hh.st
          clear hh
          go_simp
          exact ⟨_, rfl, regs.bl_refl _, rfl, hJ.out⟩
        · refine regs.StepOK.plain rfl fun L a w1 hh => ?_
          have h59 : a.tmps[59]?.getD undef = .int .i64 (ka : Nat) := by rw [← Array.getD_eq_getD_getElem?]; exact hh.dep 1 59 (by kernel_rfl) (by kernel_rfl)
          have h61 : a.tmps[61]?.getD undef = .int .i64 (W : Nat) := by rw [← Array.getD_eq_getD_getElem?]; exact hh.dep 3 61 (by kernel_rfl) (by kernel_rfl)
          have q0 := HNW.out
          have q := HD1.out
          have hJ := Lib.hid hh.st
          clear hh
          go_simp
          exact ⟨_, rfl, regs.bl_refl _, rfl, hJ.out⟩
        · refine regs.StepOK.plain rfl fun L a w1 hh => ?_
          have h1 : a.tmps[1]?.getD undef = .int .i64 (ka : Nat) := by rw [← Array.getD_eq_getD_getElem?]; exact hh.old 1 rfl
          have hJ := Lib.hid hh.st
          clear hh
          go_simp
          exact ⟨_, rfl, regs.bl_refl _, rfl, hJ.out⟩
        · refine regs.StepOK.plain rfl fun L a w1 hh => ?_
          have h3 : a.tmps[3]?.getD undef = .pointer (some ⟨w.heap.size, 0, none⟩) := by rw [← Array.getD_eq_getD_getElem?]; exact hh.old 3 rfl
          have hJ := Lib.hid hh.st
          clear hh
          go_simp
          exact ⟨_, rfl, regs.bl_refl _, rfl, hJ.out⟩
        · refine regs.StepOK.plain rfl fun L a w1 hh => ?_
          have h64 : a.tmps[64]?.getD undef = .pointer (some ⟨w.heap.size, 0, none⟩) := by rw [← Array.getD_eq_getD_getElem?]; exact hh.dep 6 64 (by kernel_rfl) (by kernel_rfl)
          obtain ⟨⟨c0, c1, c2⟩, -, ci⟩ := (hh.st.1.1).c3
          have hJ := Lib.hid hh.st
          clear hh
          go_simp
          exact ⟨_, rfl, regs.bl_refl _, rfl, hJ.out⟩
        · refine regs.StepOK.plain rfl fun L a w1 hh => ?_
          have h63 : a.tmps[63]?.getD undef = .int .i64 (ka : Nat) := by rw [← Array.getD_eq_getD_getElem?]; exact hh.dep 5 63 (by kernel_rfl) (by kernel_rfl)
          have h65 : a.tmps[65]?.getD undef = .int .i64 (W : Nat) := by rw [← Array.getD_eq_getD_getElem?]; exact hh.dep 7 65 (by kernel_rfl) (by kernel_rfl)
          have q0 := HNW.out
          have q := HD2.out
          have q2 := HDW.out
          have hJ := Lib.hid hh.st
          clear hh
          go_simp
          exact ⟨_, rfl, regs.bl_refl _, rfl, hJ.out⟩
        · refine regs.StepOK.plain rfl fun L a w1 hh => ?_
          have h58 : a.tmps[58]?.getD undef = .agg #[.int .i64 (W : Nat), .int .i64 (H : Nat), .slice A l.length c] := by rw [← Array.getD_eq_getD_getElem?]; exact hh.dep 0 58 (by kernel_rfl) (by kernel_rfl)
          have h62 : a.tmps[62]?.getD undef = .int .i64 (am : Nat) := by rw [← Array.getD_eq_getD_getElem?]; exact hh.dep 4 62 (by kernel_rfl) (by kernel_rfl)
          have h66 : a.tmps[66]?.getD undef = .int .i64 (ad : Nat) := by rw [← Array.getD_eq_getD_getElem?]; exact hh.dep 8 66 (by kernel_rfl) (by kernel_rfl)
          have := True.intro
          have hJ := Lib.hid hh.st
          clear hh
          go_simp
          refine (HAT.out w1 hJ.out.2.1).mono ?_
          rintro e w9 ⟨rfl, hb9⟩
          exact ⟨_, rfl, hb9, rfl, JT.below hJ.out hb9⟩
        · refine regs.StepOK.plain rfl fun L a w1 hh => ?_
          have h67 : a.tmps[67]?.getD undef = .int .u32 (la : Nat) := by rw [← Array.getD_eq_getD_getElem?]; exact hh.dep 9 67 (by kernel_rfl) (by kernel_rfl)
          have hJ := Lib.hid hh.st
          clear hh
          go_simp
          exact ⟨_, rfl, regs.bl_refl _, rfl, hJ.out⟩
        intro L w7 val hL hJ hR hv
        have h8 : val 8 = .int .u32 (la : Nat) := hv 10 8 (by kernel_rfl)
        have HK7 := Lib.hid hJ
        have HR7 := Lib.hid hR
        clear hv hL hJ hR
        simp only [regs.putAll, List.map_cons, List.map_nil]
        rw [h8]
        generalize val 58 = v58
        generalize val 59 = v59
        generalize val 60 = v60
        generalize val 61 = v61
        generalize val 62 = v62
        generalize val 63 = v63
        generalize val 64 = v64
        generalize val 65 = v65
        generalize val 66 = v66
        generalize val 67 = v67
        simp only [Act.put, List.setIfInBounds_toArray, List.set_cons_zero, List.set_cons_succ]
        clear h8
        have HB7 : Hid (Below w.heap.size w w7) := HB6.out.trans (HR7.out.mono HB6.out.size)
        clear HR7 HJ6 HB6
        have HJ7 : Hid (JF [(w.heap.size, [.int .i64 (W : Nat), .int .i64 (H : Nat), .slice A l.length c]), (bc, [.int .i64 (W : Nat), .int .i64 (H : Nat), .slice (some ⟨gc, 0, none⟩) l.length cap])] [] gc l l2 false w7) := by
          have hg := HGC.out
          refine ⟨HK7.out.1, ⟨fun q hq => (nomatch hq), ?_⟩, HK7.out.2.2.1, trivial⟩
          intro q hq; simp only [List.mem_cons, List.not_mem_nil, or_false] at hq; rcases hq with rfl | rfl <;> simp only <;> omega
        clear HK7
        go_wp2_with (fail)
        refine regs.wp_region_put (Off [gc]) (fun L wx => JF [(w.heap.size, [.int .i64 (W : Nat), .int .i64 (H : Nat), .slice A l.length c]), (bc, [.int .i64 (W : Nat), .int .i64 (H : Nat), .slice (some ⟨gc, 0, none⟩) l.length cap])] [] gc l l2 (L 10) wx) [68, 69, 70, 71, 72, 73, 74, 75, 76, 77, 78] (by kernel_rfl) (by kernel_rfl) (fun _ => Off.refl _ _) (fun _ _ _ h k => h.trans k) (fun i => (match i with
          | 0 => regs.Say.val _ (.agg #[.int .i64 (W : Nat), .int .i64 (H : Nat), .slice (some ⟨gc, 0, none⟩) l.length cap])
          | 1 => regs.Say.val _ (.int .i64 (ka : Nat))
          | 2 => regs.Say.val _ (.pointer (some ⟨w.heap.size, 0, none⟩))
          | 3 => regs.Say.val _ (.int .i64 (W : Nat))
          | 4 => regs.Say.val _ (.int .i64 (am : Nat))
          | 5 => regs.Say.val _ (.int .i64 (ka : Nat))
          | 6 => regs.Say.val _ (.pointer (some ⟨w.heap.size, 0, none⟩))
          | 7 => regs.Say.val _ (.int .i64 (W : Nat))
          | 8 => regs.Say.val _ (.int .i64 (ad : Nat))
          | 9 => regs.Say.val _ (.int .u32 (p : Nat))
          | 10 => regs.Say.val _ (.bool true)
          | _ => regs.Say.any _ : regs.Say (Off [gc])).p) (fun _ => regs.Say.mono _) (by kernel_rfl) (Off.of_below (Below.refl _ _).drew) (HJ7.out) ⟨?_, ?_, ?_, ?_, ?_, ?_, ?_, ?_, ?_, ?_, ?_, trivial⟩ ?_
        · refine regs.StepOK.plain rfl fun L a w1 hh => ?_
          have h7 : a.tmps[7]?.getD undef = .pointer (some ⟨bc, 0, none⟩) := by rw [← Array.getD_eq_getD_getElem?]; exact hh.old 7 rfl
          obtain ⟨⟨c0, c1, c2⟩, -, ci⟩ := (hh.st.1.2.1).c3
          have hJ := Lib.hid hh.st
          clear hh
          go_simp
          exact ⟨_, rfl, Off.refl _ _, rfl, hJ.out⟩
        · refine regs.StepOK.plain rfl fun L a w1 hh => ?_
          have h1 : a.tmps[1]?.getD undef = .int .i64 (ka : Nat) := by rw [← Array.getD_eq_getD_getElem?]; exact hh.old 1 rfl
          have hJ := Lib.hid hh.st
          clear hh
          go_simp
          exact ⟨_, rfl, Off.refl _ _, rfl, hJ.out⟩
        · refine regs.StepOK.plain rfl fun L a w1 hh => ?_
          have h3 : a.tmps[3]?.getD undef = .pointer (some ⟨w.heap.size, 0, none⟩) := by rw [← Array.getD_eq_getD_getElem?]; exact hh.old 3 rfl
          have hJ := Lib.hid hh.st
          clear hh
          go_simp
          exact ⟨_, rfl, Off.refl _ _, rfl, hJ.out⟩
        · refine regs.StepOK.plain rfl fun L a w1 hh => ?_
          have h70 : a.tmps[70]?.getD undef = .pointer (some ⟨w.heap.size, 0, none⟩) := by rw [← Array.getD_eq_getD_getElem?]; exact hh.dep 2 70 (by kernel_rfl) (by kernel_rfl)
          obtain ⟨⟨c0, c1, c2⟩, -, ci⟩ := (hh.st.1.1).c3
          have hJ := Lib.hid hh.st
          clear hh
          go_simp
          exact ⟨_, rfl, Off.refl _ _, rfl, hJ.out⟩
        · refine regs.StepOK.plain rfl fun L a w1 hh => ?_
          have h69 : a.tmps[69]?.getD undef = .int .i64 (ka : Nat) := by rw [← Array.getD_eq_getD_getElem?]; exact hh.dep 1 69 (by kernel_rfl) (by kernel_rfl)
          have h71 : a.tmps[71]?.getD undef = .int .i64 (W : Nat) := by rw [← Array.getD_eq_getD_getElem?]; exact hh.dep 3 71 (by kernel_rfl) (by kernel_rfl)
          have q0 := HNW.out
          have q := HD1.out
          have hJ := Lib.hid hh.st
          clear hh
          go_simp
          exact ⟨_, rfl, Off.refl _ _, rfl, hJ.out⟩
        · refine regs.StepOK.plain rfl fun L a w1 hh => ?_
          have h1 : a.tmps[1]?.getD undef = .int .i64 (ka : Nat) := by rw [← Array.getD_eq_getD_getElem?]; exact hh.old 1 rfl
          have hJ := Lib.hid hh.st
          clear hh
          go_simp
          exact ⟨_, rfl, Off.refl _ _, rfl, hJ.out⟩
        · refine regs.StepOK.plain rfl fun L a w1 hh => ?_
          have h3 : a.tmps[3]?.getD undef = .pointer (some ⟨w.heap.size, 0, none⟩) := by rw [← Array.getD_eq_getD_getElem?]; exact hh.old 3 rfl
          have hJ := Lib.hid hh.st
          clear hh
          go_simp
          exact ⟨_, rfl, Off.refl _ _, rfl, hJ.out⟩
        · refine regs.StepOK.plain rfl fun L a w1 hh => ?_
          have h74 : a.tmps[74]?.getD undef = .pointer (some ⟨w.heap.size, 0, none⟩) := by rw [← Array.getD_eq_getD_getElem?]; exact hh.dep 6 74 (by kernel_rfl) (by kernel_rfl)
          obtain ⟨⟨c0, c1, c2⟩, -, ci⟩ := (hh.st.1.1).c3
          have hJ := Lib.hid hh.st
          clear hh
          go_simp
          exact ⟨_, rfl, Off.refl _ _, rfl, hJ.out⟩
        · refine regs.StepOK.plain rfl fun L a w1 hh => ?_
          have h73 : a.tmps[73]?.getD undef = .int .i64 (ka : Nat) := by rw [← Array.getD_eq_getD_getElem?]; exact hh.dep 5 73 (by kernel_rfl) (by kernel_rfl)
          have h75 : a.tmps[75]?.getD undef = .int .i64 (W : Nat) := by rw [← Array.getD_eq_getD_getElem?]; exact hh.dep 7 75 (by kernel_rfl) (by kernel_rfl)
          have q0 := HNW.out
          have q := HD2.out
          have q2 := HDW.out
          have hJ := Lib.hid hh.st
          clear hh
          go_simp
          exact ⟨_, rfl, Off.refl _ _, rfl, hJ.out⟩
        · refine regs.StepOK.plain rfl fun L a w1 hh => ?_
          have h2 : a.tmps[2]?.getD undef = .int .u32 (p : Nat) := by rw [← Array.getD_eq_getD_getElem?]; exact hh.old 2 rfl
          have hJ := Lib.hid hh.st
          clear hh
          go_simp
          exact ⟨_, rfl, Off.refl _ _, rfl, hJ.out⟩
        · refine regs.StepOK.plain rfl fun L a w1 hh => ?_
          have h68 : a.tmps[68]?.getD undef = .agg #[.int .i64 (W : Nat), .int .i64 (H : Nat), .slice (some ⟨gc, 0, none⟩) l.length cap] := by rw [← Array.getD_eq_getD_getElem?]; exact hh.dep 0 68 (by kernel_rfl) (by kernel_rfl)
          have h72 : a.tmps[72]?.getD undef = .int .i64 (am : Nat) := by rw [← Array.getD_eq_getD_getElem?]; exact hh.dep 4 72 (by kernel_rfl) (by kernel_rfl)
          have h76 : a.tmps[76]?.getD undef = .int .i64 (ad : Nat) := by rw [← Array.getD_eq_getD_getElem?]; exact hh.dep 8 76 (by kernel_rfl) (by kernel_rfl)
          have h77 : a.tmps[77]?.getD undef = .int .u32 (p : Nat) := by rw [← Array.getD_eq_getD_getElem?]; exact hh.dep 9 77 (by kernel_rfl) (by kernel_rfl)
          have hJ0 := hh.st
          rw [hh.un] at hJ0
          have hJ := Lib.hid (show JF [(w.heap.size, [.int .i64 (W : Nat), .int .i64 (H : Nat), .slice A l.length c]), (bc, [.int .i64 (W : Nat), .int .i64 (H : Nat), .slice (some ⟨gc, 0, none⟩) l.length cap])] [] gc l l2 false w1 from hJ0)
          clear hJ0
          clear hh
          go_simp
          have hx9 := hJ.out.2.2.1
          refine (HSET.out gc cap w1 hx9).mono ?_
          rintro e w9 ⟨rfl, hy9, ho9⟩
          exact ⟨_, rfl, ho9, rfl, JF.filled hJ.out ho9 hy9⟩
        intro L w8 val hL hJ hR hv
        rw [hL 10 (by decide)] at hJ
        have HJ8 := Lib.hid (JF.end_ hJ)
        have HR8 := Lib.hid hR
        clear hv hL hJ hR
        simp only [regs.putAll, List.map_cons, List.map_nil]
        generalize val 68 = v68
        generalize val 69 = v69
        generalize val 70 = v70
        generalize val 71 = v71
        generalize val 72 = v72
        generalize val 73 = v73
        generalize val 74 = v74
        generalize val 75 = v75
        generalize val 76 = v76
        generalize val 77 = v77
        generalize val 78 = v78
        simp only [Act.put, List.setIfInBounds_toArray, List.set_cons_zero, List.set_cons_succ]
        have HB8 : Hid (Below w.heap.size w w8) := HB7.out.trans (HR8.out.to_below HB7.out.size (by intro q hq; have := HGC.out; simp at hq; omega))
        have KM8 : Hid (Blk w8 w.heap.size [.int .i64 (W : Nat), .int .i64 (H : Nat), .slice A l.length c]) := HJ8.out.1.1
        have KC8 : Hid (Blk w8 bc [.int .i64 (W : Nat), .int .i64 (H : Nat), .slice (some ⟨gc, 0, none⟩) l.length cap]) := HJ8.out.1.2.1
        have HX8 : Hid (Px w8 gc l2) := HJ8.out.2.2
        clear HJ8 HR8 HJ7 HB7 HSET
        obtain ⟨⟨c0, c1, c2⟩, -, ci⟩ := KM8.out.c3
        obtain ⟨SM, hSM⟩ : ∃ b, ((la : Int) == (p : Int)) = b := ⟨_, rfl⟩
        have HSM := Lib.hid hSM
        rw [hSM] at HEQ HSS
        go_wp2_with (fail)
        clear hSM
        have hb9 : Below w8.heap.size w8 (w8.alloc (.cells #[.int .i64 (H : Nat), .int .i64 (W : Nat), .slice A l.length c] 24)) := (Below.refl _ _).alloc (Nat.le_refl _) _
        have HB9 := Lib.hid (HB8.out.trans (hb9.mono HB8.out.size))
        have HJ9 : Hid (JT [(w.heap.size, [.int .i64 (W : Nat), .int .i64 (H : Nat), .slice A l.length c]), (bc, [.int .i64 (W : Nat), .int .i64 (H : Nat), .slice (some ⟨gc, 0, none⟩) l.length cap]), (w8.heap.size, [.int .i64 (H : Nat), .int .i64 (W : Nat), .slice A l.length c])] A l gc l2 (w8.alloc (.cells #[.int .i64 (H : Nat), .int .i64 (W : Nat), .slice A l.length c] 24))) :=
          ⟨⟨KM8.out.below' hb9, KC8.out.below' hb9, blk_new w8 [.int .i64 (H : Nat), .int .i64 (W : Nat), .slice A l.length c] _, trivial⟩, HR.out.below HB9.out, HX8.out.below hb9, HT.out.below HB9.out⟩
        obtain ⟨WH, hWH⟩ : ∃ b, ((W : Int) == (H : Int)) = b := ⟨_, rfl⟩
        rw [hWH] at HTU
        have HWH := Lib.hid hWH
        have HLL : Hid (((la : Int) == (la : Int)) = true) := by show _ = _; simp
        have HBB : Hid (∀ b : Bool, (b == b) = true) := by intro b; simp
        clear hWH hb9 HB8 KM8 KC8 HX8 c0 c1 c2 ci
        generalize w8.alloc (.cells #[.int .i64 (H : Nat), .int .i64 (W : Nat), .slice A l.length c] 24) = w9' at *
        generalize w8.heap.size = bt at *
        refine regs.wp_region_put (regs.bl) (fun _ wx => JT [(w.heap.size, [.int .i64 (W : Nat), .int .i64 (H : Nat), .slice A l.length c]), (bc, [.int .i64 (W : Nat), .int .i64 (H : Nat), .slice (some ⟨gc, 0, none⟩) l.length cap]), (bt, [.int .i64 (H : Nat), .int .i64 (W : Nat), .slice A l.length c])] A l gc l2 wx) [89, 90, 91, 92, 93, 94, 95, 96, 97, 98, 99, 100, 101, 102, 103, 104, 105, 106, 107, 108, 109, 110, 111, 112, 113, 114, 115, 116, 117, 118, 119, 120, 121, 122, 123, 124, 125, 126, 127, 128, 129, 130, 6] (by kernel_rfl) (by kernel_rfl) (fun _ => regs.bl_refl _) (regs.bl_trans) (fun i => (match i with
          | 0 => regs.Say.val _ (.agg #[.int .i64 (W : Nat), .int .i64 (H : Nat), .slice A l.length c])
          | 1 => regs.Say.val _ (.agg #[.int .i64 (W : Nat), .int .i64 (H : Nat), .slice (some ⟨gc, 0, none⟩) l.length cap])
          | 2 => regs.Say.val _ (.bool SM)
          | 3 => regs.Say.val _ (.bool SM)
          | 4 => regs.Say.val _ (.bool true)
          | 5 => regs.Say.val _ (.bool true)
          | 6 => regs.Say.val _ (.agg #[.int .i64 (W : Nat), .int .i64 (H : Nat), .slice A l.length c])
          | 7 => regs.Say.val _ (.int .u32 (sm : Nat))
          | 8 => regs.Say.val _ (.agg #[.int .i64 (W : Nat), .int .i64 (H : Nat), .slice (some ⟨gc, 0, none⟩) l.length cap])
          | 9 => regs.Say.val _ (.int .u32 (sm2 : Nat))
          | 10 => regs.Say.val _ (.bool SM)
          | 11 => regs.Say.val _ (.bool SM)
          | 12 => regs.Say.val _ (.bool true)
          | 13 => regs.Say.val _ (.bool true)
          | 14 => regs.Say.val _ (.bool true)
          | 15 => regs.Say.val _ (.agg #[.int .i64 (W : Nat), .int .i64 (H : Nat), .slice A l.length c])
          | 16 => regs.Say.val _ (.int .i64 (ka : Nat))
          | 17 => regs.Say.val _ (.pointer (some ⟨w.heap.size, 0, none⟩))
          | 18 => regs.Say.val _ (.int .i64 (W : Nat))
          | 19 => regs.Say.val _ (.int .i64 (am : Nat))
          | 20 => regs.Say.val _ (.int .i64 (ka : Nat))
          | 21 => regs.Say.val _ (.pointer (some ⟨w.heap.size, 0, none⟩))
          | 22 => regs.Say.val _ (.int .i64 (W : Nat))
          | 23 => regs.Say.val _ (.int .i64 (ad : Nat))
          | 24 => regs.Say.val _ (.int .u32 (la : Nat))
          | 25 => regs.Say.val _ (.int .u32 (la : Nat))
          | 26 => regs.Say.val _ (.bool true)
          | 27 => regs.Say.val _ (.bool true)
          | 28 => regs.Say.val _ (.bool true)
          | 29 => regs.Say.val _ (.agg #[.int .i64 (W : Nat), .int .i64 (H : Nat), .slice A l.length c])
          | 30 => regs.Say.val _ (.agg #[.int .i64 (H : Nat), .int .i64 (W : Nat), .slice A l.length c])
          | 31 => regs.Say.val _ (.bool WH)
          | 32 => regs.Say.val _ (.pointer (some ⟨w.heap.size, 0, none⟩))
          | 33 => regs.Say.val _ (.int .i64 (W : Nat))
          | 34 => regs.Say.val _ (.pointer (some ⟨w.heap.size, 1, none⟩))
          | 35 => regs.Say.val _ (.int .i64 (H : Nat))
          | 36 => regs.Say.val _ (.bool WH)
          | 37 => regs.Say.val _ (.bool true)
          | 38 => regs.Say.val _ (.bool true)
          | 39 => regs.Say.val _ (.bool true)
          | 40 => regs.Say.val _ (.bool true)
          | 41 => regs.Say.val _ (.bool true)
          | 42 => regs.Say.val _ (.bool true)
          | _ => regs.Say.any _ : regs.Say (regs.bl)).p) (fun _ => regs.Say.mono _) (by kernel_rfl) ((Below.refl _ _).drew) (HJ9.out) ⟨?_, ?_, ?_, ?_, ?_, ?_, ?_, ?_, ?_, ?_, ?_, ?_, ?_, ?_, ?_, ?_, ?_, ?_, ?_, ?_, ?_, ?_, ?_, ?_, ?_, ?_, ?_, ?_, ?_, ?_, ?_, ?_, ?_, ?_, ?_, ?_, ?_, ?_, ?_, ?_, ?_, ?_, ?_, trivial⟩ ?_
        · refine regs.StepOK.plain rfl fun L a w1 hh => ?_
          have h3 : a.tmps[3]?.getD undef = .pointer (some ⟨w.heap.size, 0, none⟩) := by rw [← Array.getD_eq_getD_getElem?]; exact hh.old 3 rfl
          obtain ⟨⟨c0, c1, c2⟩, -, ci⟩ := (hh.st.1.1).c3
          have hJ := Lib.hid hh.st
          clear hh
          go_simp
          exact ⟨_, rfl, regs.bl_refl _, rfl, hJ.out⟩
        · refine regs.StepOK.plain rfl fun L a w1 hh => ?_
          have h7 : a.tmps[7]?.getD undef = .pointer (some ⟨bc, 0, none⟩) := by rw [← Array.getD_eq_getD_getElem?]; exact hh.old 7 rfl
          obtain ⟨⟨c0, c1, c2⟩, -, ci⟩ := (hh.st.1.2.1).c3
          have hJ := Lib.hid hh.st
          clear hh
          go_simp
          exact ⟨_, rfl, regs.bl_refl _, rfl, hJ.out⟩
        · refine regs.StepOK.plain rfl fun L a w1 hh => ?_
          have h89 : a.tmps[89]?.getD undef = .agg #[.int .i64 (W : Nat), .int .i64 (H : Nat), .slice A l.length c] := by rw [← Array.getD_eq_getD_getElem?]; exact hh.dep 0 89 (by kernel_rfl) (by kernel_rfl)
          have h90 : a.tmps[90]?.getD undef = .agg #[.int .i64 (W : Nat), .int .i64 (H : Nat), .slice (some ⟨gc, 0, none⟩) l.length cap] := by rw [← Array.getD_eq_getD_getElem?]; exact hh.dep 1 90 (by kernel_rfl) (by kernel_rfl)
          have := True.intro
          have hJ := Lib.hid hh.st
          clear hh
          go_simp
          refine (HEQ.out gc cap w1 hJ.out.2.1 hJ.out.2.2.1).mono ?_
          rintro e w9 ⟨rfl, hb9⟩
          exact ⟨_, rfl, hb9, rfl, JT.below hJ.out hb9⟩
        · refine regs.StepOK.plain rfl fun L a w1 hh => ?_
          have h9 : a.tmps[9]?.getD undef = .bool SM := by rw [← Array.getD_eq_getD_getElem?]; exact hh.old 9 rfl
          have hJ := Lib.hid hh.st
          clear hh
          go_simp
          exact ⟨_, rfl, regs.bl_refl _, rfl, hJ.out⟩
        · refine regs.StepOK.plain rfl fun L a w1 hh => ?_
          have h91 : a.tmps[91]?.getD undef = .bool SM := by rw [← Array.getD_eq_getD_getElem?]; exact hh.dep 2 91 (by kernel_rfl) (by kernel_rfl)
          have h92 : a.tmps[92]?.getD undef = .bool SM := by rw [← Array.getD_eq_getD_getElem?]; exact hh.dep 3 92 (by kernel_rfl) (by kernel_rfl)
          have q := HBB.out SM
          have hJ := Lib.hid hh.st
          clear hh
          go_simp
          exact ⟨_, rfl, regs.bl_refl _, rfl, hJ.out⟩
        · refine regs.StepOK.plain rfl fun L a w1 hh => ?_
          have h93 : a.tmps[93]?.getD undef = .bool true := by rw [← Array.getD_eq_getD_getElem?]; exact hh.dep 4 93 (by kernel_rfl) (by kernel_rfl)
          have hJ := Lib.hid hh.st
          clear hh
          go_simp
          exact ⟨_, rfl, regs.bl_refl _, rfl, hJ.out⟩
        · refine regs.StepOK.yes 5 true 94 rfl rfl (fun L a w1 hh => hh.dep 5 94 (by kernel_rfl) (by kernel_rfl)) fun L a w1 hh => ?_
          have h3 : a.tmps[3]?.getD undef = .pointer (some ⟨w.heap.size, 0, none⟩) := by rw [← Array.getD_eq_getD_getElem?]; exact hh.old 3 rfl
          obtain ⟨⟨c0, c1, c2⟩, -, ci⟩ := (hh.st.1.1).c3
          have hJ := Lib.hid hh.st
          clear hh
          go_simp
          exact ⟨_, rfl, regs.bl_refl _, rfl, hJ.out⟩
        · refine regs.StepOK.yes 5 true 94 rfl rfl (fun L a w1 hh => hh.dep 5 94 (by kernel_rfl) (by kernel_rfl)) fun L a w1 hh => ?_
          have h95 : a.tmps[95]?.getD undef = .agg #[.int .i64 (W : Nat), .int .i64 (H : Nat), .slice A l.length c] := by rw [← Array.getD_eq_getD_getElem?]; exact hh.dep 6 95 (by kernel_rfl) (by kernel_rfl)
          have := True.intro
          have hJ := Lib.hid hh.st
          clear hh
          go_simp
          refine (HS1.out w1 hJ.out.2.1 hJ.out.2.2.2).mono ?_
          rintro e w9 ⟨rfl, hb9⟩
          exact ⟨_, rfl, hb9, rfl, JT.below hJ.out hb9⟩
        · refine regs.StepOK.yes 5 true 94 rfl rfl (fun L a w1 hh => hh.dep 5 94 (by kernel_rfl) (by kernel_rfl)) fun L a w1 hh => ?_
          have h7 : a.tmps[7]?.getD undef = .pointer (some ⟨bc, 0, none⟩) := by rw [← Array.getD_eq_getD_getElem?]; exact hh.old 7 rfl
          obtain ⟨⟨c0, c1, c2⟩, -, ci⟩ := (hh.st.1.2.1).c3
          have hJ := Lib.hid hh.st
          clear hh
          go_simp
          exact ⟨_, rfl, regs.bl_refl _, rfl, hJ.out⟩
        · refine regs.StepOK.yes 5 true 94 rfl rfl (fun L a w1 hh => hh.dep 5 94 (by kernel_rfl) (by kernel_rfl)) fun L a w1 hh => ?_
          have h97 : a.tmps[97]?.getD undef = .agg #[.int .i64 (W : Nat), .int .i64 (H : Nat), .slice (some ⟨gc, 0, none⟩) l.length cap] := by rw [← Array.getD_eq_getD_getElem?]; exact hh.dep 8 97 (by kernel_rfl) (by kernel_rfl)
          have := True.intro
          have hJ := Lib.hid hh.st
          clear hh
          go_simp
          refine (HSU.out gc cap w1 hJ.out.2.2.1 hJ.out.2.2.2).mono ?_
          rintro e w9 ⟨rfl, hb9⟩
          exact ⟨_, rfl, hb9, rfl, JT.below hJ.out hb9⟩
        · refine regs.StepOK.yes 5 true 94 rfl rfl (fun L a w1 hh => hh.dep 5 94 (by kernel_rfl) (by kernel_rfl)) fun L a w1 hh => ?_
          have h96 : a.tmps[96]?.getD undef = .int .u32 (sm : Nat) := by rw [← Array.getD_eq_getD_getElem?]; exact hh.dep 7 96 (by kernel_rfl) (by kernel_rfl)
          have h98 : a.tmps[98]?.getD undef = .int .u32 (sm2 : Nat) := by rw [← Array.getD_eq_getD_getElem?]; exact hh.dep 9 98 (by kernel_rfl) (by kernel_rfl)
          have q := HSS.out
          have hJ := Lib.hid hh.st
          clear hh
          go_simp
          exact ⟨_, rfl, regs.bl_refl _, rfl, hJ.out⟩
        · refine regs.StepOK.yes 5 true 94 rfl rfl (fun L a w1 hh => hh.dep 5 94 (by kernel_rfl) (by kernel_rfl)) fun L a w1 hh => ?_
          have h9 : a.tmps[9]?.getD undef = .bool SM := by rw [← Array.getD_eq_getD_getElem?]; exact hh.old 9 rfl
          have hJ := Lib.hid hh.st
          clear hh
          go_simp
          exact ⟨_, rfl, regs.bl_refl _, rfl, hJ.out⟩
        · refine regs.StepOK.yes 5 true 94 rfl rfl (fun L a w1 hh => hh.dep 5 94 (by kernel_rfl) (by kernel_rfl)) fun L a w1 hh => ?_
          have h99 : a.tmps[99]?.getD undef = .bool SM := by rw [← Array.getD_eq_getD_getElem?]; exact hh.dep 10 99 (by kernel_rfl) (by kernel_rfl)
          have h100 : a.tmps[100]?.getD undef = .bool SM := by rw [← Array.getD_eq_getD_getElem?]; exact hh.dep 11 100 (by kernel_rfl) (by kernel_rfl)
          have q := HBB.out SM
          have hJ := Lib.hid hh.st
          clear hh
          go_simp
          exact ⟨_, rfl, regs.bl_refl _, rfl, hJ.out⟩
        · refine regs.StepOK.plain rfl fun L a w1 hh => ?_
          have h94 : a.tmps[94]?.getD undef = .bool true := by rw [← Array.getD_eq_getD_getElem?]; exact hh.dep 5 94 (by kernel_rfl) (by kernel_rfl)
          have h101 : a.tmps[101]?.getD undef = .bool true := by rw [← Array.getD_eq_getD_getElem?]; exact hh.dep 12 101 (by kernel_rfl) (by kernel_rfl)
          have hJ := Lib.hid hh.st
          clear hh
          go_simp
          exact ⟨_, rfl, regs.bl_refl _, rfl, hJ.out⟩
        · refine regs.StepOK.plain rfl fun L a w1 hh => ?_
          have h102 : a.tmps[102]?.getD undef = .bool true := by rw [← Array.getD_eq_getD_getElem?]; exact hh.dep 13 102 (by kernel_rfl) (by kernel_rfl)
          have hJ := Lib.hid hh.st
          clear hh
          go_simp
          exact ⟨_, rfl, regs.bl_refl _, rfl, hJ.out⟩
        · refine regs.StepOK.yes 14 true 103 rfl rfl (fun L a w1 hh => hh.dep 14 103 (by kernel_rfl) (by kernel_rfl)) fun L a w1 hh => ?_
          have h3 : a.tmps[3]?.getD undef = .pointer (some ⟨w.heap.size, 0, none⟩) := by rw [← Array.getD_eq_getD_getElem?]; exact hh.old 3 rfl
          obtain ⟨⟨c0, c1, c2⟩, -, ci⟩ := (hh.st.1.1).c3
          have hJ := Lib.hid hh.st
          clear hh
          go_simp
          exact ⟨_, rfl, regs.bl_refl _, rfl, hJ.out⟩
        · refine regs.StepOK.yes 14 true 103 rfl rfl (fun L a w1 hh => hh.dep 14 103 (by kernel_rfl) (by kernel_rfl)) fun L a w1 hh => ?_
          have h1 : a.tmps[1]?.getD undef = .int .i64 (ka : Nat) := by rw [← Array.getD_eq_getD_getElem?]; exact hh.old 1 rfl
          have hJ := Lib.hid hh.st
          clear hh
          go_simp
          exact ⟨_, rfl, regs.bl_refl _, rfl, hJ.out⟩
        · refine regs.StepOK.yes 14 true 103 rfl rfl (fun L a w1 hh => hh.dep 14 103 (by kernel_rfl) (by kernel_rfl)) fun L a w1 hh => ?_
          have h3 : a.tmps[3]?.getD undef = .pointer (some ⟨w.heap.size, 0, none⟩) := by rw [← Array.getD_eq_getD_getElem?]; exact hh.old 3 rfl
          have hJ := Lib.hid hh.st
          clear hh
          go_simp
          exact ⟨_, rfl, regs.bl_refl _, rfl, hJ.out⟩
        · refine regs.StepOK.yes 14 true 103 rfl rfl (fun L a w1 hh => hh.dep 14 103 (by kernel_rfl) (by kernel_rfl)) fun L a w1 hh => ?_
          have h106 : a.tmps[106]?.getD undef = .pointer (some ⟨w.heap.size, 0, none⟩) := by rw [← Array.getD_eq_getD_getElem?]; exact hh.dep 17 106 (by kernel_rfl) (by kernel_rfl)
          obtain ⟨⟨c0, c1, c2⟩, -, ci⟩ := (hh.st.1.1).c3
          have hJ := Lib.hid hh.st
          clear hh
          go_simp
          exact ⟨_, rfl, regs.bl_refl _, rfl, hJ.out⟩
        · refine regs.StepOK.yes 14 true 103 rfl rfl (fun L a w1 hh => hh.dep 14 103 (by kernel_rfl) (by kernel_rfl)) fun L a w1 hh => ?_
          have h105 : a.tmps[105]?.getD undef = .int .i64 (ka : Nat) := by rw [← Array.getD_eq_getD_getElem?]; exact hh.dep 16 105 (by kernel_rfl) (by kernel_rfl)
          have h107 : a.tmps[107]?.getD undef = .int .i64 (W : Nat) := by rw [← Array.getD_eq_getD_getElem?]; exact hh.dep 18 107 (by kernel_rfl) (by kernel_rfl)
          have q0 := HNW.out
          have q := HD1.out
          have hJ := Lib.hid hh.st
          clear hh
          go_simp
          exact ⟨_, rfl, regs.bl_refl _, rfl, hJ.out⟩
        · refine regs.StepOK.yes 14 true 103 rfl rfl (fun L a w1 hh => hh.dep 14 103 (by kernel_rfl) (by kernel_rfl)) fun L a w1 hh => ?_
          have h1 : a.tmps[1]?.getD undef = .int .i64 (ka : Nat) := by rw [← Array.getD_eq_getD_getElem?]; exact hh.old 1 rfl
          have hJ := Lib.hid hh.st
          clear hh
          go_simp
          exact ⟨_, rfl, regs.bl_refl _, rfl, hJ.out⟩
        · refine regs.StepOK.yes 14 true 103 rfl rfl (fun L a w1 hh => hh.dep 14 103 (by kernel_rfl) (by kernel_rfl)) fun L a w1 hh => ?_
          have h3 : a.tmps[3]?.getD undef = .pointer (some ⟨w.heap.size, 0, none⟩) := by rw [← Array.getD_eq_getD_getElem?]; exact hh.old 3 rfl
          have hJ := Lib.hid hh.st
          clear hh
          go_simp
          exact ⟨_, rfl, regs.bl_refl _, rfl, hJ.out⟩
        · refine regs.StepOK.yes 14 true 103 rfl rfl (fun L a w1 hh => hh.dep 14 103 (by kernel_rfl) (by kernel_rfl)) fun L a w1 hh => ?_
          have h110 : a.tmps[110]?.getD undef = .pointer (some ⟨w.heap.size, 0, none⟩) := by rw [← Array.getD_eq_getD_getElem?]; exact hh.dep 21 110 (by kernel_rfl) (by kernel_rfl)
          obtain ⟨⟨c0, c1, c2⟩, -, ci⟩ := (hh.st.1.1).c3
          have hJ := Lib.hid hh.st
          clear hh
          go_simp
          exact ⟨_, rfl, regs.bl_refl _, rfl, hJ.out⟩
        · refine regs.StepOK.yes 14 true 103 rfl rfl (fun L a w1 hh => hh.dep 14 103 (by kernel_rfl) (by kernel_rfl)) fun L a w1 hh => ?_
          have h109 : a.tmps[109]?.getD undef = .int .i64 (ka : Nat) := by rw [← Array.getD_eq_getD_getElem?]; exact hh.dep 20 109 (by kernel_rfl) (by kernel_rfl)
          have h111 : a.tmps[111]?.getD undef = .int .i64 (W : Nat) := by rw [← Array.getD_eq_getD_getElem?]; exact hh.dep 22 111 (by kernel_rfl) (by kernel_rfl)
          have q0 := HNW.out
          have q := HD2.out
          have q2 := HDW.out
          have hJ := Lib.hid hh.st
          clear hh
          go_simp
          exact ⟨_, rfl, regs.bl_refl _, rfl, hJ.out⟩
        · refine regs.StepOK.yes 14 true 103 rfl rfl (fun L a w1 hh => hh.dep 14 103 (by kernel_rfl) (by kernel_rfl)) fun L a w1 hh => ?_
          have h104 : a.tmps[104]?.getD undef = .agg #[.int .i64 (W : Nat), .int .i64 (H : Nat), .slice A l.length c] := by rw [← Array.getD_eq_getD_getElem?]; exact hh.dep 15 104 (by kernel_rfl) (by kernel_rfl)
          have h108 : a.tmps[108]?.getD undef = .int .i64 (am : Nat) := by rw [← Array.getD_eq_getD_getElem?]; exact hh.dep 19 108 (by kernel_rfl) (by kernel_rfl)
          have h112 : a.tmps[112]?.getD undef = .int .i64 (ad : Nat) := by rw [← Array.getD_eq_getD_getElem?]; exact hh.dep 23 112 (by kernel_rfl) (by kernel_rfl)
          have := True.intro
          have hJ := Lib.hid hh.st
          clear hh
          go_simp
          refine (HAT.out w1 hJ.out.2.1).mono ?_
          rintro e w9 ⟨rfl, hb9⟩
          exact ⟨_, rfl, hb9, rfl, JT.below hJ.out hb9⟩
        · refine regs.StepOK.yes 14 true 103 rfl rfl (fun L a w1 hh => hh.dep 14 103 (by kernel_rfl) (by kernel_rfl)) fun L a w1 hh => ?_
          have h8 : a.tmps[8]?.getD undef = .int .u32 (la : Nat) := by rw [← Array.getD_eq_getD_getElem?]; exact hh.old 8 rfl
          have hJ := Lib.hid hh.st
          clear hh
          go_simp
          exact ⟨_, rfl, regs.bl_refl _, rfl, hJ.out⟩
        · refine regs.StepOK.yes 14 true 103 rfl rfl (fun L a w1 hh => hh.dep 14 103 (by kernel_rfl) (by kernel_rfl)) fun L a w1 hh => ?_
          have h113 : a.tmps[113]?.getD undef = .int .u32 (la : Nat) := by rw [← Array.getD_eq_getD_getElem?]; exact hh.dep 24 113 (by kernel_rfl) (by kernel_rfl)
          have h114 : a.tmps[114]?.getD undef = .int .u32 (la : Nat) := by rw [← Array.getD_eq_getD_getElem?]; exact hh.dep 25 114 (by kernel_rfl) (by kernel_rfl)
          have q := HLL.out
          have hJ := Lib.hid hh.st
          clear hh
          go_simp
          exact ⟨_, rfl, regs.bl_refl _, rfl, hJ.out⟩
        · refine regs.StepOK.plain rfl fun L a w1 hh => ?_
          have h103 : a.tmps[103]?.getD undef = .bool true := by rw [← Array.getD_eq_getD_getElem?]; exact hh.dep 14 103 (by kernel_rfl) (by kernel_rfl)
          have h115 : a.tmps[115]?.getD undef = .bool true := by rw [← Array.getD_eq_getD_getElem?]; exact hh.dep 26 115 (by kernel_rfl) (by kernel_rfl)
          have hJ := Lib.hid hh.st
          clear hh
          go_simp
          exact ⟨_, rfl, regs.bl_refl _, rfl, hJ.out⟩
        · refine regs.StepOK.plain rfl fun L a w1 hh => ?_
          have h116 : a.tmps[116]?.getD undef = .bool true := by rw [← Array.getD_eq_getD_getElem?]; exact hh.dep 27 116 (by kernel_rfl) (by kernel_rfl)
          have hJ := Lib.hid hh.st
          clear hh
          go_simp
          exact ⟨_, rfl, regs.bl_refl _, rfl, hJ.out⟩
        · refine regs.StepOK.yes 28 true 117 rfl rfl (fun L a w1 hh => hh.dep 28 117 (by kernel_rfl) (by kernel_rfl)) fun L a w1 hh => ?_
          have h3 : a.tmps[3]?.getD undef = .pointer (some ⟨w.heap.size, 0, none⟩) := by rw [← Array.getD_eq_getD_getElem?]; exact hh.old 3 rfl
          obtain ⟨⟨c0, c1, c2⟩, -, ci⟩ := (hh.st.1.1).c3
          have hJ := Lib.hid hh.st
          clear hh
          go_simp
          exact ⟨_, rfl, regs.bl_refl _, rfl, hJ.out⟩
        · refine regs.StepOK.yes 28 true 117 rfl rfl (fun L a w1 hh => hh.dep 28 117 (by kernel_rfl) (by kernel_rfl)) fun L a w1 hh => ?_
          have h10 : a.tmps[10]?.getD undef = .pointer (some ⟨bt, 0, none⟩) := by rw [← Array.getD_eq_getD_getElem?]; exact hh.old 10 rfl
          obtain ⟨⟨c0, c1, c2⟩, -, ci⟩ := (hh.st.1.2.2.1).c3
          have hJ := Lib.hid hh.st
          clear hh
          go_simp
          exact ⟨_, rfl, regs.bl_refl _, rfl, hJ.out⟩
        · refine regs.StepOK.yes 28 true 117 rfl rfl (fun L a w1 hh => hh.dep 28 117 (by kernel_rfl) (by kernel_rfl)) fun L a w1 hh => ?_
          have h118 : a.tmps[118]?.getD undef = .agg #[.int .i64 (W : Nat), .int .i64 (H : Nat), .slice A l.length c] := by rw [← Array.getD_eq_getD_getElem?]; exact hh.dep 29 118 (by kernel_rfl) (by kernel_rfl)
          have h119 : a.tmps[119]?.getD undef = .agg #[.int .i64 (H : Nat), .int .i64 (W : Nat), .slice A l.length c] := by rw [← Array.getD_eq_getD_getElem?]; exact hh.dep 30 119 (by kernel_rfl) (by kernel_rfl)
          have := True.intro
          have hJ := Lib.hid hh.st
          clear hh
          go_simp
          refine (HTU.out w1 hJ.out.2.1).mono ?_
          rintro e w9 ⟨rfl, hb9⟩
          exact ⟨_, rfl, hb9, rfl, JT.below hJ.out hb9⟩
        · refine regs.StepOK.yes 28 true 117 rfl rfl (fun L a w1 hh => hh.dep 28 117 (by kernel_rfl) (by kernel_rfl)) fun L a w1 hh => ?_
          have h3 : a.tmps[3]?.getD undef = .pointer (some ⟨w.heap.size, 0, none⟩) := by rw [← Array.getD_eq_getD_getElem?]; exact hh.old 3 rfl
          have hJ := Lib.hid hh.st
          clear hh
          go_simp
          exact ⟨_, rfl, regs.bl_refl _, rfl, hJ.out⟩
        · refine regs.StepOK.yes 28 true 117 rfl rfl (fun L a w1 hh => hh.dep 28 117 (by kernel_rfl) (by kernel_rfl)) fun L a w1 hh => ?_
          have h121 : a.tmps[121]?.getD undef = .pointer (some ⟨w.heap.size, 0, none⟩) := by rw [← Array.getD_eq_getD_getElem?]; exact hh.dep 32 121 (by kernel_rfl) (by kernel_rfl)
          obtain ⟨⟨c0, c1, c2⟩, -, ci⟩ := (hh.st.1.1).c3
          have hJ := Lib.hid hh.st
          clear hh
          go_simp
          exact ⟨_, rfl, regs.bl_refl _, rfl, hJ.out⟩
        · refine regs.StepOK.yes 28 true 117 rfl rfl (fun L a w1 hh => hh.dep 28 117 (by kernel_rfl) (by kernel_rfl)) fun L a w1 hh => ?_
          have h3 : a.tmps[3]?.getD undef = .pointer (some ⟨w.heap.size, 0, none⟩) := by rw [← Array.getD_eq_getD_getElem?]; exact hh.old 3 rfl
          have hJ := Lib.hid hh.st
          clear hh
          go_simp
          exact ⟨_, rfl, regs.bl_refl _, rfl, hJ.out⟩
        · refine regs.StepOK.yes 28 true 117 rfl rfl (fun L a w1 hh => hh.dep 28 117 (by kernel_rfl) (by kernel_rfl)) fun L a w1 hh => ?_
          have h123 : a.tmps[123]?.getD undef = .pointer (some ⟨w.heap.size, 1, none⟩) := by rw [← Array.getD_eq_getD_getElem?]; exact hh.dep 34 123 (by kernel_rfl) (by kernel_rfl)
          obtain ⟨⟨c0, c1, c2⟩, -, ci⟩ := (hh.st.1.1).c3
          have hJ := Lib.hid hh.st
          clear hh
          go_simp
          exact ⟨_, rfl, regs.bl_refl _, rfl, hJ.out⟩
        · refine regs.StepOK.yes 28 true 117 rfl rfl (fun L a w1 hh => hh.dep 28 117 (by kernel_rfl) (by kernel_rfl)) fun L a w1 hh => ?_
          have h122 : a.tmps[122]?.getD undef = .int .i64 (W : Nat) := by rw [← Array.getD_eq_getD_getElem?]; exact hh.dep 33 122 (by kernel_rfl) (by kernel_rfl)
          have h124 : a.tmps[124]?.getD undef = .int .i64 (H : Nat) := by rw [← Array.getD_eq_getD_getElem?]; exact hh.dep 35 124 (by kernel_rfl) (by kernel_rfl)
          have q := HWH.out
          have hJ := Lib.hid hh.st
          clear hh
          go_simp
          exact ⟨_, rfl, regs.bl_refl _, rfl, hJ.out⟩
        · refine regs.StepOK.yes 28 true 117 rfl rfl (fun L a w1 hh => hh.dep 28 117 (by kernel_rfl) (by kernel_rfl)) fun L a w1 hh => ?_
          have h120 : a.tmps[120]?.getD undef = .bool WH := by rw [← Array.getD_eq_getD_getElem?]; exact hh.dep 31 120 (by kernel_rfl) (by kernel_rfl)
          have h125 : a.tmps[125]?.getD undef = .bool WH := by rw [← Array.getD_eq_getD_getElem?]; exact hh.dep 36 125 (by kernel_rfl) (by kernel_rfl)
          have q := HBB.out WH
          have hJ := Lib.hid hh.st
          clear hh
          go_simp
          exact ⟨_, rfl, regs.bl_refl _, rfl, hJ.out⟩
        · refine regs.StepOK.plain rfl fun L a w1 hh => ?_
          have h117 : a.tmps[117]?.getD undef = .bool true := by rw [← Array.getD_eq_getD_getElem?]; exact hh.dep 28 117 (by kernel_rfl) (by kernel_rfl)
          have h126 : a.tmps[126]?.getD undef = .bool true := by rw [← Array.getD_eq_getD_getElem?]; exact hh.dep 37 126 (by kernel_rfl) (by kernel_rfl)
          have hJ := Lib.hid hh.st
          clear hh
          go_simp
          exact ⟨_, rfl, regs.bl_refl _, rfl, hJ.out⟩
        · refine regs.StepOK.plain rfl fun L a w1 hh => ?_
          have h127 : a.tmps[127]?.getD undef = .bool true := by rw [← Array.getD_eq_getD_getElem?]; exact hh.dep 38 127 (by kernel_rfl) (by kernel_rfl)
          have hJ := Lib.hid hh.st
          clear hh
          go_simp
          exact ⟨_, rfl, regs.bl_refl _, rfl, hJ.out⟩
        · refine regs.StepOK.yes 39 true 128 rfl rfl (fun L a w1 hh => hh.dep 39 128 (by kernel_rfl) (by kernel_rfl)) fun L a w1 hh => ?_
          have := True.intro
          have hJ := Lib.hid hh.st
          clear hh
          go_simp
          refine (HAW2.out w1 hJ.out.2.2.2).mono ?_
          rintro e w9 ⟨rfl, hb9⟩
          exact ⟨_, rfl, hb9, rfl, JT.below hJ.out hb9⟩
        · refine regs.StepOK.plain rfl fun L a w1 hh => ?_
          have h128 : a.tmps[128]?.getD undef = .bool true := by rw [← Array.getD_eq_getD_getElem?]; exact hh.dep 39 128 (by kernel_rfl) (by kernel_rfl)
          have h129 : a.tmps[129]?.getD undef = .bool true := by rw [← Array.getD_eq_getD_getElem?]; exact hh.dep 40 129 (by kernel_rfl) (by kernel_rfl)
          have hJ := Lib.hid hh.st
          clear hh
          go_simp
          exact ⟨_, rfl, regs.bl_refl _, rfl, hJ.out⟩
        · refine regs.StepOK.plain rfl fun L a w1 hh => ?_
          have h130 : a.tmps[130]?.getD undef = .bool true := by rw [← Array.getD_eq_getD_getElem?]; exact hh.dep 41 130 (by kernel_rfl) (by kernel_rfl)
          have hJ := Lib.hid hh.st
          clear hh
          go_simp
          exact ⟨_, rfl, regs.bl_refl _, rfl, hJ.out⟩
        intro L w10 val hL hJ hR hv
        have h6 : val 6 = .bool true := hv 42 6 (by kernel_rfl)
        have HK10 := Lib.hid hJ
        have HR10 := Lib.hid hR
        clear hv hL hJ hR
        simp only [regs.putAll, List.map_cons, List.map_nil]
        rw [h6]
        generalize val 89 = v89
        generalize val 90 = v90
        generalize val 91 = v91
        generalize val 92 = v92
        generalize val 93 = v93
        generalize val 94 = v94
        generalize val 95 = v95
        generalize val 96 = v96
        generalize val 97 = v97
        generalize val 98 = v98
        generalize val 99 = v99
        generalize val 100 = v100
        generalize val 101 = v101
        generalize val 102 = v102
        generalize val 103 = v103
        generalize val 104 = v104
        generalize val 105 = v105
        generalize val 106 = v106
        generalize val 107 = v107
        generalize val 108 = v108
        generalize val 109 = v109
        generalize val 110 = v110
        generalize val 111 = v111
        generalize val 112 = v112
        generalize val 113 = v113
        generalize val 114 = v114
        generalize val 115 = v115
        generalize val 116 = v116
        generalize val 117 = v117
        generalize val 118 = v118
        generalize val 119 = v119
        generalize val 120 = v120
        generalize val 121 = v121
        generalize val 122 = v122
        generalize val 123 = v123
        generalize val 124 = v124
        generalize val 125 = v125
        generalize val 126 = v126
        generalize val 127 = v127
        generalize val 128 = v128
        generalize val 129 = v129
        generalize val 130 = v130
        simp only [Act.put, List.setIfInBounds_toArray, List.set_cons_zero, List.set_cons_succ]
        clear h6
        have HB10 : Hid (Below w.heap.size w w10) := HB9.out.trans (HR10.out.mono HB9.out.size)
        go_wp2_with (fail)
        go_ret
        exact ⟨rfl, HB10.out⟩
set_option maxHeartbeats 4000000 in
set_option maxRecDepth 100000 in
theorem sums_all (W H : Int) (A : Option Addr) (l : List Nat) (c : Nat) (kx z : Int) (w : World) (hr : Row eW w A l) (hcm : l.length ≤ c ∧ c ≤ maxLen) (hz : ∀ z ∈ l, z < 4294967296) (_ : -9223372036854775808 ≤ kx) (_ : kx ≤ 9223372036854775807) (hz1 : 0 ≤ z) (hz2 : z ≤ 4294967295) (ht : crcs.TabAt w) :
    Calls Tryd.prog 5 #[imV W H A l.length c, .int .i64 kx, .int .u32 z] w fun e w' => e = .returned (.bool true) ∧ Below w.heap.size w w' := by
  obtain ⟨p, rfl⟩ := Int.eq_ofNat_of_zero_le hz1
  have hml : l.length ≤ maxLen := by omega
  have HB0 : Hid (Below w.heap.size w (w.alloc (.cells #[.int .i64 W, .int .i64 H, .slice A l.length c] 24))) := (Below.refl _ _).alloc (Nat.le_refl _) _
  by_cases h4 : 400 < l.length
  · have t1 : decide ((400 : Int) < (l.length : Int)) = true := by simp; omega
    have HAW := Lib.hid (awk ht)
    have hn63 : l.length ≤ 9223372036854775807 := by unfold maxLen at hml; omega
    clear hr hcm hz ht h4 hml
    unfold imV
    go_enter Tryd.func5, Tryd.ntmps5
    go_wp2_with (fail)
    refine (HAW.out _ HB0.out).mono ?_
    rintro e w2 ⟨rfl, hb⟩
    have HB2 := Lib.hid hb
    clear hb
    go_wp2_with (fail)
    go_ret
    exact ⟨rfl, HB2.out⟩
  · by_cases hk : chk W H l = 0
    · have hs : sidesB W H = true := by
        cases h : sidesB W H with
        | true => rfl
        | false => unfold chk at hk; rw [if_neg (by rw [h]; decide)] at hk; cases hk
      have hw : wholeB W H l.length = true := by
        cases h : wholeB W H l.length with
        | true => rfl
        | false => unfold chk at hk; rw [if_pos hs, if_neg (by rw [h]; decide)] at hk; cases hk
      have h1 := sidesB_iff.1 hs
      have h2 := (whole_iff.1 hw).2
      obtain ⟨W', rfl⟩ := Int.eq_ofNat_of_zero_le (show 0 ≤ W by omega)
      obtain ⟨H', rfl⟩ := Int.eq_ofNat_of_zero_le (show 0 ≤ H by omega)
      exact sums_core W' H' A l c kx p hs (by rw [← Int.natCast_mul] at h2; exact Int.ofNat.inj h2) hk (by omega) hz (by omega) w hr ht
    · have t1 : decide ((400 : Int) < (l.length : Int)) = false := by simp; omega
      have HAW := Lib.hid (awk ht)
      have HLC := Lib.hid (lcheck_any W H A l c hz hml _ (hr.below HB0.out))
      have hn63 : l.length ≤ 9223372036854775807 := by unfold maxLen at hml; omega
      generalize chk W H l = K at *
      have q : (K != 0) = true := by simpa using hk
      clear hr hcm hz ht h4 hml hk
      unfold imV at *
      go_enter Tryd.func5, Tryd.ntmps5
      go_wp2_with (fail)
      refine HLC.out.mono ?_
      rintro e w1 ⟨rfl, hb⟩
      have HB1 : Hid (Below w.heap.size w w1) := HB0.out.trans (hb.mono HB0.out.size)
      clear hb HLC
      go_wp2_with (fail)
      refine (HAW.out _ HB1.out).mono ?_
      rintro e w2 ⟨rfl, hb⟩
      have HB2 := Lib.hid hb
      clear hb
      go_wp2_with (fail)
      go_ret
      exact ⟨rfl, HB2.out⟩
end Go.Proofs.YtemlcibieeakiaaDoor
