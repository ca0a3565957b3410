/-
  Layer 6: the fixed answer; the law's own words.
-/
import Derived.Test.YtjnhjhbhodhfgaaRxD
namespace Go.Proofs.Ytjnhjhbhodhfgaa
open Go.RowKit

theorem SOwn.row0 {α : Type} {T : TypeId} {k : Nat} {enc : α → List Value} {w : World} {base : Nat} {v : Value} {l : List α} (h : SOwn T k enc w base v l) (hk : ∀ x, (enc x).length = k) (hl : 0 < l.length) : ∃ g c, v = .slice (some ⟨g, 0, none⟩) l.length c ∧ l.length ≤ c ∧ c ≤ maxLen ∧ SRow k enc w (some ⟨g, 0, none⟩) l := by
  rcases h.2 with ⟨rfl, h0⟩ | ⟨g, cap, cur, rfl, hg, hb, hc, hm, rest⟩
  · omega
  · refine ⟨g, cap, rfl, hc, hm, fun _ => ⟨g, 0, rfl, fun j hj i v hv => ?_⟩⟩
    have hcell := World.ownsRow.cells h (g := g) rfl
    have e : ∀ i, (⟨g, 0, none⟩ : Addr).add i = ⟨g, 0 + i, none⟩ := fun i => by unfold Addr.add; split <;> simp_all
    have := hcell _ _ (flat_at hk hj hv)
    rw [e] at this
    rw [Nat.add_assoc]
    exact this
theorem brow_cell {w : World} {g o : Nat} {l : List Bx} (h : BRow w (some ⟨g, o, none⟩) l) (j : Nat) (hj : j < l.length) (i : Nat) (v : Value) (hv : (Bx.cs l[j])[i]? = some v) : w.cell? ⟨g, o + j * 4 + i, none⟩ = some v := by
  obtain ⟨b, off, e, hc⟩ := h (by omega)
  simp only [Option.some.injEq, Addr.mk.injEq, and_true] at e
  obtain ⟨rfl, rfl⟩ := e
  exact hc j hj i v hv
def J1 (g0 : Nat) (p : List Value) (w : World) : Prop := Blk w g0 p
theorem J1.below {g0 : Nat} {p : List Value} {w w' : World} (h : J1 g0 p w) (hb : Below w.heap.size w w') : J1 g0 p w' := Blk.below' h hb
def JA (g0 gl lo : Nat) (p : List Value) (l : List Bx) (w : World) : Prop := Blk w g0 p ∧ BRow w (some ⟨gl, lo, none⟩) l
theorem JA.below {g0 gl lo : Nat} {p : List Value} {l : List Bx} {w w' : World} (h : JA g0 gl lo p l w) (hb : Below w.heap.size w w') : JA g0 gl lo p l w' := ⟨h.1.below' hb, h.2.below hb⟩
theorem aw0 : Bx.nrm ⟨0, 0, 4, 4⟩ = ⟨0, 0, 4, 4⟩ := by decide
set_option maxRecDepth 100000 in
set_option maxHeartbeats 4000000 in
theorem awake_any (w : World) : Calls Try.prog 8 #[] w fun e w' => e = .returned (.bool true) ∧ Below w.heap.size w w' := by
  go_enter Try.func8, Try.ntmps8
  go_wp2_with (fail)
  refine (bx_of ⟨0, 0, 4, 4⟩ w).mono ?_
  rintro e w1 ⟨rfl, hb⟩
  rw [aw0]
  unfold Bx.v
  simp only
  go_wp2_with (fail)
  have HB : Hid (Below w.heap.size w (w1.alloc (.cells #[.int .i64 0, .int .i64 0, .int .i64 4, .int .i64 4] 23))) := hb.alloc hb.size _
  have HJ0 : Hid (J1 w1.heap.size [.int .i64 0, .int .i64 0, .int .i64 4, .int .i64 4] (w1.alloc (.cells #[.int .i64 0, .int .i64 0, .int .i64 4, .int .i64 4] 23))) := blk_new w1 [.int .i64 0, .int .i64 0, .int .i64 4, .int .i64 4] _
  clear hb
  generalize (w1.alloc (.cells #[.int .i64 0, .int .i64 0, .int .i64 4, .int .i64 4] 23)) = wz at *
  generalize w1.heap.size = g0 at *
  refine regs.wp_region_put (regs.bl) (fun _ wx => J1 g0 [.int .i64 0, .int .i64 0, .int .i64 4, .int .i64 4] wx) [4, 5, 6, 2] (by kernel_rfl) (by kernel_rfl) (fun _ => regs.bl_refl _) (regs.bl_trans) (fun i => (match i with
    | 0 => regs.Say.val _ (.agg #[.int .i64 0, .int .i64 0, .int .i64 4, .int .i64 4])
    | 1 => regs.Say.val _ (.agg #[.int .i64 1, .int .i64 1, .int .i64 2, .int .i64 2])
    | 2 => sayB [(⟨0, 0, 4, 1⟩ : Bx), (⟨0, 1, 1, 2⟩ : Bx), (⟨2, 1, 4, 2⟩ : Bx), (⟨0, 2, 4, 4⟩ : Bx)]
    | 3 => sayB [(⟨0, 0, 4, 1⟩ : Bx), (⟨0, 1, 1, 2⟩ : Bx), (⟨2, 1, 4, 2⟩ : Bx), (⟨0, 2, 4, 4⟩ : Bx)]
    | _ => regs.Say.any _ : regs.Say (regs.bl)).p) (fun _ => regs.Say.mono _) (by kernel_rfl) ((Below.refl _ _).drew) (HJ0.out) ⟨?_, ?_, ?_, ?_, trivial⟩ ?_
  · refine regs.StepOK.plain rfl fun L a w1 hh => ?_
    have h1 : a.tmps[1]?.getD undef = .pointer (some ⟨g0, 0, none⟩) := by rw [← Array.getD_eq_getD_getElem?]; exact hh.old 1 rfl
    obtain ⟨⟨c0, c1, c2, c3⟩, -, -⟩ := (hh.st).c4
    have hJ := Lib.hid hh.st
    clear hh
    go_simp
    exact ⟨_, rfl, regs.bl_refl _, rfl, hJ.out⟩
  · refine regs.StepOK.plain rfl fun L a w1 hh => ?_
    have := True.intro
    have hJ := Lib.hid hh.st
    clear hh
    go_simp
    refine (bx_of (⟨1, 1, 2, 2⟩ : Bx) w1).mono ?_
    rintro e w9 ⟨rfl, hb9⟩
    exact ⟨_, rfl, hb9, congrArg Bx.v (by decide : Bx.nrm (⟨1, 1, 2, 2⟩ : Bx) = (⟨1, 1, 2, 2⟩ : Bx)), J1.below hJ.out hb9⟩
  · refine regs.StepOK.plain rfl fun L a w1 hh => ?_
    have h4 : a.tmps[4]?.getD undef = .agg #[.int .i64 0, .int .i64 0, .int .i64 4, .int .i64 4] := by rw [← Array.getD_eq_getD_getElem?]; exact hh.dep 0 4 (by kernel_rfl) (by kernel_rfl)
    have h5 : a.tmps[5]?.getD undef = .agg #[.int .i64 1, .int .i64 1, .int .i64 2, .int .i64 2] := by rw [← Array.getD_eq_getD_getElem?]; exact hh.dep 1 5 (by kernel_rfl) (by kernel_rfl)
    have := True.intro
    have hJ := Lib.hid hh.st
    clear hh
    go_simp
    refine (bx_less (⟨0, 0, 4, 4⟩ : Bx) (⟨1, 1, 2, 2⟩ : Bx) w1).mono ?_
    rintro e w9 ⟨v9, rfl, ho9, hb9⟩
    have ho9 := SOwn.row ho9 bcs_len
    rw [show Bx.less (⟨0, 0, 4, 4⟩ : Bx) (⟨1, 1, 2, 2⟩ : Bx) = [(⟨0, 0, 4, 1⟩ : Bx), (⟨0, 1, 1, 2⟩ : Bx), (⟨2, 1, 4, 2⟩ : Bx), (⟨0, 2, 4, 4⟩ : Bx)] from by decide] at ho9
    obtain ⟨A9, c9, rfl, hc9, hm9, hr9⟩ := ho9
    exact ⟨_, rfl, hb9, ⟨A9, c9, rfl, hr9, hc9, hm9⟩, J1.below hJ.out hb9⟩
  · refine regs.StepOK.plain rfl fun L a w1 hh => ?_
    obtain ⟨A, c, hs, hrow, hc, hm⟩ : ∃ A c, a.tmps[6]?.getD undef = .slice A 4 c ∧ BRow w1 A [(⟨0, 0, 4, 1⟩ : Bx), (⟨0, 1, 1, 2⟩ : Bx), (⟨2, 1, 4, 2⟩ : Bx), (⟨0, 2, 4, 4⟩ : Bx)] ∧ 4 ≤ c ∧ c ≤ maxLen := by rw [← Array.getD_eq_getD_getElem?]; exact hh.dep 2 6 (by kernel_rfl) (by kernel_rfl)
    have hJ := Lib.hid hh.st
    clear hh
    go_simp
    exact ⟨_, rfl, regs.bl_refl _, ⟨_, _, rfl, hrow, hc, hm⟩, hJ.out⟩
  intro L w5 val hL hJ hR hv
  obtain ⟨A6, c6, h6, hrow6, hc6, hm6⟩ : ∃ A c, val 6 = .slice A 4 c ∧ BRow w5 A [(⟨0, 0, 4, 1⟩ : Bx), (⟨0, 1, 1, 2⟩ : Bx), (⟨2, 1, 4, 2⟩ : Bx), (⟨0, 2, 4, 4⟩ : Bx)] ∧ 4 ≤ c ∧ c ≤ maxLen := hv 2 6 (by kernel_rfl)
  obtain ⟨A2, c2, h2, hrow2, hc2, hm2⟩ : ∃ A c, val 2 = .slice A 4 c ∧ BRow w5 A [(⟨0, 0, 4, 1⟩ : Bx), (⟨0, 1, 1, 2⟩ : Bx), (⟨2, 1, 4, 2⟩ : Bx), (⟨0, 2, 4, 4⟩ : Bx)] ∧ 4 ≤ c ∧ c ≤ maxLen := hv 3 2 (by kernel_rfl)
  have HJ5 := Lib.hid hJ
  have HR5 := Lib.hid hR
  clear hv hL hJ hR
  simp only [regs.putAll, List.map_cons, List.map_nil]
  rw [h6, h2]
  generalize val 4 = v4
  generalize val 5 = v5
  simp only [Act.put, List.setIfInBounds_toArray, List.set_cons_zero, List.set_cons_succ]
  clear h6 h2
  obtain ⟨bl, lo, rfl, -⟩ := hrow2 (by decide)
  have HJ1 : Hid (JA g0 bl lo [.int .i64 0, .int .i64 0, .int .i64 4, .int .i64 4] [⟨0, 0, 4, 1⟩, ⟨0, 1, 1, 2⟩, ⟨2, 1, 4, 2⟩, ⟨0, 2, 4, 4⟩] w5) := ⟨HJ5.out, hrow2⟩
  have HB5 : Hid (Below w.heap.size w w5) := HB.out.trans (HR5.out.mono HB.out.size)
  have HC2 := Lib.hid hc2
  generalize A6 = A6' at *
  clear hrow2 hrow6 hc2 hc6 hm2 hm6 HB HJ0 HJ5 HR5
  go_wp2_with (fail)
  refine regs.wp_region_put (regs.bl) (fun _ wx => JA g0 bl lo [.int .i64 0, .int .i64 0, .int .i64 4, .int .i64 4] [(⟨0, 0, 4, 1⟩ : Bx), (⟨0, 1, 1, 2⟩ : Bx), (⟨2, 1, 4, 2⟩ : Bx), (⟨0, 2, 4, 4⟩ : Bx)] wx) [7, 8, 9, 10, 11, 12, 13, 14, 15, 16, 17, 18, 19, 20, 21, 22, 23, 24, 25, 26, 27, 28, 29, 30, 31, 32, 33, 34, 35, 36, 37, 38, 39, 40, 41, 42, 43, 44, 45, 46, 47, 48, 49, 50, 51, 52, 53, 54, 55, 56, 57, 58, 59, 60, 61, 62, 63, 64, 65, 66, 67, 68, 69, 0] (by kernel_rfl) (by kernel_rfl) (fun _ => regs.bl_refl _) (regs.bl_trans) (fun i => (match i with
    | 0 => regs.Say.val _ (.slice (some ⟨bl, lo, none⟩) 4 c2)
    | 1 => regs.Say.val _ (.int .i64 4)
    | 2 => regs.Say.val _ (.bool true)
    | 3 => regs.Say.val _ (.bool true)
    | 4 => regs.Say.val _ (.slice (some ⟨bl, lo, none⟩) 4 c2)
    | 5 => regs.Say.val _ (.pointer (some ⟨bl, lo, none⟩))
    | 6 => regs.Say.val _ (.agg #[.int .i64 0, .int .i64 0, .int .i64 4, .int .i64 1])
    | 7 => regs.Say.val _ (.agg #[.int .i64 0, .int .i64 0, .int .i64 4, .int .i64 1])
    | 8 => regs.Say.val _ (.bool true)
    | 9 => regs.Say.val _ (.bool true)
    | 10 => regs.Say.val _ (.bool true)
    | 11 => regs.Say.val _ (.slice (some ⟨bl, lo, none⟩) 4 c2)
    | 12 => regs.Say.val _ (.pointer (some ⟨bl, lo + 8, none⟩))
    | 13 => regs.Say.val _ (.agg #[.int .i64 2, .int .i64 1, .int .i64 4, .int .i64 2])
    | 14 => regs.Say.val _ (.agg #[.int .i64 2, .int .i64 1, .int .i64 4, .int .i64 2])
    | 15 => regs.Say.val _ (.bool true)
    | 16 => regs.Say.val _ (.bool true)
    | 17 => regs.Say.val _ (.bool true)
    | 18 => regs.Say.val _ (.agg #[.int .i64 0, .int .i64 0, .int .i64 4, .int .i64 4])
    | 19 => regs.Say.val _ (.bool true)
    | 20 => regs.Say.val _ (.bool true)
    | 21 => regs.Say.val _ (.bool true)
    | 22 => regs.Say.val _ (.agg #[.int .i64 0, .int .i64 0, .int .i64 4, .int .i64 4])
    | 23 => regs.Say.val _ (.bool false)
    | 24 => regs.Say.val _ (.bool true)
    | 25 => regs.Say.val _ (.bool true)
    | 26 => regs.Say.val _ (.bool true)
    | 27 => regs.Say.val _ (.agg #[.int .i64 0, .int .i64 0, .int .i64 4, .int .i64 4])
    | 28 => regs.Say.val _ (.agg #[.int .i64 2, .int .i64 2, .int .i64 9, .int .i64 9])
    | 29 => sayB [(⟨2, 2, 9, 9⟩ : Bx)]
    | 30 => regs.Say.val _ (.agg #[.int .i64 2, .int .i64 2, .int .i64 4, .int .i64 4])
    | 31 => regs.Say.val _ (.int .i64 4)
    | 32 => regs.Say.val _ (.bool true)
    | 33 => regs.Say.val _ (.bool true)
    | 34 => regs.Say.val _ (.bool true)
    | 35 => regs.Say.val _ (.agg #[.int .i64 0, .int .i64 0, .int .i64 4, .int .i64 4])
    | 36 => regs.Say.val _ (.agg #[.int .i64 5, .int .i64 5, .int .i64 6, .int .i64 6])
    | 37 => sayB [(⟨5, 5, 6, 6⟩ : Bx)]
    | 38 => regs.Say.val _ (.agg #[.int .i64 0, .int .i64 0, .int .i64 6, .int .i64 6])
    | 39 => regs.Say.val _ (.int .i64 36)
    | 40 => regs.Say.val _ (.bool true)
    | 41 => regs.Say.val _ (.bool true)
    | 42 => regs.Say.val _ (.bool true)
    | 43 => regs.Say.val _ (.agg #[.int .i64 0, .int .i64 0, .int .i64 4, .int .i64 4])
    | 44 => regs.Say.val _ (.agg #[.int .i64 (-1), .int .i64 (-1), .int .i64 5, .int .i64 5])
    | 45 => regs.Say.val _ (.int .i64 (-1))
    | 46 => regs.Say.val _ (.bool true)
    | 47 => regs.Say.val _ (.bool true)
    | 48 => regs.Say.val _ (.bool true)
    | 49 => regs.Say.val _ (.agg #[.int .i64 0, .int .i64 0, .int .i64 0, .int .i64 0])
    | 50 => regs.Say.val _ (.agg #[.int .i64 0, .int .i64 0, .int .i64 0, .int .i64 0])
    | 51 => regs.Say.val _ (.bool true)
    | 52 => regs.Say.val _ (.bool true)
    | 53 => regs.Say.val _ (.bool true)
    | 54 => regs.Say.val _ (.agg #[.int .i64 1, .int .i64 0, .int .i64 0, .int .i64 0])
    | 55 => regs.Say.val _ (.bool true)
    | 56 => regs.Say.val _ (.bool true)
    | 57 => regs.Say.val _ (.bool true)
    | 58 => regs.Say.val _ (.agg #[.int .i64 0, .int .i64 0, .int .i64 4, .int .i64 4])
    | 59 => regs.Say.val _ (.agg #[.int .i64 0, .int .i64 0, .int .i64 3, .int .i64 4])
    | 60 => regs.Say.val _ (.bool false)
    | 61 => regs.Say.val _ (.bool true)
    | 62 => regs.Say.val _ (.bool true)
    | 63 => regs.Say.val _ (.bool true)
    | _ => regs.Say.any _ : regs.Say (regs.bl)).p) (fun _ => regs.Say.mono _) (by kernel_rfl) ((Below.refl _ _).drew) (HJ1.out) ⟨?_, ?_, ?_, ?_, ?_, ?_, ?_, ?_, ?_, ?_, ?_, ?_, ?_, ?_, ?_, ?_, ?_, ?_, ?_, ?_, ?_, ?_, ?_, ?_, ?_, ?_, ?_, ?_, ?_, ?_, ?_, ?_, ?_, ?_, ?_, ?_, ?_, ?_, ?_, ?_, ?_, ?_, ?_, ?_, ?_, ?_, ?_, ?_, ?_, ?_, ?_, ?_, ?_, ?_, ?_, ?_, ?_, ?_, ?_, ?_, ?_, ?_, ?_, ?_, trivial⟩ ?_
  · refine regs.StepOK.plain rfl fun L a w1 hh => ?_
    have h2 : a.tmps[2]?.getD undef = .slice (some ⟨bl, lo, none⟩) 4 c2 := by rw [← Array.getD_eq_getD_getElem?]; exact hh.old 2 rfl
    have hJ := Lib.hid hh.st
    clear hh
    go_simp
    exact ⟨_, rfl, regs.bl_refl _, rfl, hJ.out⟩
  · refine regs.StepOK.plain rfl fun L a w1 hh => ?_
    have h7 : a.tmps[7]?.getD undef = .slice (some ⟨bl, lo, none⟩) 4 c2 := by rw [← Array.getD_eq_getD_getElem?]; exact hh.dep 0 7 (by kernel_rfl) (by kernel_rfl)
    have hJ := Lib.hid hh.st
    clear hh
    go_simp
    exact ⟨_, rfl, regs.bl_refl _, rfl, hJ.out⟩
  · refine regs.StepOK.plain rfl fun L a w1 hh => ?_
    have h8 : a.tmps[8]?.getD undef = .int .i64 4 := by rw [← Array.getD_eq_getD_getElem?]; exact hh.dep 1 8 (by kernel_rfl) (by kernel_rfl)
    have hJ := Lib.hid hh.st
    clear hh
    go_simp
    exact ⟨_, rfl, regs.bl_refl _, rfl, hJ.out⟩
  · refine regs.StepOK.plain rfl fun L a w1 hh => ?_
    have h9 : a.tmps[9]?.getD undef = .bool true := by rw [← Array.getD_eq_getD_getElem?]; exact hh.dep 2 9 (by kernel_rfl) (by kernel_rfl)
    have hJ := Lib.hid hh.st
    clear hh
    go_simp
    exact ⟨_, rfl, regs.bl_refl _, rfl, hJ.out⟩
  · refine regs.StepOK.yes 3 true 10 rfl rfl (fun L a w1 hh => hh.dep 3 10 (by kernel_rfl) (by kernel_rfl)) fun L a w1 hh => ?_
    have h2 : a.tmps[2]?.getD undef = .slice (some ⟨bl, lo, none⟩) 4 c2 := by rw [← Array.getD_eq_getD_getElem?]; exact hh.old 2 rfl
    have hJ := Lib.hid hh.st
    clear hh
    go_simp
    exact ⟨_, rfl, regs.bl_refl _, rfl, hJ.out⟩
  · refine regs.StepOK.yes 3 true 10 rfl rfl (fun L a w1 hh => hh.dep 3 10 (by kernel_rfl) (by kernel_rfl)) fun L a w1 hh => ?_
    have h11 : a.tmps[11]?.getD undef = .slice (some ⟨bl, lo, none⟩) 4 c2 := by rw [← Array.getD_eq_getD_getElem?]; exact hh.dep 4 11 (by kernel_rfl) (by kernel_rfl)
    have hJ := Lib.hid hh.st
    clear hh
    go_simp
    exact ⟨_, rfl, regs.bl_refl _, rfl, hJ.out⟩
  · refine regs.StepOK.yes 3 true 10 rfl rfl (fun L a w1 hh => hh.dep 3 10 (by kernel_rfl) (by kernel_rfl)) fun L a w1 hh => ?_
    have h12 : a.tmps[12]?.getD undef = .pointer (some ⟨bl, lo, none⟩) := by rw [← Array.getD_eq_getD_getElem?]; exact hh.dep 5 12 (by kernel_rfl) (by kernel_rfl)
    have c0 : w1.cell? ⟨bl, lo, none⟩ = some (.int .i64 0) := brow_cell hh.st.2 0 (by decide) 0 _ rfl
    have c1 : w1.cell? ⟨bl, lo + 1, none⟩ = some (.int .i64 0) := brow_cell hh.st.2 0 (by decide) 1 _ rfl
    have c2 : w1.cell? ⟨bl, lo + 2, none⟩ = some (.int .i64 4) := brow_cell hh.st.2 0 (by decide) 2 _ rfl
    have c3 : w1.cell? ⟨bl, lo + 3, none⟩ = some (.int .i64 1) := brow_cell hh.st.2 0 (by decide) 3 _ rfl
    have hJ := Lib.hid hh.st
    clear hh
    go_simp
    exact ⟨_, rfl, regs.bl_refl _, rfl, hJ.out⟩
  · refine regs.StepOK.yes 3 true 10 rfl rfl (fun L a w1 hh => hh.dep 3 10 (by kernel_rfl) (by kernel_rfl)) fun L a w1 hh => ?_
    have := True.intro
    have hJ := Lib.hid hh.st
    clear hh
    go_simp
    refine (bx_of (⟨0, 0, 4, 1⟩ : Bx) w1).mono ?_
    rintro e w9 ⟨rfl, hb9⟩
    exact ⟨_, rfl, hb9, congrArg Bx.v (by decide : Bx.nrm (⟨0, 0, 4, 1⟩ : Bx) = (⟨0, 0, 4, 1⟩ : Bx)), JA.below hJ.out hb9⟩
  · refine regs.StepOK.yes 3 true 10 rfl rfl (fun L a w1 hh => hh.dep 3 10 (by kernel_rfl) (by kernel_rfl)) fun L a w1 hh => ?_
    have h13 : a.tmps[13]?.getD undef = .agg #[.int .i64 0, .int .i64 0, .int .i64 4, .int .i64 1] := by rw [← Array.getD_eq_getD_getElem?]; exact hh.dep 6 13 (by kernel_rfl) (by kernel_rfl)
    have h14 : a.tmps[14]?.getD undef = .agg #[.int .i64 0, .int .i64 0, .int .i64 4, .int .i64 1] := by rw [← Array.getD_eq_getD_getElem?]; exact hh.dep 7 14 (by kernel_rfl) (by kernel_rfl)
    have eqst := fun w => bx_eq (⟨0, 0, 4, 1⟩ : Bx) (⟨0, 0, 4, 1⟩ : Bx) w
    rw [show decide ((⟨0, 0, 4, 1⟩ : Bx) = (⟨0, 0, 4, 1⟩ : Bx)) = true from by decide] at eqst
    unfold Bx.v at eqst
    simp only at eqst
    have hJ := Lib.hid hh.st
    clear hh
    go_simp
    exact ⟨_, rfl, regs.bl_refl _, rfl, hJ.out⟩
  · refine regs.StepOK.plain rfl fun L a w1 hh => ?_
    have h10 : a.tmps[10]?.getD undef = .bool true := by rw [← Array.getD_eq_getD_getElem?]; exact hh.dep 3 10 (by kernel_rfl) (by kernel_rfl)
    have h15 : a.tmps[15]?.getD undef = .bool true := by rw [← Array.getD_eq_getD_getElem?]; exact hh.dep 8 15 (by kernel_rfl) (by kernel_rfl)
    have hJ := Lib.hid hh.st
    clear hh
    go_simp
    exact ⟨_, rfl, regs.bl_refl _, rfl, hJ.out⟩
  · refine regs.StepOK.plain rfl fun L a w1 hh => ?_
    have h16 : a.tmps[16]?.getD undef = .bool true := by rw [← Array.getD_eq_getD_getElem?]; exact hh.dep 9 16 (by kernel_rfl) (by kernel_rfl)
    have hJ := Lib.hid hh.st
    clear hh
    go_simp
    exact ⟨_, rfl, regs.bl_refl _, rfl, hJ.out⟩
  · refine regs.StepOK.yes 10 true 17 rfl rfl (fun L a w1 hh => hh.dep 10 17 (by kernel_rfl) (by kernel_rfl)) fun L a w1 hh => ?_
    have h2 : a.tmps[2]?.getD undef = .slice (some ⟨bl, lo, none⟩) 4 c2 := by rw [← Array.getD_eq_getD_getElem?]; exact hh.old 2 rfl
    have hJ := Lib.hid hh.st
    clear hh
    go_simp
    exact ⟨_, rfl, regs.bl_refl _, rfl, hJ.out⟩
  · refine regs.StepOK.yes 10 true 17 rfl rfl (fun L a w1 hh => hh.dep 10 17 (by kernel_rfl) (by kernel_rfl)) fun L a w1 hh => ?_
    have h18 : a.tmps[18]?.getD undef = .slice (some ⟨bl, lo, none⟩) 4 c2 := by rw [← Array.getD_eq_getD_getElem?]; exact hh.dep 11 18 (by kernel_rfl) (by kernel_rfl)
    have hJ := Lib.hid hh.st
    clear hh
    go_simp
    exact ⟨_, rfl, regs.bl_refl _, rfl, hJ.out⟩
  · refine regs.StepOK.yes 10 true 17 rfl rfl (fun L a w1 hh => hh.dep 10 17 (by kernel_rfl) (by kernel_rfl)) fun L a w1 hh => ?_
    have h19 : a.tmps[19]?.getD undef = .pointer (some ⟨bl, lo + 8, none⟩) := by rw [← Array.getD_eq_getD_getElem?]; exact hh.dep 12 19 (by kernel_rfl) (by kernel_rfl)
    have c0 : w1.cell? ⟨bl, lo + 8, none⟩ = some (.int .i64 2) := brow_cell hh.st.2 2 (by decide) 0 _ rfl
    have c1 : w1.cell? ⟨bl, lo + 8 + 1, none⟩ = some (.int .i64 1) := brow_cell hh.st.2 2 (by decide) 1 _ rfl
    have c2 : w1.cell? ⟨bl, lo + 8 + 2, none⟩ = some (.int .i64 4) := brow_cell hh.st.2 2 (by decide) 2 _ rfl
    have c3 : w1.cell? ⟨bl, lo + 8 + 3, none⟩ = some (.int .i64 2) := brow_cell hh.st.2 2 (by decide) 3 _ rfl
    have hJ := Lib.hid hh.st
    clear hh
    go_simp
    exact ⟨_, rfl, regs.bl_refl _, rfl, hJ.out⟩
  · refine regs.StepOK.yes 10 true 17 rfl rfl (fun L a w1 hh => hh.dep 10 17 (by kernel_rfl) (by kernel_rfl)) fun L a w1 hh => ?_
    have hJ := Lib.hid hh.st
    clear hh
    go_simp
    exact ⟨_, rfl, regs.bl_refl _, rfl, hJ.out⟩
  · refine regs.StepOK.yes 10 true 17 rfl rfl (fun L a w1 hh => hh.dep 10 17 (by kernel_rfl) (by kernel_rfl)) fun L a w1 hh => ?_
    have h20 : a.tmps[20]?.getD undef = .agg #[.int .i64 2, .int .i64 1, .int .i64 4, .int .i64 2] := by rw [← Array.getD_eq_getD_getElem?]; exact hh.dep 13 20 (by kernel_rfl) (by kernel_rfl)
    have h21 : a.tmps[21]?.getD undef = .agg #[.int .i64 2, .int .i64 1, .int .i64 4, .int .i64 2] := by rw [← Array.getD_eq_getD_getElem?]; exact hh.dep 14 21 (by kernel_rfl) (by kernel_rfl)
    have eqst := fun w => bx_eq (⟨2, 1, 4, 2⟩ : Bx) (⟨2, 1, 4, 2⟩ : Bx) w
    rw [show decide ((⟨2, 1, 4, 2⟩ : Bx) = (⟨2, 1, 4, 2⟩ : Bx)) = true from by decide] at eqst
    unfold Bx.v at eqst
    simp only at eqst
    have hJ := Lib.hid hh.st
    clear hh
    go_simp
    exact ⟨_, rfl, regs.bl_refl _, rfl, hJ.out⟩
  · refine regs.StepOK.plain rfl fun L a w1 hh => ?_
    have h17 : a.tmps[17]?.getD undef = .bool true := by rw [← Array.getD_eq_getD_getElem?]; exact hh.dep 10 17 (by kernel_rfl) (by kernel_rfl)
    have h22 : a.tmps[22]?.getD undef = .bool true := by rw [← Array.getD_eq_getD_getElem?]; exact hh.dep 15 22 (by kernel_rfl) (by kernel_rfl)
    have hJ := Lib.hid hh.st
    clear hh
    go_simp
    exact ⟨_, rfl, regs.bl_refl _, rfl, hJ.out⟩
  · refine regs.StepOK.plain rfl fun L a w1 hh => ?_
    have h23 : a.tmps[23]?.getD undef = .bool true := by rw [← Array.getD_eq_getD_getElem?]; exact hh.dep 16 23 (by kernel_rfl) (by kernel_rfl)
    have hJ := Lib.hid hh.st
    clear hh
    go_simp
    exact ⟨_, rfl, regs.bl_refl _, rfl, hJ.out⟩
  · refine regs.StepOK.yes 17 true 24 rfl rfl (fun L a w1 hh => hh.dep 17 24 (by kernel_rfl) (by kernel_rfl)) fun L a w1 hh => ?_
    have h1 : a.tmps[1]?.getD undef = .pointer (some ⟨g0, 0, none⟩) := by rw [← Array.getD_eq_getD_getElem?]; exact hh.old 1 rfl
    obtain ⟨⟨c0, c1, c2, c3⟩, -, -⟩ := (hh.st.1).c4
    have hJ := Lib.hid hh.st
    clear hh
    go_simp
    exact ⟨_, rfl, regs.bl_refl _, rfl, hJ.out⟩
  · refine regs.StepOK.yes 17 true 24 rfl rfl (fun L a w1 hh => hh.dep 17 24 (by kernel_rfl) (by kernel_rfl)) fun L a w1 hh => ?_
    have h25 : a.tmps[25]?.getD undef = .agg #[.int .i64 0, .int .i64 0, .int .i64 4, .int .i64 4] := by rw [← Array.getD_eq_getD_getElem?]; exact hh.dep 18 25 (by kernel_rfl) (by kernel_rfl)
    have := True.intro
    have hJ := Lib.hid hh.st
    clear hh
    go_simp
    refine (bx_has (⟨0, 0, 4, 4⟩ : Bx) 0 3 w1).mono ?_
    rintro e w9 ⟨rfl, hb9⟩
    exact ⟨_, rfl, hb9, congrArg Value.bool (by decide : Bx.has (⟨0, 0, 4, 4⟩ : Bx) 0 3 = true), JA.below hJ.out hb9⟩
  · refine regs.StepOK.plain rfl fun L a w1 hh => ?_
    have h24 : a.tmps[24]?.getD undef = .bool true := by rw [← Array.getD_eq_getD_getElem?]; exact hh.dep 17 24 (by kernel_rfl) (by kernel_rfl)
    have h26 : a.tmps[26]?.getD undef = .bool true := by rw [← Array.getD_eq_getD_getElem?]; exact hh.dep 19 26 (by kernel_rfl) (by kernel_rfl)
    have hJ := Lib.hid hh.st
    clear hh
    go_simp
    exact ⟨_, rfl, regs.bl_refl _, rfl, hJ.out⟩
  · refine regs.StepOK.plain rfl fun L a w1 hh => ?_
    have h27 : a.tmps[27]?.getD undef = .bool true := by rw [← Array.getD_eq_getD_getElem?]; exact hh.dep 20 27 (by kernel_rfl) (by kernel_rfl)
    have hJ := Lib.hid hh.st
    clear hh
    go_simp
    exact ⟨_, rfl, regs.bl_refl _, rfl, hJ.out⟩
  · refine regs.StepOK.yes 21 true 28 rfl rfl (fun L a w1 hh => hh.dep 21 28 (by kernel_rfl) (by kernel_rfl)) fun L a w1 hh => ?_
    have h1 : a.tmps[1]?.getD undef = .pointer (some ⟨g0, 0, none⟩) := by rw [← Array.getD_eq_getD_getElem?]; exact hh.old 1 rfl
    obtain ⟨⟨c0, c1, c2, c3⟩, -, -⟩ := (hh.st.1).c4
    have hJ := Lib.hid hh.st
    clear hh
    go_simp
    exact ⟨_, rfl, regs.bl_refl _, rfl, hJ.out⟩
  · refine regs.StepOK.yes 21 true 28 rfl rfl (fun L a w1 hh => hh.dep 21 28 (by kernel_rfl) (by kernel_rfl)) fun L a w1 hh => ?_
    have h29 : a.tmps[29]?.getD undef = .agg #[.int .i64 0, .int .i64 0, .int .i64 4, .int .i64 4] := by rw [← Array.getD_eq_getD_getElem?]; exact hh.dep 22 29 (by kernel_rfl) (by kernel_rfl)
    have := True.intro
    have hJ := Lib.hid hh.st
    clear hh
    go_simp
    refine (bx_has (⟨0, 0, 4, 4⟩ : Bx) 4 0 w1).mono ?_
    rintro e w9 ⟨rfl, hb9⟩
    exact ⟨_, rfl, hb9, congrArg Value.bool (by decide : Bx.has (⟨0, 0, 4, 4⟩ : Bx) 4 0 = false), JA.below hJ.out hb9⟩
  · refine regs.StepOK.yes 21 true 28 rfl rfl (fun L a w1 hh => hh.dep 21 28 (by kernel_rfl) (by kernel_rfl)) fun L a w1 hh => ?_
    have h30 : a.tmps[30]?.getD undef = .bool false := by rw [← Array.getD_eq_getD_getElem?]; exact hh.dep 23 30 (by kernel_rfl) (by kernel_rfl)
    have hJ := Lib.hid hh.st
    clear hh
    go_simp
    exact ⟨_, rfl, regs.bl_refl _, rfl, hJ.out⟩
  · refine regs.StepOK.plain rfl fun L a w1 hh => ?_
    have h28 : a.tmps[28]?.getD undef = .bool true := by rw [← Array.getD_eq_getD_getElem?]; exact hh.dep 21 28 (by kernel_rfl) (by kernel_rfl)
    have h31 : a.tmps[31]?.getD undef = .bool true := by rw [← Array.getD_eq_getD_getElem?]; exact hh.dep 24 31 (by kernel_rfl) (by kernel_rfl)
    have hJ := Lib.hid hh.st
    clear hh
    go_simp
    exact ⟨_, rfl, regs.bl_refl _, rfl, hJ.out⟩
  · refine regs.StepOK.plain rfl fun L a w1 hh => ?_
    have h32 : a.tmps[32]?.getD undef = .bool true := by rw [← Array.getD_eq_getD_getElem?]; exact hh.dep 25 32 (by kernel_rfl) (by kernel_rfl)
    have hJ := Lib.hid hh.st
    clear hh
    go_simp
    exact ⟨_, rfl, regs.bl_refl _, rfl, hJ.out⟩
  · refine regs.StepOK.yes 26 true 33 rfl rfl (fun L a w1 hh => hh.dep 26 33 (by kernel_rfl) (by kernel_rfl)) fun L a w1 hh => ?_
    have h1 : a.tmps[1]?.getD undef = .pointer (some ⟨g0, 0, none⟩) := by rw [← Array.getD_eq_getD_getElem?]; exact hh.old 1 rfl
    obtain ⟨⟨c0, c1, c2, c3⟩, -, -⟩ := (hh.st.1).c4
    have hJ := Lib.hid hh.st
    clear hh
    go_simp
    exact ⟨_, rfl, regs.bl_refl _, rfl, hJ.out⟩
  · refine regs.StepOK.yes 26 true 33 rfl rfl (fun L a w1 hh => hh.dep 26 33 (by kernel_rfl) (by kernel_rfl)) fun L a w1 hh => ?_
    have := True.intro
    have hJ := Lib.hid hh.st
    clear hh
    go_simp
    refine (bx_of (⟨2, 2, 9, 9⟩ : Bx) w1).mono ?_
    rintro e w9 ⟨rfl, hb9⟩
    exact ⟨_, rfl, hb9, congrArg Bx.v (by decide : Bx.nrm (⟨2, 2, 9, 9⟩ : Bx) = (⟨2, 2, 9, 9⟩ : Bx)), JA.below hJ.out hb9⟩
  · refine regs.StepOK.yes 26 true 33 rfl rfl (fun L a w1 hh => hh.dep 26 33 (by kernel_rfl) (by kernel_rfl)) fun L a w1 hh => ?_
    have h35 : a.tmps[35]?.getD undef = .agg #[.int .i64 2, .int .i64 2, .int .i64 9, .int .i64 9] := by rw [← Array.getD_eq_getD_getElem?]; exact hh.dep 28 35 (by kernel_rfl) (by kernel_rfl)
    have hJ := Lib.hid hh.st
    clear hh
    go_simp
    exact ⟨_, rfl, (Below.refl _ _).alloc (Nat.le_refl _) _, ⟨_, _, rfl, brow_new w1 [(⟨2, 2, 9, 9⟩ : Bx)] rfl, Nat.le_refl _, by simp [maxLen]⟩, JA.below hJ.out ((Below.refl _ _).alloc (Nat.le_refl _) _)⟩
  · refine regs.StepOK.yes 26 true 33 rfl rfl (fun L a w1 hh => hh.dep 26 33 (by kernel_rfl) (by kernel_rfl)) fun L a w1 hh => ?_
    have h34 : a.tmps[34]?.getD undef = .agg #[.int .i64 0, .int .i64 0, .int .i64 4, .int .i64 4] := by rw [← Array.getD_eq_getD_getElem?]; exact hh.dep 27 34 (by kernel_rfl) (by kernel_rfl)
    obtain ⟨A36, c36, h36, hrow36, hc36, hm36⟩ : ∃ A c, a.tmps[36]?.getD undef = .slice A 1 c ∧ BRow w1 A [(⟨2, 2, 9, 9⟩ : Bx)] ∧ 1 ≤ c ∧ c ≤ maxLen := by rw [← Array.getD_eq_getD_getElem?]; exact hh.dep 29 36 (by kernel_rfl) (by kernel_rfl)
    have hJ := Lib.hid hh.st
    clear hh
    go_simp
    refine (bx_cut (⟨0, 0, 4, 4⟩ : Bx) A36 [(⟨2, 2, 9, 9⟩ : Bx)] c36 w1 hrow36 (by simp)).mono ?_
    rintro e w9 ⟨rfl, hb9⟩
    exact ⟨_, rfl, hb9, congrArg Bx.v (by decide : Bx.cut (⟨0, 0, 4, 4⟩ : Bx) [(⟨2, 2, 9, 9⟩ : Bx)] = (⟨2, 2, 4, 4⟩ : Bx)), JA.below hJ.out hb9⟩
  · refine regs.StepOK.yes 26 true 33 rfl rfl (fun L a w1 hh => hh.dep 26 33 (by kernel_rfl) (by kernel_rfl)) fun L a w1 hh => ?_
    have h37 : a.tmps[37]?.getD undef = .agg #[.int .i64 2, .int .i64 2, .int .i64 4, .int .i64 4] := by rw [← Array.getD_eq_getD_getElem?]; exact hh.dep 30 37 (by kernel_rfl) (by kernel_rfl)
    have := True.intro
    have hJ := Lib.hid hh.st
    clear hh
    go_simp
    refine (bx_area (⟨2, 2, 4, 4⟩ : Bx) w1 (by decide)).mono ?_
    rintro e w9 ⟨rfl, hb9⟩
    exact ⟨_, rfl, hb9, congrArg (Value.int .i64) (by decide : Bx.area (⟨2, 2, 4, 4⟩ : Bx) = 4), JA.below hJ.out hb9⟩
  · refine regs.StepOK.yes 26 true 33 rfl rfl (fun L a w1 hh => hh.dep 26 33 (by kernel_rfl) (by kernel_rfl)) fun L a w1 hh => ?_
    have h38 : a.tmps[38]?.getD undef = .int .i64 4 := by rw [← Array.getD_eq_getD_getElem?]; exact hh.dep 31 38 (by kernel_rfl) (by kernel_rfl)
    have hJ := Lib.hid hh.st
    clear hh
    go_simp
    exact ⟨_, rfl, regs.bl_refl _, rfl, hJ.out⟩
  · refine regs.StepOK.plain rfl fun L a w1 hh => ?_
    have h33 : a.tmps[33]?.getD undef = .bool true := by rw [← Array.getD_eq_getD_getElem?]; exact hh.dep 26 33 (by kernel_rfl) (by kernel_rfl)
    have h39 : a.tmps[39]?.getD undef = .bool true := by rw [← Array.getD_eq_getD_getElem?]; exact hh.dep 32 39 (by kernel_rfl) (by kernel_rfl)
    have hJ := Lib.hid hh.st
    clear hh
    go_simp
    exact ⟨_, rfl, regs.bl_refl _, rfl, hJ.out⟩
  · refine regs.StepOK.plain rfl fun L a w1 hh => ?_
    have h40 : a.tmps[40]?.getD undef = .bool true := by rw [← Array.getD_eq_getD_getElem?]; exact hh.dep 33 40 (by kernel_rfl) (by kernel_rfl)
    have hJ := Lib.hid hh.st
    clear hh
    go_simp
    exact ⟨_, rfl, regs.bl_refl _, rfl, hJ.out⟩
  · refine regs.StepOK.yes 34 true 41 rfl rfl (fun L a w1 hh => hh.dep 34 41 (by kernel_rfl) (by kernel_rfl)) fun L a w1 hh => ?_
    have h1 : a.tmps[1]?.getD undef = .pointer (some ⟨g0, 0, none⟩) := by rw [← Array.getD_eq_getD_getElem?]; exact hh.old 1 rfl
    obtain ⟨⟨c0, c1, c2, c3⟩, -, -⟩ := (hh.st.1).c4
    have hJ := Lib.hid hh.st
    clear hh
    go_simp
    exact ⟨_, rfl, regs.bl_refl _, rfl, hJ.out⟩
  · refine regs.StepOK.yes 34 true 41 rfl rfl (fun L a w1 hh => hh.dep 34 41 (by kernel_rfl) (by kernel_rfl)) fun L a w1 hh => ?_
    have := True.intro
    have hJ := Lib.hid hh.st
    clear hh
    go_simp
    refine (bx_of (⟨5, 5, 6, 6⟩ : Bx) w1).mono ?_
    rintro e w9 ⟨rfl, hb9⟩
    exact ⟨_, rfl, hb9, congrArg Bx.v (by decide : Bx.nrm (⟨5, 5, 6, 6⟩ : Bx) = (⟨5, 5, 6, 6⟩ : Bx)), JA.below hJ.out hb9⟩
  · refine regs.StepOK.yes 34 true 41 rfl rfl (fun L a w1 hh => hh.dep 34 41 (by kernel_rfl) (by kernel_rfl)) fun L a w1 hh => ?_
    have h43 : a.tmps[43]?.getD undef = .agg #[.int .i64 5, .int .i64 5, .int .i64 6, .int .i64 6] := by rw [← Array.getD_eq_getD_getElem?]; exact hh.dep 36 43 (by kernel_rfl) (by kernel_rfl)
    have hJ := Lib.hid hh.st
    clear hh
    go_simp
    exact ⟨_, rfl, (Below.refl _ _).alloc (Nat.le_refl _) _, ⟨_, _, rfl, brow_new w1 [(⟨5, 5, 6, 6⟩ : Bx)] rfl, Nat.le_refl _, by simp [maxLen]⟩, JA.below hJ.out ((Below.refl _ _).alloc (Nat.le_refl _) _)⟩
  · refine regs.StepOK.yes 34 true 41 rfl rfl (fun L a w1 hh => hh.dep 34 41 (by kernel_rfl) (by kernel_rfl)) fun L a w1 hh => ?_
    have h42 : a.tmps[42]?.getD undef = .agg #[.int .i64 0, .int .i64 0, .int .i64 4, .int .i64 4] := by rw [← Array.getD_eq_getD_getElem?]; exact hh.dep 35 42 (by kernel_rfl) (by kernel_rfl)
    obtain ⟨A44, c44, h44, hrow44, hc44, hm44⟩ : ∃ A c, a.tmps[44]?.getD undef = .slice A 1 c ∧ BRow w1 A [(⟨5, 5, 6, 6⟩ : Bx)] ∧ 1 ≤ c ∧ c ≤ maxLen := by rw [← Array.getD_eq_getD_getElem?]; exact hh.dep 37 44 (by kernel_rfl) (by kernel_rfl)
    have hJ := Lib.hid hh.st
    clear hh
    go_simp
    refine (bx_join (⟨0, 0, 4, 4⟩ : Bx) A44 [(⟨5, 5, 6, 6⟩ : Bx)] c44 w1 hrow44 (by simp)).mono ?_
    rintro e w9 ⟨rfl, hb9⟩
    exact ⟨_, rfl, hb9, congrArg Bx.v (by decide : Bx.join (⟨0, 0, 4, 4⟩ : Bx) [(⟨5, 5, 6, 6⟩ : Bx)] = (⟨0, 0, 6, 6⟩ : Bx)), JA.below hJ.out hb9⟩
  · refine regs.StepOK.yes 34 true 41 rfl rfl (fun L a w1 hh => hh.dep 34 41 (by kernel_rfl) (by kernel_rfl)) fun L a w1 hh => ?_
    have h45 : a.tmps[45]?.getD undef = .agg #[.int .i64 0, .int .i64 0, .int .i64 6, .int .i64 6] := by rw [← Array.getD_eq_getD_getElem?]; exact hh.dep 38 45 (by kernel_rfl) (by kernel_rfl)
    have := True.intro
    have hJ := Lib.hid hh.st
    clear hh
    go_simp
    refine (bx_area (⟨0, 0, 6, 6⟩ : Bx) w1 (by decide)).mono ?_
    rintro e w9 ⟨rfl, hb9⟩
    exact ⟨_, rfl, hb9, congrArg (Value.int .i64) (by decide : Bx.area (⟨0, 0, 6, 6⟩ : Bx) = 36), JA.below hJ.out hb9⟩
  · refine regs.StepOK.yes 34 true 41 rfl rfl (fun L a w1 hh => hh.dep 34 41 (by kernel_rfl) (by kernel_rfl)) fun L a w1 hh => ?_
    have h46 : a.tmps[46]?.getD undef = .int .i64 36 := by rw [← Array.getD_eq_getD_getElem?]; exact hh.dep 39 46 (by kernel_rfl) (by kernel_rfl)
    have hJ := Lib.hid hh.st
    clear hh
    go_simp
    exact ⟨_, rfl, regs.bl_refl _, rfl, hJ.out⟩
  · refine regs.StepOK.plain rfl fun L a w1 hh => ?_
    have h41 : a.tmps[41]?.getD undef = .bool true := by rw [← Array.getD_eq_getD_getElem?]; exact hh.dep 34 41 (by kernel_rfl) (by kernel_rfl)
    have h47 : a.tmps[47]?.getD undef = .bool true := by rw [← Array.getD_eq_getD_getElem?]; exact hh.dep 40 47 (by kernel_rfl) (by kernel_rfl)
    have hJ := Lib.hid hh.st
    clear hh
    go_simp
    exact ⟨_, rfl, regs.bl_refl _, rfl, hJ.out⟩
  · refine regs.StepOK.plain rfl fun L a w1 hh => ?_
    have h48 : a.tmps[48]?.getD undef = .bool true := by rw [← Array.getD_eq_getD_getElem?]; exact hh.dep 41 48 (by kernel_rfl) (by kernel_rfl)
    have hJ := Lib.hid hh.st
    clear hh
    go_simp
    exact ⟨_, rfl, regs.bl_refl _, rfl, hJ.out⟩
  · refine regs.StepOK.yes 42 true 49 rfl rfl (fun L a w1 hh => hh.dep 42 49 (by kernel_rfl) (by kernel_rfl)) fun L a w1 hh => ?_
    have h1 : a.tmps[1]?.getD undef = .pointer (some ⟨g0, 0, none⟩) := by rw [← Array.getD_eq_getD_getElem?]; exact hh.old 1 rfl
    obtain ⟨⟨c0, c1, c2, c3⟩, -, -⟩ := (hh.st.1).c4
    have hJ := Lib.hid hh.st
    clear hh
    go_simp
    exact ⟨_, rfl, regs.bl_refl _, rfl, hJ.out⟩
  · refine regs.StepOK.yes 42 true 49 rfl rfl (fun L a w1 hh => hh.dep 42 49 (by kernel_rfl) (by kernel_rfl)) fun L a w1 hh => ?_
    have h50 : a.tmps[50]?.getD undef = .agg #[.int .i64 0, .int .i64 0, .int .i64 4, .int .i64 4] := by rw [← Array.getD_eq_getD_getElem?]; exact hh.dep 43 50 (by kernel_rfl) (by kernel_rfl)
    have := True.intro
    have hJ := Lib.hid hh.st
    clear hh
    go_simp
    refine (bx_grow (⟨0, 0, 4, 4⟩ : Bx) 1 w1 (by decide)).mono ?_
    rintro e w9 ⟨rfl, hb9⟩
    exact ⟨_, rfl, hb9, congrArg Bx.v (by decide : Bx.grow (⟨0, 0, 4, 4⟩ : Bx) 1 = (⟨-1, -1, 5, 5⟩ : Bx)), JA.below hJ.out hb9⟩
  · refine regs.StepOK.yes 42 true 49 rfl rfl (fun L a w1 hh => hh.dep 42 49 (by kernel_rfl) (by kernel_rfl)) fun L a w1 hh => ?_
    have h51 : a.tmps[51]?.getD undef = .agg #[.int .i64 (-1), .int .i64 (-1), .int .i64 5, .int .i64 5] := by rw [← Array.getD_eq_getD_getElem?]; exact hh.dep 44 51 (by kernel_rfl) (by kernel_rfl)
    have hJ := Lib.hid hh.st
    clear hh
    go_simp
    exact ⟨_, rfl, regs.bl_refl _, rfl, hJ.out⟩
  · refine regs.StepOK.yes 42 true 49 rfl rfl (fun L a w1 hh => hh.dep 42 49 (by kernel_rfl) (by kernel_rfl)) fun L a w1 hh => ?_
    have h52 : a.tmps[52]?.getD undef = .int .i64 (-1) := by rw [← Array.getD_eq_getD_getElem?]; exact hh.dep 45 52 (by kernel_rfl) (by kernel_rfl)
    have hJ := Lib.hid hh.st
    clear hh
    go_simp
    exact ⟨_, rfl, regs.bl_refl _, rfl, hJ.out⟩
  · refine regs.StepOK.plain rfl fun L a w1 hh => ?_
    have h49 : a.tmps[49]?.getD undef = .bool true := by rw [← Array.getD_eq_getD_getElem?]; exact hh.dep 42 49 (by kernel_rfl) (by kernel_rfl)
    have h53 : a.tmps[53]?.getD undef = .bool true := by rw [← Array.getD_eq_getD_getElem?]; exact hh.dep 46 53 (by kernel_rfl) (by kernel_rfl)
    have hJ := Lib.hid hh.st
    clear hh
    go_simp
    exact ⟨_, rfl, regs.bl_refl _, rfl, hJ.out⟩
  · refine regs.StepOK.plain rfl fun L a w1 hh => ?_
    have h54 : a.tmps[54]?.getD undef = .bool true := by rw [← Array.getD_eq_getD_getElem?]; exact hh.dep 47 54 (by kernel_rfl) (by kernel_rfl)
    have hJ := Lib.hid hh.st
    clear hh
    go_simp
    exact ⟨_, rfl, regs.bl_refl _, rfl, hJ.out⟩
  · refine regs.StepOK.yes 48 true 55 rfl rfl (fun L a w1 hh => hh.dep 48 55 (by kernel_rfl) (by kernel_rfl)) fun L a w1 hh => ?_
    have := True.intro
    have hJ := Lib.hid hh.st
    clear hh
    go_simp
    refine (bx_of (⟨1, 1, 1, 5⟩ : Bx) w1).mono ?_
    rintro e w9 ⟨rfl, hb9⟩
    exact ⟨_, rfl, hb9, congrArg Bx.v (by decide : Bx.nrm (⟨1, 1, 1, 5⟩ : Bx) = (⟨0, 0, 0, 0⟩ : Bx)), JA.below hJ.out hb9⟩
  · refine regs.StepOK.yes 48 true 55 rfl rfl (fun L a w1 hh => hh.dep 48 55 (by kernel_rfl) (by kernel_rfl)) fun L a w1 hh => ?_
    have hJ := Lib.hid hh.st
    clear hh
    go_simp
    exact ⟨_, rfl, regs.bl_refl _, rfl, hJ.out⟩
  · refine regs.StepOK.yes 48 true 55 rfl rfl (fun L a w1 hh => hh.dep 48 55 (by kernel_rfl) (by kernel_rfl)) fun L a w1 hh => ?_
    have h56 : a.tmps[56]?.getD undef = .agg #[.int .i64 0, .int .i64 0, .int .i64 0, .int .i64 0] := by rw [← Array.getD_eq_getD_getElem?]; exact hh.dep 49 56 (by kernel_rfl) (by kernel_rfl)
    have h57 : a.tmps[57]?.getD undef = .agg #[.int .i64 0, .int .i64 0, .int .i64 0, .int .i64 0] := by rw [← Array.getD_eq_getD_getElem?]; exact hh.dep 50 57 (by kernel_rfl) (by kernel_rfl)
    have eqst := fun w => bx_eq (⟨0, 0, 0, 0⟩ : Bx) (⟨0, 0, 0, 0⟩ : Bx) w
    rw [show decide ((⟨0, 0, 0, 0⟩ : Bx) = (⟨0, 0, 0, 0⟩ : Bx)) = true from by decide] at eqst
    unfold Bx.v at eqst
    simp only at eqst
    have hJ := Lib.hid hh.st
    clear hh
    go_simp
    exact ⟨_, rfl, regs.bl_refl _, rfl, hJ.out⟩
  · refine regs.StepOK.plain rfl fun L a w1 hh => ?_
    have h55 : a.tmps[55]?.getD undef = .bool true := by rw [← Array.getD_eq_getD_getElem?]; exact hh.dep 48 55 (by kernel_rfl) (by kernel_rfl)
    have h58 : a.tmps[58]?.getD undef = .bool true := by rw [← Array.getD_eq_getD_getElem?]; exact hh.dep 51 58 (by kernel_rfl) (by kernel_rfl)
    have hJ := Lib.hid hh.st
    clear hh
    go_simp
    exact ⟨_, rfl, regs.bl_refl _, rfl, hJ.out⟩
  · refine regs.StepOK.plain rfl fun L a w1 hh => ?_
    have h59 : a.tmps[59]?.getD undef = .bool true := by rw [← Array.getD_eq_getD_getElem?]; exact hh.dep 52 59 (by kernel_rfl) (by kernel_rfl)
    have hJ := Lib.hid hh.st
    clear hh
    go_simp
    exact ⟨_, rfl, regs.bl_refl _, rfl, hJ.out⟩
  · refine regs.StepOK.yes 53 true 60 rfl rfl (fun L a w1 hh => hh.dep 53 60 (by kernel_rfl) (by kernel_rfl)) fun L a w1 hh => ?_
    have hJ := Lib.hid hh.st
    clear hh
    go_simp
    exact ⟨_, rfl, regs.bl_refl _, rfl, hJ.out⟩
  · refine regs.StepOK.yes 53 true 60 rfl rfl (fun L a w1 hh => hh.dep 53 60 (by kernel_rfl) (by kernel_rfl)) fun L a w1 hh => ?_
    have h61 : a.tmps[61]?.getD undef = .agg #[.int .i64 1, .int .i64 0, .int .i64 0, .int .i64 0] := by rw [← Array.getD_eq_getD_getElem?]; exact hh.dep 54 61 (by kernel_rfl) (by kernel_rfl)
    have := True.intro
    have hJ := Lib.hid hh.st
    clear hh
    go_simp
    refine (bx_empty (⟨1, 0, 0, 0⟩ : Bx) w1).mono ?_
    rintro e w9 ⟨rfl, hb9⟩
    exact ⟨_, rfl, hb9, congrArg Value.bool (by decide : Bx.emp (⟨1, 0, 0, 0⟩ : Bx) = true), JA.below hJ.out hb9⟩
  · refine regs.StepOK.plain rfl fun L a w1 hh => ?_
    have h60 : a.tmps[60]?.getD undef = .bool true := by rw [← Array.getD_eq_getD_getElem?]; exact hh.dep 53 60 (by kernel_rfl) (by kernel_rfl)
    have h62 : a.tmps[62]?.getD undef = .bool true := by rw [← Array.getD_eq_getD_getElem?]; exact hh.dep 55 62 (by kernel_rfl) (by kernel_rfl)
    have hJ := Lib.hid hh.st
    clear hh
    go_simp
    exact ⟨_, rfl, regs.bl_refl _, rfl, hJ.out⟩
  · refine regs.StepOK.plain rfl fun L a w1 hh => ?_
    have h63 : a.tmps[63]?.getD undef = .bool true := by rw [← Array.getD_eq_getD_getElem?]; exact hh.dep 56 63 (by kernel_rfl) (by kernel_rfl)
    have hJ := Lib.hid hh.st
    clear hh
    go_simp
    exact ⟨_, rfl, regs.bl_refl _, rfl, hJ.out⟩
  · refine regs.StepOK.yes 57 true 64 rfl rfl (fun L a w1 hh => hh.dep 57 64 (by kernel_rfl) (by kernel_rfl)) fun L a w1 hh => ?_
    have h1 : a.tmps[1]?.getD undef = .pointer (some ⟨g0, 0, none⟩) := by rw [← Array.getD_eq_getD_getElem?]; exact hh.old 1 rfl
    obtain ⟨⟨c0, c1, c2, c3⟩, -, -⟩ := (hh.st.1).c4
    have hJ := Lib.hid hh.st
    clear hh
    go_simp
    exact ⟨_, rfl, regs.bl_refl _, rfl, hJ.out⟩
  · refine regs.StepOK.yes 57 true 64 rfl rfl (fun L a w1 hh => hh.dep 57 64 (by kernel_rfl) (by kernel_rfl)) fun L a w1 hh => ?_
    have := True.intro
    have hJ := Lib.hid hh.st
    clear hh
    go_simp
    refine (bx_of (⟨0, 0, 3, 4⟩ : Bx) w1).mono ?_
    rintro e w9 ⟨rfl, hb9⟩
    exact ⟨_, rfl, hb9, congrArg Bx.v (by decide : Bx.nrm (⟨0, 0, 3, 4⟩ : Bx) = (⟨0, 0, 3, 4⟩ : Bx)), JA.below hJ.out hb9⟩
  · refine regs.StepOK.yes 57 true 64 rfl rfl (fun L a w1 hh => hh.dep 57 64 (by kernel_rfl) (by kernel_rfl)) fun L a w1 hh => ?_
    have h65 : a.tmps[65]?.getD undef = .agg #[.int .i64 0, .int .i64 0, .int .i64 4, .int .i64 4] := by rw [← Array.getD_eq_getD_getElem?]; exact hh.dep 58 65 (by kernel_rfl) (by kernel_rfl)
    have h66 : a.tmps[66]?.getD undef = .agg #[.int .i64 0, .int .i64 0, .int .i64 3, .int .i64 4] := by rw [← Array.getD_eq_getD_getElem?]; exact hh.dep 59 66 (by kernel_rfl) (by kernel_rfl)
    have := True.intro
    have hJ := Lib.hid hh.st
    clear hh
    go_simp
    refine (bx_within (⟨0, 0, 4, 4⟩ : Bx) (⟨0, 0, 3, 4⟩ : Bx) w1).mono ?_
    rintro e w9 ⟨rfl, hb9⟩
    exact ⟨_, rfl, hb9, congrArg Value.bool (by decide : Bx.within (⟨0, 0, 4, 4⟩ : Bx) (⟨0, 0, 3, 4⟩ : Bx) = false), JA.below hJ.out hb9⟩
  · refine regs.StepOK.yes 57 true 64 rfl rfl (fun L a w1 hh => hh.dep 57 64 (by kernel_rfl) (by kernel_rfl)) fun L a w1 hh => ?_
    have h67 : a.tmps[67]?.getD undef = .bool false := by rw [← Array.getD_eq_getD_getElem?]; exact hh.dep 60 67 (by kernel_rfl) (by kernel_rfl)
    have hJ := Lib.hid hh.st
    clear hh
    go_simp
    exact ⟨_, rfl, regs.bl_refl _, rfl, hJ.out⟩
  · refine regs.StepOK.plain rfl fun L a w1 hh => ?_
    have h64 : a.tmps[64]?.getD undef = .bool true := by rw [← Array.getD_eq_getD_getElem?]; exact hh.dep 57 64 (by kernel_rfl) (by kernel_rfl)
    have h68 : a.tmps[68]?.getD undef = .bool true := by rw [← Array.getD_eq_getD_getElem?]; exact hh.dep 61 68 (by kernel_rfl) (by kernel_rfl)
    have hJ := Lib.hid hh.st
    clear hh
    go_simp
    exact ⟨_, rfl, regs.bl_refl _, rfl, hJ.out⟩
  · refine regs.StepOK.plain rfl fun L a w1 hh => ?_
    have h69 : a.tmps[69]?.getD undef = .bool true := by rw [← Array.getD_eq_getD_getElem?]; exact hh.dep 62 69 (by kernel_rfl) (by kernel_rfl)
    have hJ := Lib.hid hh.st
    clear hh
    go_simp
    exact ⟨_, rfl, regs.bl_refl _, rfl, hJ.out⟩
  intro L w6 val hL hJ hR hv
  have h69 : val 69 = .bool true := hv 62 69 (by kernel_rfl)
  have h0 : val 0 = .bool true := hv 63 0 (by kernel_rfl)
  have HJ6 := Lib.hid hJ
  have HR6 := Lib.hid hR
  clear hv hL hJ hR
  simp only [regs.putAll, List.map_cons, List.map_nil]
  rw [h69, h0]
  generalize val 7 = v7
  generalize val 8 = v8
  generalize val 9 = v9
  generalize val 10 = v10
  generalize val 11 = v11
  generalize val 12 = v12
  generalize val 13 = v13
  generalize val 14 = v14
  generalize val 15 = v15
  generalize val 16 = v16
  generalize val 17 = v17
  generalize val 18 = v18
  generalize val 19 = v19
  generalize val 20 = v20
  generalize val 21 = v21
  generalize val 22 = v22
  generalize val 23 = v23
  generalize val 24 = v24
  generalize val 25 = v25
  generalize val 26 = v26
  generalize val 27 = v27
  generalize val 28 = v28
  generalize val 29 = v29
  generalize val 30 = v30
  generalize val 31 = v31
  generalize val 32 = v32
  generalize val 33 = v33
  generalize val 34 = v34
  generalize val 35 = v35
  generalize val 36 = v36
  generalize val 37 = v37
  generalize val 38 = v38
  generalize val 39 = v39
  generalize val 40 = v40
  generalize val 41 = v41
  generalize val 42 = v42
  generalize val 43 = v43
  generalize val 44 = v44
  generalize val 45 = v45
  generalize val 46 = v46
  generalize val 47 = v47
  generalize val 48 = v48
  generalize val 49 = v49
  generalize val 50 = v50
  generalize val 51 = v51
  generalize val 52 = v52
  generalize val 53 = v53
  generalize val 54 = v54
  generalize val 55 = v55
  generalize val 56 = v56
  generalize val 57 = v57
  generalize val 58 = v58
  generalize val 59 = v59
  generalize val 60 = v60
  generalize val 61 = v61
  generalize val 62 = v62
  generalize val 63 = v63
  generalize val 64 = v64
  generalize val 65 = v65
  generalize val 66 = v66
  generalize val 67 = v67
  generalize val 68 = v68
  simp only [Act.put, List.setIfInBounds_toArray, List.set_cons_zero, List.set_cons_succ]
  clear h69 h0
  go_wp2_with (fail)
  go_ret
  exact ⟨rfl, HB5.out.trans (HR6.out.mono HB5.out.size)⟩

/-! ### The law's own words -/
def nearB (x : Int) : Bool := decide (-1073741824 ≤ x ∧ x ≤ 1073741824)
def nearL (l : List Int) : Bool := l.all nearB
theorem nearB_yes {a : Int} (h : -1073741824 ≤ a) (h' : a ≤ 1073741824) : nearB a = true := decide_eq_true ⟨h, h'⟩
theorem nearB_no {a : Int} (h : a < -1073741824 ∨ 1073741824 < a) : nearB a = false := decide_eq_false (by omega)
theorem nearB_of {a : Int} (h : nearB a = true) : -1073741824 ≤ a ∧ a ≤ 1073741824 := of_decide_eq_true h
theorem nearL_snoc {l : List Int} {k : Nat} (h : nearL (l.take k) = true) (hk : k < l.length) (hx : nearB l[k] = true) : nearL (l.take (k + 1)) = true := by
  rw [List.take_succ_eq_append_getElem hk]
  unfold nearL at *
  rw [List.all_append, h]
  simp only [List.all_cons, List.all_nil, hx, Bool.and_true]
theorem nearL_bad {l : List Int} {k : Nat} (hk : k < l.length) (hx : nearB l[k] = false) : nearL l = false := by
  unfold nearL
  rw [List.all_eq_false]
  exact ⟨_, List.getElem_mem hk, by simp [hx]⟩
theorem nearL_take {l : List Int} {k : Nat} (h : nearL (l.take k) = true) (hk : l.length ≤ k) : nearL l = true := by rwa [List.take_of_length_le hk] at h
set_option maxHeartbeats 400000 in
theorem far_any (A : Option Addr) (l : List Int) (c : Nat) (w : World) (hr : Row eI w A l) (h1 : l.length ≤ c) (h2 : c ≤ 9223372036854775807) :
    Calls Try.prog 18 #[.slice A l.length c] w fun e w' => e = .returned (.bool (nearL l)) ∧ w = w' := by
  have HRow := Lib.hid hr
  clear hr
  go_enter Try.func18, Try.ntmps18
  go_wp2_with (fail)
  go_loop [7] (fun i => ∃ k : Nat, k ≤ l.length ∧ i = .int .i64 k ∧ Hid (nearL (l.take k) = true)) (fun i => l.length - (intOf i).toNat)
  case atStart => exact ⟨0, Nat.zero_le _, rfl, by simp [Hid, nearL]⟩
  case round =>
    obtain ⟨k, hk, rfl, HK⟩ := hrel
    by_cases hlt : k < l.length
    · obtain ⟨b, off, rfl, hc⟩ := HRow.out.at_ hlt
      unfold eI at hc
      have HL := Lib.hid (nearL_snoc HK.out hlt)
      have HN := Lib.hid (nearL_bad (l := l) hlt)
      have HY := Lib.hid (fun h h' => HL.out (nearB_yes h h'))
      have HZ := Lib.hid (fun h => HN.out (nearB_no h))
      clear HL HN
      generalize l[k] = x at *
      by_cases hx : x < -1073741824
      · have t1 : decide (x < -1073741824) = true := by simpa using hx
        have HB := Lib.hid (HZ.out (.inl hx))
        clear HY HZ hx
        go_wp2_with (fail)
        go_ret
        exact ⟨ret_bool HB.out.symm, rfl⟩
      · have t1 : decide (x < -1073741824) = false := by simpa using hx
        by_cases hx2 : 1073741824 < x
        · have t2 : decide (1073741824 < x) = true := by simpa using hx2
          have HB := Lib.hid (HZ.out (.inr hx2))
          clear HY HZ hx hx2
          go_wp2_with (fail)
          go_ret
          exact ⟨ret_bool HB.out.symm, rfl⟩
        · have t2 : decide (1073741824 < x) = false := by simpa using hx2
          have HB := Lib.hid (HY.out (by omega) (by omega))
          clear HY HZ hx hx2
          go_wp2_with (fail)
          go_round
          case rel => exact ⟨k + 1, by omega, by go_num, HB⟩
          case measure => simp [intOf]; omega
    · have HB := Lib.hid (nearL_take HK.out (by omega))
      go_wp2_with (fail)
      go_ret
      exact ⟨ret_bool HB.out.symm, rfl⟩
theorem near4 (r : Bx) : nearL [r.a, r.b, r.c, r.d] = r.rt := by
  simp only [nearL, List.all_cons, List.all_nil, Bool.and_true, nearB, Bx.rt, Bool.decide_and]
theorem right_any (r : Bx) (w : World) : Calls Try.prog 7 #[r.v] w fun e w' => e = .returned (.bool r.rt) ∧ Below w.heap.size w w' := by
  have HF := Lib.hid (near4 r)
  obtain ⟨ra, rb, rc, rd⟩ := r
  unfold Bx.v
  simp only at HF ⊢
  go_enter Try.func7, Try.ntmps7
  go_wp2_with (fail)
  refine (far_any _ [ra, rb, rc, rd] 4 _ (row_new' _ [ra, rb, rc, rd] 3 (by simp)) (Nat.le_refl 4) (by decide)).mono ?_
  rw [HF.out]
  rintro e w' ⟨rfl, rfl⟩
  go_wp2_with (fail)
  go_ret
  exact ⟨rfl, ((Below.refl _ _).alloc (Nat.le_refl _) _).alloc (by simp) _⟩
theorem has_any (r : Bx) (x y : Int) (w : World) : Calls Try.prog 12 #[r.v, .int .i64 x, .int .i64 y] w fun e w' => e = .returned (.bool (r.has x y)) ∧ Below w.heap.size w w' := by
  obtain ⟨a, b, c, d⟩ := r
  unfold Bx.v Bx.has
  simp only
  generalize h1 : decide (a ≤ x) = t1
  generalize h2 : decide (x < c) = t2
  generalize h3 : decide (b ≤ y) = t3
  generalize h4 : decide (y < d) = t4
  cases t1 <;> cases t2 <;> cases t3 <;> cases t4
  all_goals
    go_enter Try.func12, Try.ntmps12
    go_wp2_with (fail)
    go_ret
    exact ⟨rfl, (Below.refl _ _).alloc (Nat.le_refl _) _⟩
end Go.Proofs.Ytjnhjhbhodhfgaa
