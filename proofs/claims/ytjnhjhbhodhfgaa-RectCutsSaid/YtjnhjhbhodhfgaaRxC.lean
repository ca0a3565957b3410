/-
  Layer 6: Within, Area, Grow, about, Less.
-/
import Derived.Test.YtjnhjhbhodhfgaaRxB
namespace Go.Proofs.Ytjnhjhbhodhfgaa
open Go.RowKit

def Bx.within (r s : Bx) : Bool := decide (r.cut [s] = r.nrm)
theorem bcs_len (x : Bx) : (Bx.cs x).length = 4 := rfl
theorem brow_new (w : World) (l : List Bx) {g : Nat} (hg : g = w.heap.size) : BRow (w.alloc (.cells (l.flatMap Bx.cs).toArray 23)) (some ⟨g, 0, none⟩) l := srow_new (enc := Bx.cs) bcs_len w l _ hg
/-- it is a slice of these -/
def sayB (l : List Bx) : regs.Say regs.bl := ⟨fun v w => ∃ A c, v = .slice A l.length c ∧ BRow w A l ∧ l.length ≤ c ∧ c ≤ maxLen, fun _ _ _ ⟨A, c, h, hr, hc⟩ hb => ⟨A, c, h, hr.below hb, hc⟩⟩
def J2 (g0 g1 : Nat) (p q : List Value) (w : World) : Prop := Blk w g0 p ∧ Blk w g1 q
theorem J2.below {g0 g1 : Nat} {p q : List Value} {w w' : World} (h : J2 g0 g1 p q w) (hb : Below w.heap.size w w') : J2 g0 g1 p q w' := ⟨h.1.below' hb, h.2.below' hb⟩
theorem ml : (9223372036854775807 : Nat) = 9223372036854775807 := rfl
theorem le_ml {n c : Nat} (h : n ≤ c) (hm : c ≤ maxLen) : n ≤ 9223372036854775807 := by unfold maxLen at hm; omega
set_option maxHeartbeats 1000000 in
theorem bx_within (r s : Bx) (w : World) : Calls Try.prog 15 #[r.v, s.v] w fun e w' => e = .returned (.bool (r.within s)) ∧ Below w.heap.size w w' := by
  have HE : Hid (decide (r.cut [s] = r.nrm) = r.within s) := rfl
  obtain ⟨y, hy⟩ : ∃ y, r.within s = y := ⟨_, rfl⟩
  obtain ⟨⟨pa, pb, pc, pd⟩, hp⟩ : ∃ p, r.cut [s] = p := ⟨_, rfl⟩
  obtain ⟨⟨na, nb, nc, nd⟩, hn⟩ : ∃ n, r.nrm = n := ⟨_, rfl⟩
  rw [hp, hn, hy] at HE
  rw [hy]
  clear hy
  obtain ⟨ra, rb, rc, rd⟩ := r
  obtain ⟨sa, sb, sc, sd⟩ := s
  unfold Bx.v
  simp only
  have HP := Lib.hid hp
  have HN := Lib.hid hn
  clear hp hn
  go_enter Try.func15, Try.ntmps15
  go_wp2_with (fail)
  have HB : Hid (Below w.heap.size w ((w.alloc (.cells #[.int .i64 ra, .int .i64 rb, .int .i64 rc, .int .i64 rd] 23)).alloc (.cells #[.int .i64 sa, .int .i64 sb, .int .i64 sc, .int .i64 sd] 23))) := ((Below.refl _ _).alloc (Nat.le_refl _) _).alloc (by simp) _
  have HJ0 : Hid (J2 w.heap.size (w.heap.size + 1) [.int .i64 ra, .int .i64 rb, .int .i64 rc, .int .i64 rd] [.int .i64 sa, .int .i64 sb, .int .i64 sc, .int .i64 sd] ((w.alloc (.cells #[.int .i64 ra, .int .i64 rb, .int .i64 rc, .int .i64 rd] 23)).alloc (.cells #[.int .i64 sa, .int .i64 sb, .int .i64 sc, .int .i64 sd] 23))) := ⟨(blk_new w [.int .i64 ra, .int .i64 rb, .int .i64 rc, .int .i64 rd] _).alloc _, blk_at (w.alloc _) _ (by simp) [.int .i64 sa, .int .i64 sb, .int .i64 sc, .int .i64 sd] _⟩
  generalize ((w.alloc (.cells #[.int .i64 ra, .int .i64 rb, .int .i64 rc, .int .i64 rd] 23)).alloc (.cells #[.int .i64 sa, .int .i64 sb, .int .i64 sc, .int .i64 sd] 23)) = wz at *
  refine regs.wp_region_put (regs.bl) (fun _ wx => J2 w.heap.size (w.heap.size + 1) [.int .i64 ra, .int .i64 rb, .int .i64 rc, .int .i64 rd] [.int .i64 sa, .int .i64 sb, .int .i64 sc, .int .i64 sd] wx) [5, 6, 7, 8, 9, 10, 11, 4] (by kernel_rfl) (by kernel_rfl) (fun _ => regs.bl_refl _) (regs.bl_trans) (fun i => (match i with
    | 0 => regs.Say.val _ (.agg #[.int .i64 ra, .int .i64 rb, .int .i64 rc, .int .i64 rd])
    | 1 => regs.Say.val _ (.agg #[.int .i64 sa, .int .i64 sb, .int .i64 sc, .int .i64 sd])
    | 2 => sayB [(⟨sa, sb, sc, sd⟩ : Bx)]
    | 3 => regs.Say.val _ (.agg #[.int .i64 pa, .int .i64 pb, .int .i64 pc, .int .i64 pd])
    | 4 => regs.Say.val _ (.agg #[.int .i64 ra, .int .i64 rb, .int .i64 rc, .int .i64 rd])
    | 5 => regs.Say.val _ (.agg #[.int .i64 na, .int .i64 nb, .int .i64 nc, .int .i64 nd])
    | 6 => regs.Say.val _ (.bool y)
    | 7 => regs.Say.val _ (.bool y)
    | _ => regs.Say.any _ : regs.Say (regs.bl)).p) (fun _ => regs.Say.mono _) (by kernel_rfl) ((Below.refl _ _).drew) (HJ0.out) ⟨?_, ?_, ?_, ?_, ?_, ?_, ?_, ?_, trivial⟩ ?_
  · refine regs.StepOK.plain rfl fun L a w1 hh => ?_
    have h2 : a.tmps[2]?.getD undef = .pointer (some ⟨w.heap.size, 0, none⟩) := by rw [← Array.getD_eq_getD_getElem?]; exact hh.old 2 rfl
    obtain ⟨⟨c0, c1, c2, c3⟩, -, -⟩ := (hh.st.1).c4
    have hJ := Lib.hid hh.st
    clear hh
    go_simp
    exact ⟨_, rfl, regs.bl_refl _, rfl, hJ.out⟩
  · refine regs.StepOK.plain rfl fun L a w1 hh => ?_
    have h3 : a.tmps[3]?.getD undef = .pointer (some ⟨(w.heap.size + 1), 0, none⟩) := by rw [← Array.getD_eq_getD_getElem?]; exact hh.old 3 rfl
    obtain ⟨⟨c0, c1, c2, c3⟩, -, -⟩ := (hh.st.2).c4
    have hJ := Lib.hid hh.st
    clear hh
    go_simp
    exact ⟨_, rfl, regs.bl_refl _, rfl, hJ.out⟩
  · refine regs.StepOK.plain rfl fun L a w1 hh => ?_
    have h6 : a.tmps[6]?.getD undef = .agg #[.int .i64 sa, .int .i64 sb, .int .i64 sc, .int .i64 sd] := by rw [← Array.getD_eq_getD_getElem?]; exact hh.dep 1 6 (by kernel_rfl) (by kernel_rfl)
    have hJ := Lib.hid hh.st
    clear hh
    go_simp
    exact ⟨_, rfl, (Below.refl _ _).alloc (Nat.le_refl _) _, ⟨_, _, rfl, brow_new w1 [(⟨sa, sb, sc, sd⟩ : Bx)] rfl, Nat.le_refl _, by simp [maxLen]⟩, J2.below hJ.out ((Below.refl _ _).alloc (Nat.le_refl _) _)⟩
  · refine regs.StepOK.plain rfl fun L a w1 hh => ?_
    have h5 : a.tmps[5]?.getD undef = .agg #[.int .i64 ra, .int .i64 rb, .int .i64 rc, .int .i64 rd] := by rw [← Array.getD_eq_getD_getElem?]; exact hh.dep 0 5 (by kernel_rfl) (by kernel_rfl)
    obtain ⟨A7, c7, h7, hrow7, hc7, hm7⟩ : ∃ A c, a.tmps[7]?.getD undef = .slice A 1 c ∧ BRow w1 A [(⟨sa, sb, sc, sd⟩ : Bx)] ∧ 1 ≤ c ∧ c ≤ maxLen := by rw [← Array.getD_eq_getD_getElem?]; exact hh.dep 2 7 (by kernel_rfl) (by kernel_rfl)
    have hJ := Lib.hid hh.st
    clear hh
    go_simp
    refine (bx_cut (⟨ra, rb, rc, rd⟩ : Bx) A7 [(⟨sa, sb, sc, sd⟩ : Bx)] c7 w1 hrow7 (by simp)).mono ?_
    rintro e w9 ⟨rfl, hb9⟩
    exact ⟨_, rfl, hb9, congrArg Bx.v (HP.out), J2.below hJ.out hb9⟩
  · refine regs.StepOK.plain rfl fun L a w1 hh => ?_
    have h2 : a.tmps[2]?.getD undef = .pointer (some ⟨w.heap.size, 0, none⟩) := by rw [← Array.getD_eq_getD_getElem?]; exact hh.old 2 rfl
    obtain ⟨⟨c0, c1, c2, c3⟩, -, -⟩ := (hh.st.1).c4
    have hJ := Lib.hid hh.st
    clear hh
    go_simp
    exact ⟨_, rfl, regs.bl_refl _, rfl, hJ.out⟩
  · refine regs.StepOK.plain rfl fun L a w1 hh => ?_
    have h9 : a.tmps[9]?.getD undef = .agg #[.int .i64 ra, .int .i64 rb, .int .i64 rc, .int .i64 rd] := by rw [← Array.getD_eq_getD_getElem?]; exact hh.dep 4 9 (by kernel_rfl) (by kernel_rfl)
    have := True.intro
    have hJ := Lib.hid hh.st
    clear hh
    go_simp
    refine (bx_normal (⟨ra, rb, rc, rd⟩ : Bx) w1).mono ?_
    rintro e w9 ⟨rfl, hb9⟩
    exact ⟨_, rfl, hb9, congrArg Bx.v (HN.out), J2.below hJ.out hb9⟩
  · refine regs.StepOK.plain rfl fun L a w1 hh => ?_
    have h8 : a.tmps[8]?.getD undef = .agg #[.int .i64 pa, .int .i64 pb, .int .i64 pc, .int .i64 pd] := by rw [← Array.getD_eq_getD_getElem?]; exact hh.dep 3 8 (by kernel_rfl) (by kernel_rfl)
    have h10 : a.tmps[10]?.getD undef = .agg #[.int .i64 na, .int .i64 nb, .int .i64 nc, .int .i64 nd] := by rw [← Array.getD_eq_getD_getElem?]; exact hh.dep 5 10 (by kernel_rfl) (by kernel_rfl)
    have eqst := fun w => bx_eq (⟨pa, pb, pc, pd⟩ : Bx) (⟨na, nb, nc, nd⟩ : Bx) w
    rw [show decide ((⟨pa, pb, pc, pd⟩ : Bx) = (⟨na, nb, nc, nd⟩ : Bx)) = y from HE.out] at eqst
    unfold Bx.v at eqst
    simp only at eqst
    have hJ := Lib.hid hh.st
    clear hh
    go_simp
    exact ⟨_, rfl, regs.bl_refl _, rfl, hJ.out⟩
  · refine regs.StepOK.plain rfl fun L a w1 hh => ?_
    have h11 : a.tmps[11]?.getD undef = .bool y := by rw [← Array.getD_eq_getD_getElem?]; exact hh.dep 6 11 (by kernel_rfl) (by kernel_rfl)
    have hJ := Lib.hid hh.st
    clear hh
    go_simp
    exact ⟨_, rfl, regs.bl_refl _, rfl, hJ.out⟩
  intro L w5 val hL hJ hR hv
  have h11 : val 11 = .bool y := hv 6 11 (by kernel_rfl)
  have h4 : val 4 = .bool y := hv 7 4 (by kernel_rfl)
  have HJ5 := Lib.hid hJ
  have HR5 := Lib.hid hR
  clear hv hL hJ hR
  simp only [regs.putAll, List.map_cons, List.map_nil]
  rw [h11, h4]
  generalize val 5 = v5
  generalize val 6 = v6
  generalize val 7 = v7
  generalize val 8 = v8
  generalize val 9 = v9
  generalize val 10 = v10
  simp only [Act.put, List.setIfInBounds_toArray, List.set_cons_zero, List.set_cons_succ]
  clear h11 h4
  go_wp2_with (fail)
  go_ret
  exact ⟨rfl, (HB.out.trans (HR5.out.mono HB.out.size))⟩
/-! ### Area -/
/-- numbers of which something is promised -/
def Bx.rt (r : Bx) : Bool := decide ((-1073741824 ≤ r.a ∧ r.a ≤ 1073741824) ∧ (-1073741824 ≤ r.b ∧ r.b ≤ 1073741824) ∧ (-1073741824 ≤ r.c ∧ r.c ≤ 1073741824) ∧ (-1073741824 ≤ r.d ∧ r.d ≤ 1073741824))
theorem Bx.rt_of {r : Bx} (h : r.rt = true) : (-1073741824 ≤ r.a ∧ r.a ≤ 1073741824) ∧ (-1073741824 ≤ r.b ∧ r.b ≤ 1073741824) ∧ (-1073741824 ≤ r.c ∧ r.c ≤ 1073741824) ∧ (-1073741824 ≤ r.d ∧ r.d ≤ 1073741824) := of_decide_eq_true h
theorem Bx.emp_no {r : Bx} (h : r.emp = false) : r.a < r.c ∧ r.b < r.d := by
  unfold Bx.emp at h
  rw [Bool.or_eq_false_iff, decide_eq_false_iff_not, decide_eq_false_iff_not] at h
  omega
theorem Bx.emp_yes {r : Bx} (h : r.emp = true) : r.c ≤ r.a ∨ r.d ≤ r.b := by
  unfold Bx.emp at h
  rw [Bool.or_eq_true, decide_eq_true_eq, decide_eq_true_eq] at h
  exact h
theorem Bx.nrm_cases (r : Bx) : (r.emp = true ∧ r.nrm = Bx.o) ∨ (r.emp = false ∧ r.nrm = r) := by
  cases h : r.emp with
  | true => exact .inl ⟨rfl, by unfold Bx.nrm; rw [if_pos h]⟩
  | false => exact .inr ⟨rfl, by unfold Bx.nrm; rw [if_neg (by rw [h]; decide)]⟩
def Bx.area (r : Bx) : Int := (r.nrm.c - r.nrm.a) * (r.nrm.d - r.nrm.b)
theorem Bx.sides {r : Bx} (h : r.rt = true) : (0 ≤ r.nrm.c - r.nrm.a ∧ r.nrm.c - r.nrm.a ≤ 2147483648) ∧ (0 ≤ r.nrm.d - r.nrm.b ∧ r.nrm.d - r.nrm.b ≤ 2147483648) := by
  obtain ⟨⟨a1, a2⟩, ⟨b1, b2⟩, ⟨c1, c2⟩, d1, d2⟩ := Bx.rt_of h
  rcases r.nrm_cases with ⟨_, e⟩ | ⟨h2, e⟩
  · rw [e]; decide
  · rw [e]
    have := Bx.emp_no h2
    omega
theorem mul_bd {x y : Int} (h1 : 0 ≤ x) (h2 : x ≤ 2147483648) (h3 : 0 ≤ y) (h4 : y ≤ 2147483648) : 0 ≤ x * y ∧ x * y ≤ 4611686018427387904 := by
  have g1 : 0 ≤ x * y := Int.mul_nonneg h1 h3
  have g2 : 0 ≤ (2147483648 - x) * y := Int.mul_nonneg (by omega) h3
  rw [Int.sub_mul] at g2
  omega
set_option maxHeartbeats 1000000 in
theorem bx_area (r : Bx) (w : World) (h : r.rt = true) : Calls Try.prog 17 #[r.v] w fun e w' => e = .returned (.int .i64 r.area) ∧ Below w.heap.size w w' := by
  obtain ⟨⟨s1, s2⟩, s3, s4⟩ := Bx.sides h
  have HE := Lib.hid (fun w => bx_normal r w)
  obtain ⟨m1, m2⟩ := mul_bd s1 s2 s3 s4
  have HA : Hid (r.area = (r.nrm.c - r.nrm.a) * (r.nrm.d - r.nrm.b)) := rfl
  rw [HA.out]
  clear HA h
  generalize r.nrm = n at *
  obtain ⟨na, nb, nc, nd⟩ := n
  obtain ⟨ra, rb, rc, rd⟩ := r
  unfold Bx.v at HE ⊢
  simp only at HE s1 s2 s3 s4 m1 m2 ⊢
  have q1 : wrap64 (nc - na) = nc - na := IntWalk.wrap64_in _ (by omega)
  have q2 : wrap64 (nd - nb) = nd - nb := IntWalk.wrap64_in _ (by omega)
  have q3 : wrap64 ((nc - na) * (nd - nb)) = (nc - na) * (nd - nb) := IntWalk.wrap64_in _ (by omega)
  clear s1 s2 s3 s4 m1 m2
  go_enter Try.func17, Try.ntmps17
  go_wp2_with (fail)
  refine (HE.out _).mono ?_
  rintro e w' ⟨rfl, hb⟩
  have hB : Hid (Below w.heap.size w w') := ((Below.refl _ _).alloc (Nat.le_refl _) _).trans (hb.mono (by simp; try omega))
  have hR : Hid (Blk w' w.heap.size [.int .i64 ra, .int .i64 rb, .int .i64 rc, .int .i64 rd]) := (blk_at w _ rfl [.int .i64 ra, .int .i64 rb, .int .i64 rc, .int .i64 rd] _).below hb (by simp)
  clear hb
  obtain ⟨⟨c0, c1, c2, c3⟩, ⟨f0, f1, f2, f3⟩, hin⟩ := hR.out.c4
  go_wp2_with (fail)
  go_ret
  exact ⟨ret_num q3, below4 hB.out (Nat.le_refl _) _ _ _ _⟩
/-! ### Grow -/
def Bx.grow (r : Bx) (n : Int) : Bx := if r.emp = true then Bx.o else Bx.nrm ⟨r.a - n, r.b - n, r.c + n, r.d + n⟩
def Bx.wide (r : Bx) : Bool := decide ((-1099511627776 ≤ r.a ∧ r.a ≤ 1099511627776) ∧ (-1099511627776 ≤ r.b ∧ r.b ≤ 1099511627776) ∧ (-1099511627776 ≤ r.c ∧ r.c ≤ 1099511627776) ∧ (-1099511627776 ≤ r.d ∧ r.d ≤ 1099511627776))
set_option maxHeartbeats 1000000 in
theorem bx_grow (r : Bx) (n : Int) (w : World) (h : r.wide = true ∧ (-1099511627776 ≤ n ∧ n ≤ 1099511627776)) : Calls Try.prog 19 #[r.v, .int .i64 n] w fun e w' => e = .returned (r.grow n).v ∧ Below w.heap.size w w' := by
  obtain ⟨h, n1, n2⟩ := h
  obtain ⟨⟨a1, a2⟩, ⟨b1, b2⟩, ⟨c1, c2⟩, d1, d2⟩ := of_decide_eq_true h
  have HE := Lib.hid (fun w => bx_empty r w)
  have HG : Hid (r.grow n = if r.emp = true then Bx.o else Bx.nrm ⟨r.a - n, r.b - n, r.c + n, r.d + n⟩) := rfl
  generalize r.emp = y at *
  have HO := Lib.hid (fun w => bx_of ⟨r.a - n, r.b - n, r.c + n, r.d + n⟩ w)
  obtain ⟨⟨ga, gb, gc, gd⟩, hg⟩ : ∃ g, r.grow n = g := ⟨_, rfl⟩
  rw [hg] at HG ⊢
  generalize Bx.nrm ⟨r.a - n, r.b - n, r.c + n, r.d + n⟩ = m at *
  obtain ⟨ma, mb, mc, md⟩ := m
  clear hg h
  obtain ⟨ra, rb, rc, rd⟩ := r
  unfold Bx.v at HE HO ⊢
  simp only at HE HO a1 a2 b1 b2 c1 c2 d1 d2 ⊢
  have q1 : wrap64 (ra - n) = ra - n := IntWalk.wrap64_in _ (by omega)
  have q2 : wrap64 (rb - n) = rb - n := IntWalk.wrap64_in _ (by omega)
  have q3 : wrap64 (rc + n) = rc + n := IntWalk.wrap64_in _ (by omega)
  have q4 : wrap64 (rd + n) = rd + n := IntWalk.wrap64_in _ (by omega)
  clear a1 a2 b1 b2 d1 d2 n1 n2
  clear c1 c2
  go_enter Try.func19, Try.ntmps19
  go_wp2_with (fail)
  refine (HE.out _).mono ?_
  rintro e w' ⟨rfl, hb⟩
  have hB : Hid (Below w.heap.size w w') := (((Below.refl _ _).alloc (Nat.le_refl _) _).alloc (by simp) _).trans (hb.mono (by simp; try omega))
  have hR : Hid (Blk w' (w.heap.size + 1) [.int .i64 0, .int .i64 0, .int .i64 0, .int .i64 0]) := (blk_at (w.alloc _) _ (by simp) [.int .i64 0, .int .i64 0, .int .i64 0, .int .i64 0] _).below hb (by simp)
  have hA : Hid (Blk w' w.heap.size [.int .i64 ra, .int .i64 rb, .int .i64 rc, .int .i64 rd]) := ((blk_new w [.int .i64 ra, .int .i64 rb, .int .i64 rc, .int .i64 rd] _).alloc _).below hb (by simp; omega)
  clear hb
  cases y with
  | true =>
    rw [if_pos rfl] at HG
    obtain ⟨⟨c0, c1, c2, c3⟩, ⟨f0, f1, f2, f3⟩, -⟩ := hR.out.c4
    go_wp2_with (fail)
    exact blk_ret rfl rfl (hR.out.put4 _ _ _ _) Try.underlying23 rfl (by kernel_rfl) ⟨by injection HG.out with h0 h1 h2 h3; rw [h0, h1, h2, h3], below4 hB.out (by omega) _ _ _ _⟩
  | false =>
    rw [if_neg (by decide)] at HG
    obtain ⟨⟨d0, d1, d2, d3⟩, -, hin⟩ := hA.out.c4
    go_wp2_with (fail)
    refine (HO.out _).mono ?_
    rintro e w2 ⟨rfl, hb⟩
    have hB2 : Hid (Below w.heap.size w w2) := hB.out.trans (hb.mono hB.out.size)
    have hR2 : Hid (Blk w2 (w.heap.size + 1) [.int .i64 0, .int .i64 0, .int .i64 0, .int .i64 0]) := hR.out.below' hb
    clear hb d0 d1 d2 d3 hin hR
    obtain ⟨⟨c0, c1, c2, c3⟩, ⟨f0, f1, f2, f3⟩, -⟩ := hR2.out.c4
    go_wp2_with (fail)
    exact blk_ret rfl rfl (hR2.out.put4 _ _ _ _) Try.underlying23 rfl (by kernel_rfl) ⟨by injection HG.out with h0 h1 h2 h3; rw [h0, h1, h2, h3], below4 hB2.out (by omega) _ _ _ _⟩
end Go.Proofs.Ytjnhjhbhodhfgaa
