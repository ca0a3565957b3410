/-
  Layer 8: the document's own way back: the walk.
-/
import Derived.Test.YtmbfkaodoankaaaAfH
namespace Go.Proofs.Ytmbfkaodoankaaa
open Go.RowKit

/-- what stands in a row when k numbers of Z are written; behind them t -/
def outz (Z : List Int) (t : List Value) (k : Nat) : List Value := (Z.take k).map eI ++ (List.replicate (Z.length - k) (eI 0) ++ t)
theorem outz_step (Z : List Int) (t : List Value) {k : Nat} (hk : k < Z.length) : (outz Z t k).set k (eI Z[k]) = outz Z t (k + 1) := by
  unfold outz
  have e : Z.length - k = (Z.length - (k + 1)) + 1 := by omega
  rw [List.take_succ_eq_append_getElem hk, List.map_append, e, List.replicate_succ, List.set_append, if_neg (by simp [Nat.min_eq_left (Nat.le_of_lt hk)])]
  simp [Nat.min_eq_left (Nat.le_of_lt hk)]
theorem outz_at (Z : List Int) (t : List Value) {k : Nat} (hk : k < Z.length) : (outz Z t k)[k]? = some (.int .i64 0) := by
  unfold outz
  rw [List.getElem?_append_right (by simp [Nat.min_eq_left (Nat.le_of_lt hk)]), List.getElem?_append_left (by simp [Nat.min_eq_left (Nat.le_of_lt hk)]; omega)]
  simp only [List.length_map, List.length_take, Nat.min_eq_left (Nat.le_of_lt hk), Nat.sub_self, List.getElem?_replicate]
  rw [if_pos (by omega)]
  rfl
theorem outz_at2 (Z : List Int) (t : List Value) {k : Nat} (hk : k < Z.length) : (outz Z t (k + 1))[k]? = some (.int .i64 Z[k]) := by
  unfold outz
  rw [List.getElem?_append_left (by simp; omega), List.getElem?_map, List.getElem?_take_of_lt (Nat.lt_succ_self _), List.getElem?_eq_getElem hk]
  rfl
def Mp.l4b (m : Mp) : List Int := [m.d, -m.b, -m.c, m.a]
theorem bk_l4 (m : Mp) : m.bk.l4 = m.l4b.map fun x => ovr x m.det := rfl
set_option maxRecDepth 100000 in
set_option maxHeartbeats 4000000 in
theorem mp_inv (m : Mp) (w : World) (hr : m.right = true) : Calls Try.prog 17 #[m.v] w fun e w' => e = .returned (.tuple #[m.back.1.v, .int .i64 m.back.2]) ∧ Below w.heap.size w w' := by
  have HBK2 : Hid (m.back = if m.det = 0 then (Mp.o, 43) else if allR m.bk.l4 = true then (m.bk, 0) else (Mp.o, 35)) := by
    show _ = _
    unfold Mp.back
    rw [if_neg (by rw [hr]; decide)]
  obtain ⟨ra, rb, rc, rd, re, rf⟩ := right_bd hr
  obtain ⟨R, hR⟩ : ∃ R, m.back = R := ⟨_, rfl⟩
  rw [hR] at HBK2 ⊢
  clear hR hr
  obtain ⟨RM, RE⟩ := R
  have HDET : Hid (m.det = m.a * m.d - m.b * m.c) := rfl
  obtain ⟨Z, hZ⟩ : ∃ Z, m.bk.l4 = Z := ⟨_, rfl⟩
  obtain ⟨L4, hL4⟩ : ∃ L, m.l4b = L := ⟨_, rfl⟩
  have HLZ : Hid (L4.length = 4 ∧ Z.length = 4) := by rw [← hZ, ← hL4]; exact ⟨rfl, rfl⟩
  have HZ4 : Hid (∀ k (h : k < Z.length) (h' : k < L4.length), Z[k] = ovr L4[k] m.det) := by
    intro k h h'
    subst hZ
    subst hL4
    simp [bk_l4]
  have HL4B : Hid (∀ x ∈ L4, -1073741824 ≤ x ∧ x ≤ 1073741824) := by
    intro x hx
    rw [← hL4] at hx
    simp only [Mp.l4b, List.mem_cons, List.not_mem_nil, or_false] at hx
    rcases hx with rfl | rfl | rfl | rfl <;> omega
  have HOUT4 : Hid (outz Z [.int .i64 m.e, .int .i64 m.f] 4 = m.bk.cs) := by rw [← hZ]; rfl
  have HOUT0 : Hid (outz Z [.int .i64 m.e, .int .i64 m.f] 0 = [.int .i64 0, .int .i64 0, .int .i64 0, .int .i64 0, .int .i64 m.e, .int .i64 m.f]) := by rw [← hZ]; rfl
  have HLL : Hid (L4.map eI = [.int .i64 m.d, .int .i64 (-m.b), .int .i64 (-m.c), .int .i64 m.a]) := by rw [← hL4]; rfl
  rw [hZ] at HBK2
  clear hZ hL4
  generalize m.det = D at *
  generalize m.bk = K at *
  obtain ⟨ka, kb, kc, kd, ke, kf⟩ := m
  unfold Mp.v
  simp only at ra rb rc rd re rf HDET HOUT4 HOUT0 HLL ⊢
  have hdet := HDET.out
  obtain ⟨x1, x2⟩ := prod_bd ra.1 ra.2 rd.1 rd.2
  obtain ⟨y1, y2⟩ := prod_bd rb.1 rb.2 rc.1 rc.2
  obtain ⟨X, hX⟩ : ∃ X, ka * kd = X := ⟨_, rfl⟩
  obtain ⟨Y, hY⟩ : ∃ Y, kb * kc = Y := ⟨_, rfl⟩
  rw [hX, hY] at hdet
  rw [hX] at x1 x2
  rw [hY] at y1 y2
  have q3 : X - Y = D := hdet.symm
  have HDB : Hid (-2305843009213693952 ≤ D ∧ D ≤ 2305843009213693952) := by rw [hdet]; show _ ∧ _; omega
  obtain ⟨d1, d2⟩ := HDB.out
  obtain ⟨rb1, rb2⟩ := rb
  obtain ⟨rc1, rc2⟩ := rc
  obtain ⟨NB, hNB⟩ : ∃ x, -kb = x := ⟨_, rfl⟩
  obtain ⟨NC, hNC⟩ : ∃ x, -kc = x := ⟨_, rfl⟩
  rw [hNB, hNC] at HLL
  have nb1 : -1073741824 ≤ NB ∧ NB ≤ 1073741824 := by omega
  have nc1 : -1073741824 ≤ NC ∧ NC ≤ 1073741824 := by omega
  obtain ⟨nb1, nb2⟩ := nb1
  obtain ⟨nc1, nc2⟩ := nc1
  clear hdet HDET ra rd re rf
  by_cases hD : D = 0
  · have t : (D == 0) = true := by simpa using hD
    have hT := HBK2.out.trans (if_pos hD)
    injection hT with h1 h2
    subst h1; subst h2
    clear hD HBK2 HDB HLZ HZ4 HL4B HOUT4 HOUT0 HLL
    go_enter Try.func17, Try.ntmps17
    go_wp2_with (fail)
    exact blk_ret2 rfl rfl rfl (blk_at (w.alloc _) _ (by simp) Mp.o.cs _) Try.underlying48 rfl (by kernel_rfl) ⟨rfl, ((Below.refl _ _).alloc (Nat.le_refl _) _).alloc (by simp) _⟩
  · have t : (D == 0) = false := by simpa using hD
    have HBK3 := Lib.hid (HBK2.out.trans (if_neg hD))
    have HD0 := Lib.hid hD
    clear hD HBK2
    go_enter Try.func17, Try.ntmps17
    go_wp2_with (fail)
    go_loopw [7] (fun i wr => ∃ k : Nat, k ≤ 4 ∧ i = .int .i64 k ∧ Hid (allR (Z.take k) = true) ∧ Hid (Below w.heap.size w wr) ∧ Hid (Blk wr w.heap.size [.int .i64 ka, .int .i64 kb, .int .i64 kc, .int .i64 kd, .int .i64 ke, .int .i64 kf]) ∧ Hid (Blk wr (w.heap.size + 1) Mp.o.cs) ∧ Hid (Blk wr (w.heap.size + 1 + 1) (L4.map eI)) ∧ Hid (Blk wr (w.heap.size + 1 + 1 + 1) (outz Z [.int .i64 ke, .int .i64 kf] k))) (fun i _ => 4 - (intOf i).toNat)
    case atStart =>
      refine ⟨0, Nat.zero_le _, rfl, by simp [Hid, allR], ?_, ?_, ?_, ?_, ?_⟩
      · show Below _ _ _
        refine Below.alloc (Below.alloc (Below.alloc ((Below.refl _ _).alloc (Nat.le_refl _) _) ?_ _) ?_ _) ?_ _
        all_goals simp only [World.size_alloc]
        all_goals omega
      · exact (((blk_new w [.int .i64 ka, .int .i64 kb, .int .i64 kc, .int .i64 kd, .int .i64 ke, .int .i64 kf] _).alloc _).alloc _).alloc _
      · exact ((blk_at (w.alloc _) _ (by simp) Mp.o.cs _).alloc _).alloc _
      · rw [HLL.out]
        exact (blk_at _ _ (by simp) [.int .i64 kd, .int .i64 NB, .int .i64 NC, .int .i64 ka] _).alloc _
      · rw [HOUT0.out]
        exact blk_at _ _ (by simp) [.int .i64 0, .int .i64 0, .int .i64 0, .int .i64 0, .int .i64 ke, .int .i64 kf] _
    case round =>
      obtain ⟨k, hk, rfl, HK, HB, HM, HR, HL, HN⟩ := hrel
      clear hX hY q3 x1 x2 y1 y2 hNB hNC rb1 rb2 rc1 rc2 nb1 nb2 nc1 nc2 HOUT0 HLL
      by_cases hlt : k < 4
      · have hkl : k < L4.length := by rw [HLZ.out.1]; exact hlt
        have hkz : k < Z.length := by rw [HLZ.out.2]; exact hlt
        have hc := HL.out.at6 hkl
        have H1 := Lib.hid (allR_snoc HK.out hkz)
        have H0 := Lib.hid (allR_bad (l := Z) hkz)
        have HS := Lib.hid (outz_step Z [.int .i64 ke, .int .i64 kf] hkz)
        have HAT2 := Lib.hid (outz_at2 Z [.int .i64 ke, .int .i64 kf] hkz)
        have hz0 := (HN.out.cell k).trans (outz_at Z [.int .i64 ke, .int .i64 kf] hkz)
        have hzf := HN.out.free k
        obtain ⟨b1, b2⟩ := HL4B.out _ (List.getElem_mem hkl)
        rw [HZ4.out k hkz hkl] at H1 H0 HS HAT2
        generalize L4[k] = x at *
        obtain ⟨N, hN⟩ : ∃ N, x * 4294967296 = N := ⟨_, rfl⟩
        have n1 : -4611686018427387904 ≤ N ∧ N ≤ 4611686018427387904 := by omega
        obtain ⟨n1, n2⟩ := n1
        have hl4 := HL.out.inside
        have hn6 := HN.out.inside
        clear HK hkl hkz
        by_cases hneg : D < 0
        · clear t
          have t2 : decide (D < 0) = true := by simpa using hneg
          have HZ : Hid (ovr x D = rnd (-N) (-D)) := by
            show _ = _
            unfold ovr
            rw [if_pos hneg, show -x * 4294967296 = -N by omega]
          have hd0 : D ≠ 0 := HD0.out
          have HRD := Lib.hid (fun w => dround_any (-N) (-D) w (by omega) (by omega) (by omega) (by omega))
          rw [← HZ.out] at HRD
          obtain ⟨NN, hNN⟩ : ∃ x, -N = x := ⟨_, rfl⟩
          obtain ⟨DD, hDD⟩ : ∃ x, -D = x := ⟨_, rfl⟩
          rw [hNN, hDD] at HRD
          have n3 : -4611686018427387904 ≤ NN ∧ NN ≤ 4611686018427387904 := by omega
          have n4 : -2305843009213693952 ≤ DD ∧ DD ≤ 2305843009213693952 := by omega
          obtain ⟨n3, n5⟩ := n3
          obtain ⟨n4, n6⟩ := n4
          clear hneg HZ hd0
          generalize ovr x D = z at *
          go_wp2_with (fail)
          refine (HRD.out _).mono ?_
          rintro e2 w2 ⟨rfl, rfl⟩
          have bn : Hid (Blk (wr.setCell ⟨w.heap.size + 1 + 1 + 1, k, none⟩ (.int .i64 z)) (w.heap.size + 1 + 1 + 1) (outz Z [.int .i64 ke, .int .i64 kf] (k + 1))) := by
            show Blk _ _ _
            rw [← HS.out]
            exact HN.out.set k _
          have c0 : (wr.setCell ⟨w.heap.size + 1 + 1 + 1, k, none⟩ (.int .i64 z)).cell? ⟨w.heap.size + 1 + 1 + 1, k, none⟩ = some (.int .i64 z) := (bn.out.cell k).trans HAT2.out
          have hB2 := Lib.hid (below_set (i := k) (v := .int .i64 z) HB.out (show w.heap.size ≤ w.heap.size + 1 + 1 + 1 by omega))
          have hm2 := Lib.hid (HM.out.other (show w.heap.size ≠ w.heap.size + 1 + 1 + 1 by omega) k (.int .i64 z))
          have hr2 := Lib.hid (HR.out.other (show w.heap.size + 1 ≠ w.heap.size + 1 + 1 + 1 by omega) k (.int .i64 z))
          have hl2 := Lib.hid (HL.out.other (show w.heap.size + 1 + 1 ≠ w.heap.size + 1 + 1 + 1 by omega) k (.int .i64 z))
          clear HRD HD0
          go_wp2_with (fail)
          generalize wr.setCell ⟨w.heap.size + 1 + 1 + 1, k, none⟩ (.int .i64 z) = wx at *
          refine (dright_any z wx).mono ?_
          cases hx : rightB z with
          | true =>
            rw [hx] at H1
            have HB2 := Lib.hid (H1.out rfl)
            clear H1 H0 hx c0 hc hz0 hzf
            rintro e3 w3 ⟨rfl, rfl⟩
            go_wp2_with (fail)
            go_roundw
            case rel => exact ⟨k + 1, by omega, by go_num, HB2, hB2, hm2, hr2, hl2, bn⟩
            case measure => simp [intOf]; omega
          | false =>
            rw [hx] at H0
            have hT := HBK3.out.trans (if_neg (by rw [H0.out rfl]; decide))
            injection hT with h1 h2
            subst h1; subst h2
            clear H1 H0 hx c0 hc hz0 hzf HBK3
            obtain ⟨⟨c0, c1, c2, c3, c4, c5⟩, ⟨f0, f1, f2, f3, f4, f5⟩, ri⟩ := Blk.c6 hr2.out
            rintro e3 w3 ⟨rfl, rfl⟩
            go_wp2_with (fail)
            exact blk_ret2 rfl rfl rfl (Blk.put6 hr2.out _ _ _ _ _ _) Try.underlying48 rfl (by kernel_rfl) ⟨rfl, below6 hB2.out (by omega) _ _ _ _ _ _⟩
        · clear t
          have t2 : decide (D < 0) = false := by simpa using hneg
          have HZ : Hid (ovr x D = rnd N D) := by
            show _ = _
            unfold ovr
            rw [if_neg hneg, hN]
          have hd0 : D ≠ 0 := HD0.out
          have HRD := Lib.hid (fun w => dround_any N D w (by omega) (by omega) (by omega) (by omega))
          rw [← HZ.out] at HRD
          clear hneg HZ hd0
          generalize ovr x D = z at *
          go_wp2_with (fail)
          refine (HRD.out _).mono ?_
          rintro e2 w2 ⟨rfl, rfl⟩
          have bn : Hid (Blk (wr.setCell ⟨w.heap.size + 1 + 1 + 1, k, none⟩ (.int .i64 z)) (w.heap.size + 1 + 1 + 1) (outz Z [.int .i64 ke, .int .i64 kf] (k + 1))) := by
            show Blk _ _ _
            rw [← HS.out]
            exact HN.out.set k _
          have c0 : (wr.setCell ⟨w.heap.size + 1 + 1 + 1, k, none⟩ (.int .i64 z)).cell? ⟨w.heap.size + 1 + 1 + 1, k, none⟩ = some (.int .i64 z) := (bn.out.cell k).trans HAT2.out
          have hB2 := Lib.hid (below_set (i := k) (v := .int .i64 z) HB.out (show w.heap.size ≤ w.heap.size + 1 + 1 + 1 by omega))
          have hm2 := Lib.hid (HM.out.other (show w.heap.size ≠ w.heap.size + 1 + 1 + 1 by omega) k (.int .i64 z))
          have hr2 := Lib.hid (HR.out.other (show w.heap.size + 1 ≠ w.heap.size + 1 + 1 + 1 by omega) k (.int .i64 z))
          have hl2 := Lib.hid (HL.out.other (show w.heap.size + 1 + 1 ≠ w.heap.size + 1 + 1 + 1 by omega) k (.int .i64 z))
          clear HRD HD0
          go_wp2_with (fail)
          generalize wr.setCell ⟨w.heap.size + 1 + 1 + 1, k, none⟩ (.int .i64 z) = wx at *
          refine (dright_any z wx).mono ?_
          cases hx : rightB z with
          | true =>
            rw [hx] at H1
            have HB2 := Lib.hid (H1.out rfl)
            clear H1 H0 hx c0 hc hz0 hzf
            rintro e3 w3 ⟨rfl, rfl⟩
            go_wp2_with (fail)
            go_roundw
            case rel => exact ⟨k + 1, by omega, by go_num, HB2, hB2, hm2, hr2, hl2, bn⟩
            case measure => simp [intOf]; omega
          | false =>
            rw [hx] at H0
            have hT := HBK3.out.trans (if_neg (by rw [H0.out rfl]; decide))
            injection hT with h1 h2
            subst h1; subst h2
            clear H1 H0 hx c0 hc hz0 hzf HBK3
            obtain ⟨⟨c0, c1, c2, c3, c4, c5⟩, ⟨f0, f1, f2, f3, f4, f5⟩, ri⟩ := Blk.c6 hr2.out
            rintro e3 w3 ⟨rfl, rfl⟩
            go_wp2_with (fail)
            exact blk_ret2 rfl rfl rfl (Blk.put6 hr2.out _ _ _ _ _ _) Try.underlying48 rfl (by kernel_rfl) ⟨rfl, below6 hB2.out (by omega) _ _ _ _ _ _⟩
      · have hk4 : k = Z.length := by rw [HLZ.out.2]; omega
        have HA : Hid (allR Z = true) := by
          have h := HK.out
          rw [hk4, List.take_length] at h
          exact h
        have hT := HBK3.out.trans (if_pos HA.out)
        injection hT with h1 h2
        subst h1; subst h2
        have bn : Hid (Blk wr (w.heap.size + 1 + 1 + 1) RM.cs) := by
          show Blk _ _ _
          rw [← HOUT4.out, ← HLZ.out.2, ← hk4]
          exact HN.out
        obtain rfl : k = 4 := by rw [hk4, HLZ.out.2]
        clear HBK3 HOUT4 HK HA HN hk4 HZ4 HL4B HLZ HDB
        obtain ⟨va, vb, vc, vd, ve, vf⟩ := RM
        obtain ⟨⟨c0, c1, c2, c3, c4, c5⟩, ⟨f0, f1, f2, f3, f4, f5⟩, ri⟩ := Blk.c6 HR.out
        obtain ⟨⟨e0, e1, e2, e3, e4, e5⟩, -, ei⟩ := Blk.c6 bn.out
        simp only at e0 e1 e2 e3 e4 e5
        go_wp2_with (fail)
        exact blk_ret2 rfl rfl rfl (Blk.put6 HR.out _ _ _ _ _ _) Try.underlying48 rfl (by kernel_rfl) ⟨rfl, below6 HB.out (by omega) _ _ _ _ _ _⟩
end Go.Proofs.Ytmbfkaodoankaaa
