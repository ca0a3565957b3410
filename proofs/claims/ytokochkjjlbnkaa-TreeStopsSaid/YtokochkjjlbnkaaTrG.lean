/-
  Layer 12: the document's Move, Remove; two lists compared.
-/
import Derived.Test.YtokochkjjlbnkaaTrF
namespace Go.Proofs.Ytokochkjjlbnkaa
open Go.RowKit trm

set_option maxRecDepth 100000 in
set_option maxHeartbeats 2000000 in
theorem dmove (tv : Value) (t : T) (i p n : Int) (w : World) (ok : Ok t) (hv : DTree w tv t) (hn : t.length ≤ 1000) :
    Calls Try.prog 36 #[tv, .int .i64 i, .int .i64 p, .int .i64 n] w (AddQ (movS t i p n) w) := by
  unfold AddQ
  obtain ⟨A, c, rfl, hr, hy⟩ := hv
  have HR := Lib.hid hr
  have HY := Lib.hid hy
  clear hy
  have HH := Lib.hid (fun i w hr => dhas A t c i w hr (by omega))
  have HWI := Lib.hid (fun w hr => dwithin A t c ok (by omega) i _ p w hr (Nat.le_refl _))
  have HDL := Lib.hid (fun w hr => dwithout A t c i w hr (by omega))
  have hdl := del_le t i
  have HK := Lib.hid (fun A c w hr => dkids A (del i t) c p w hr (by omega))
  have HW := Lib.hid (fun A c n w hr hn => dwith A (del i t) c i p n w hr (by omega) hn)
  have HKL : Hid ((kids (del i t) p).length ≤ 1000) := Nat.le_trans (kids_le _ p) (by omega)
  obtain ⟨R, hR⟩ : ∃ R, movS t i p n = R := ⟨_, rfl⟩
  have HQ := Lib.hid hR
  rw [hR]
  clear hr hn hR ok hdl
  unfold movS trm.move at HQ
  rw [← kids_del] at HQ
  generalize del i t = u at *
  by_cases h1 : i = 0
  · have t1 : (i == 0) = true := by simpa using h1
    have HQ2 := Lib.hid (HQ.out.symm.trans (if_pos h1))
    clear h1 HQ HH HK HW HKL HWI HDL
    go_enter Try.func36, Try.ntmps36
    go_wp2_with (fail)
    go_ret2
    rw [HQ2.out]
    exact ⟨_, rfl, ⟨_, _, rfl, HR.out, HY.out⟩, Below.refl _ _⟩
  have HQ1 := Lib.hid (HQ.out.symm.trans (if_neg h1))
  have t1 : (i == 0) = false := by simpa using h1
  clear h1 HQ
  have H1 := Lib.hid (HH.out i)
  have H2 := Lib.hid (HH.out p)
  clear HH
  generalize has t i = b1 at *
  generalize has t p = b2 at *
  generalize within t p i = b3 at *
  generalize kids u p = L at *
  go_enter Try.func36, Try.ntmps36
  go_wp2_with (fail)
  refine (H1.out _ HR.out).mono ?_
  rintro e w1 ⟨rfl, hb1⟩
  have HB1 := Lib.hid hb1
  clear hb1 t1 H1
  cases b1 with
  | false =>
    have HQ2 := Lib.hid (HQ1.out.trans (if_pos rfl))
    clear HQ1
    go_wp2_with (fail)
    go_ret2
    rw [HQ2.out]
    exact ⟨_, rfl, ⟨_, _, rfl, SRow.below HR.out HB1.out, HY.out.below HB1.out⟩, HB1.out⟩
  | true =>
    have HQ2 := Lib.hid (HQ1.out.trans (if_neg (by decide)))
    clear HQ1
    go_wp2_with (fail)
    refine (H2.out _ (SRow.below HR.out HB1.out)).mono ?_
    rintro e w2 ⟨rfl, hb2⟩
    have HB2 : Hid (Below w.heap.size w w2) := HB1.out.trans (hb2.mono HB1.out.size)
    clear hb2 HB1 H2
    cases b2 with
    | false =>
      have HQ3 := Lib.hid (HQ2.out.trans (if_pos rfl))
      clear HQ2
      go_wp2_with (fail)
      go_ret2
      rw [HQ3.out]
      exact ⟨_, rfl, ⟨_, _, rfl, SRow.below HR.out HB2.out, HY.out.below HB2.out⟩, HB2.out⟩
    | true =>
      have HQ3 := Lib.hid (HQ2.out.trans (if_neg (by decide)))
      clear HQ2
      by_cases h3 : p = i
      · have t3 : (p == i) = true := by simpa using h3
        have HQ4 := Lib.hid (HQ3.out.trans (if_pos (.inl h3)))
        clear h3 HQ3 HW HWI HDL HK
        go_wp2_with (fail)
        go_ret2
        rw [HQ4.out]
        exact ⟨_, rfl, ⟨_, _, rfl, SRow.below HR.out HB2.out, HY.out.below HB2.out⟩, HB2.out⟩
      have t3 : (p == i) = false := by simpa using h3
      have H3 := Lib.hid h3
      clear h3
      go_wp2_with (fail)
      refine (HWI.out _ (SRow.below HR.out HB2.out)).mono ?_
      rintro e w3 ⟨rfl, hb3⟩
      have HB3 : Hid (Below w.heap.size w w3) := HB2.out.trans (hb3.mono HB2.out.size)
      clear hb3 HB2 HWI t3
      cases b3 with
      | true =>
        have HQ4 := Lib.hid (HQ3.out.trans (if_pos (.inr rfl)))
        clear HQ3 HW HDL HK H3
        go_wp2_with (fail)
        go_ret2
        rw [HQ4.out]
        exact ⟨_, rfl, ⟨_, _, rfl, SRow.below HR.out HB3.out, HY.out.below HB3.out⟩, HB3.out⟩
      | false =>
        have HQ4 := Lib.hid (HQ3.out.trans (if_neg (by rintro (h | h); exact H3.out h; cases h)))
        clear HQ3 H3
        go_wp2_with (fail)
        refine (HDL.out _ (SRow.below HR.out HB3.out)).mono ?_
        rintro e w4 ⟨v, rfl, hown, hb4⟩
        have HB4 : Hid (Below w.heap.size w w4) := HB3.out.trans (hb4.mono HB3.out.size)
        obtain ⟨uA, uc, rfl, hur, -⟩ := DTree.of_own hown
        have HU := Lib.hid hur
        clear hb4 hown hur HDL HB3
        by_cases h5 : n < 0
        · have t5 : decide (n < 0) = true := decide_eq_true h5
          have HQ5 := Lib.hid (HQ4.out.trans (if_pos (.inl h5)))
          clear h5 HQ4 HW HK
          go_wp2_with (fail)
          go_ret2
          rw [HQ5.out]
          exact ⟨_, rfl, ⟨_, _, rfl, SRow.below HR.out HB4.out, HY.out.below HB4.out⟩, HB4.out⟩
        have t5 : decide (n < 0) = false := decide_eq_false h5
        obtain ⟨m, rfl⟩ : ∃ m : Nat, n = m := ⟨n.toNat, by omega⟩
        clear h5
        go_wp2_with (fail)
        refine (HK.out _ _ _ HU.out).mono ?_
        rintro e w5 ⟨v, rfl, hown, hb5⟩
        obtain ⟨vA, vc, rfl, _, _, hrow⟩ := hown.irow
        have HB5 : Hid (Below w.heap.size w w5) := HB4.out.trans (hb5.mono HB4.out.size)
        have HU5 : Hid (RRow w5 uA u) := SRow.below HU.out hb5
        clear hb5 HK HB4 hown hrow t5 HU
        by_cases h6 : L.length < m
        · have t6 : decide (L.length < m) = true := decide_eq_true h6
          have HQ5 := Lib.hid (HQ4.out.trans (if_pos (.inr (by omega))))
          clear h6 HQ4 HW
          go_wp2_with (fail)
          go_ret2
          rw [HQ5.out]
          exact ⟨_, rfl, ⟨_, _, rfl, SRow.below HR.out HB5.out, HY.out.below HB5.out⟩, HB5.out⟩
        · have t6 : decide (L.length < m) = false := decide_eq_false h6
          have HQ5 := Lib.hid (HQ4.out.trans (if_neg (by omega)))
          have HWW := Lib.hid (fun A c w hr => HW.out A c m w hr (by have := HKL.out; omega))
          clear h6 HQ4 HW
          go_wp2_with (fail)
          refine (HWW.out _ _ _ HU5.out).mono ?_
          rintro e w6 ⟨v, rfl, hown, hb6⟩
          have HB6 : Hid (Below w.heap.size w w6) := HB5.out.trans (hb6.mono HB5.out.size)
          have HO := Lib.hid (DTree.of_own hown)
          clear hb6 hown HWW
          go_wp2_with (fail)
          go_ret2
          rw [HQ5.out]
          exact ⟨_, rfl, HO.out, HB6.out⟩
def RemQ (r : T × List Int × Int) (w : World) (e : Ending) (w' : World) : Prop := ∃ v u, e = .returned (.tuple #[v, u, .int .i64 r.2.2]) ∧ DTree w' v r.1 ∧ IOwn w' w.heap.size u r.2.1 ∧ Below w.heap.size w w'
set_option maxRecDepth 100000 in
set_option maxHeartbeats 2000000 in
theorem drem (tv : Value) (t : T) (i : Int) (w : World) (ok : Ok t) (hv : DTree w tv t) (hn : t.length ≤ 1000) :
    Calls Try.prog 35 #[tv, .int .i64 i] w (RemQ (remS t i) w) := by
  unfold RemQ
  obtain ⟨A, c, rfl, hr, hy⟩ := hv
  have HR := Lib.hid hr
  have HY := Lib.hid hy
  clear hy
  obtain ⟨R, hR⟩ : ∃ R, remS t i = R := ⟨_, rfl⟩
  have HQ := Lib.hid hR
  rw [hR]
  have HN := Lib.hid hn
  have HOK := Lib.hid ok
  clear hr hR ok hn
  unfold remS at HQ
  by_cases h1 : i = 0
  · have t1 : (i == 0) = true := by simpa using h1
    have HQ2 := Lib.hid (HQ.out.symm.trans (if_pos h1))
    clear h1 HQ
    go_enter Try.func35, Try.ntmps35
    go_wp2_with (fail)
    go_ret3
    rw [HQ2.out]
    exact ⟨_, _, rfl, ⟨_, _, rfl, HR.out, HY.out⟩, SOwn.nil _ _, Below.refl _ _⟩
  have HQ1 := Lib.hid (HQ.out.symm.trans (if_neg h1))
  have t1 : (i == 0) = false := by simpa using h1
  have H0 := Lib.hid h1
  clear h1 HQ
  have H1 := Lib.hid (fun w hr => dhas A t c i w hr (by have := HN.out; omega))
  obtain ⟨b1, hb1⟩ : ∃ b1, has t i = b1 := ⟨_, rfl⟩
  have HB := Lib.hid hb1
  rw [hb1] at H1 HQ1
  clear hb1
  go_enter Try.func35, Try.ntmps35
  go_wp2_with (fail)
  refine (H1.out _ HR.out).mono ?_
  rintro e w1 ⟨rfl, hb1⟩
  have HB1 := Lib.hid hb1
  clear hb1 t1 H1
  cases b1 with
  | false =>
    have HQ2 := Lib.hid (HQ1.out.trans (if_pos rfl))
    clear HQ1
    go_wp2_with (fail)
    go_ret3
    rw [HQ2.out]
    exact ⟨_, _, rfl, ⟨_, _, rfl, SRow.below HR.out HB1.out, HY.out.below HB1.out⟩, SOwn.nil _ _, HB1.out⟩
  | true =>
    have HQ2 := Lib.hid (HQ1.out.trans (if_neg (by decide)))
    have hi : i ∈ ids t := (has_iff.1 HB.out).resolve_left H0.out
    have HW := Lib.hid (fun w hr => dwalk A t c HOK.out (by have := HN.out; omega) (t.length + 1) i w hr (.inr hi) (by omega))
    have HL : Hid ((trm.walk t i).length ≤ 1001) := by have := walk_le HOK.out (.inr hi); have := HN.out; show _ ≤ _; omega
    rw [← gone_fold] at HQ2
    clear HQ1 hi HB H0 HOK
    generalize trm.walk t i = G at *
    go_wp2_with (fail)
    refine (HW.out _ (SRow.below HR.out HB1.out)).mono ?_
    rintro e w2 ⟨v, rfl, hown, hb2⟩
    obtain ⟨vA, vc, rfl, _, _, hrow⟩ := hown.irow
    have HB2 : Hid (Below w.heap.size w w2) := HB1.out.trans (hb2.mono HB1.out.size)
    have HG := Lib.hid hrow
    have HOW := Lib.hid (SOwn.weaken hown HB1.out.size)
    clear hb2 HB1 hown hrow HW
    go_wp2_with (fail)
    go_loopw [0, 8] (fun v x wr => ∃ k : Nat, k ≤ G.length ∧ x = .int .i64 k ∧ Hid (DTree wr v ((G.take k).foldl (fun u g => del g u) t)) ∧ Hid (Below w2.heap.size w2 wr)) (fun _ x _ => G.length - (intOf x).toNat)
    case atStart => exact ⟨0, Nat.zero_le _, rfl, ⟨_, _, rfl, SRow.below HR.out HB2.out, HY.out.below HB2.out⟩, Below.refl _ _⟩
    case round =>
      obtain ⟨k, hk, rfl, HD, HB⟩ := hrel
      by_cases hlt : k < G.length
      · have t1 : decide (k < G.length) = true := by simpa using hlt
        obtain ⟨b, o, rA, k1'⟩ := HG.out.in_ hlt
        subst rA
        have k1 := k1' _ HB.out
        clear k1'
        unfold eI at k1
        have HS : Hid ((G.take (k + 1)).foldl (fun u g => del g u) t = del G[k] ((G.take k).foldl (fun u g => del g u) t)) := by
          show _ = _
          rw [List.take_succ_eq_append_getElem hlt, List.foldl_append]
          rfl
        have HTL : Hid (((G.take k).foldl (fun u g => del g u) t).length ≤ 1000) := by
          rw [gone_fold]
          exact Nat.le_trans (List.length_filter_le _ _) HN.out
        obtain ⟨t1', ht1⟩ : ∃ x, (G.take (k + 1)).foldl (fun u g => del g u) t = x := ⟨_, rfl⟩
        have HT1 := Lib.hid ht1
        rw [ht1] at HS
        clear ht1
        generalize (G.take k).foldl (fun u g => del g u) t = tk at *
        generalize G[k] = x at *
        obtain ⟨dA, dc, rfl, hdr, -⟩ := HD.out
        have HC := Lib.hid (dwithout dA tk dc x wr hdr (by have := HTL.out; omega))
        have hkb : (k : Int) ≤ 10000 := by have := HL.out; omega
        clear hdr HD
        go_wp2_with (fail)
        refine HC.out.mono ?_
        rintro e w3 ⟨v, rfl, hown, hb3⟩
        have HB3 : Hid (Below w2.heap.size w2 w3) := HB.out.trans (hb3.mono HB.out.size)
        have HD3 : Hid (DTree w3 v t1') := by rw [HS.out]; exact DTree.of_own hown
        clear hown hb3 HC
        go_wp2_with (fail)
        go_roundw
        case rel => exact ⟨k + 1, by omega, by go_num, by rw [HT1.out]; exact HD3, HB3⟩
        case measure => simp [intOf]; omega
      · obtain rfl : k = G.length := by omega
        have hD := HD.out
        rw [List.take_length] at hD
        have HD2 := Lib.hid hD
        have t1 : decide (G.length < G.length) = false := by simp
        clear hD HD
        go_wp2_with (fail)
        go_ret3
        rw [HQ2.out]
        exact ⟨_, _, rfl, HD2.out, SOwn.below HOW.out HB.out, HB2.out.trans (HB.out.mono HB2.out.size)⟩

theorem take_eq_snoc {a b : List Int} {k : Nat} (h : a.take k = b.take k) (ha : k < a.length) (hb : k < b.length) (e : a[k] = b[k]) : a.take (k + 1) = b.take (k + 1) := by
  rw [List.take_succ_eq_append_getElem ha, List.take_succ_eq_append_getElem hb, h, e]
theorem ne_of_at {a b : List Int} {k : Nat} (ha : k < a.length) (hb : k < b.length) (e : ¬ a[k] = b[k]) : decide (a = b) = false :=
  decide_eq_false fun h => e (by subst h; rfl)
set_option maxHeartbeats 1000000 in
theorem same_any (A1 A2 : Option Addr) (l1 l2 : List Int) (c1 c2 : Nat) (w : World) (h1 : Row eI w A1 l1) (h2 : Row eI w A2 l2) (m1 : l1.length ≤ 100000) (m2 : l2.length ≤ 100000) :
    Calls Try.prog 22 #[.slice A1 l1.length c1, .slice A2 l2.length c2] w fun e w' => e = .returned (.bool (decide (l1 = l2))) ∧ Below w.heap.size w w' := by
  have HR := Lib.hid (And.intro h1 h2)
  have HM := Lib.hid (And.intro m1 m2)
  clear h1 h2 m1 m2
  by_cases hn : l1.length = l2.length
  · have q : ((l1.length : Int) != (l2.length : Int)) = false := by simp; omega
    have HN := Lib.hid hn
    clear hn
    go_enter Try.func22, Try.ntmps22
    go_wp2_with (fail)
    clear q
    go_loopw [13] (fun i wr => ∃ k : Nat, k ≤ l1.length ∧ i = .int .i64 k ∧ Hid (l1.take k = l2.take k) ∧ Hid (Drew w wr)) (fun i _ => l1.length - (intOf i).toNat)
    case atStart => exact ⟨0, Nat.zero_le _, rfl, rfl, Drew.refl _⟩
    case round =>
      obtain ⟨k, hk, rfl, HK, HD⟩ := hrel
      have hkb : (k : Int) ≤ 100000 := by have := HM.out.1; omega
      by_cases hlt : k < l1.length
      · have t : decide (k < l1.length) = true := by simpa using hlt
        have hlt2 : k < l2.length := by rw [← HN.out]; exact hlt
        obtain ⟨b1, o1, rfl, k1⟩ := (HR.out.1.below (HD.out.below _)).at_ hlt
        obtain ⟨b2, o2, rfl, k2⟩ := (HR.out.2.below (HD.out.below _)).at_ hlt2
        have HS := Lib.hid (fun e => take_eq_snoc HK.out hlt hlt2 e)
        have HO := Lib.hid (fun e => ne_of_at hlt hlt2 e)
        generalize l1[k] = x at *
        generalize l2[k] = y at *
        unfold eI at k1 k2
        by_cases e : x = y
        · have HS2 := Lib.hid (HS.out e)
          have q : (x != y) = false := by simpa using e
          clear HS HO e HN
          go_wp2_with (fail)
          go_quiet (fail)
          go_wp2_with (fail)
          go_roundw
          case rel => exact ⟨k + 1, by omega, by go_num, HS2, HD.out.trans ⟨_, rfl⟩⟩
          case measure => simp [intOf]; omega
        · have HO2 := Lib.hid (HO.out e)
          have q : (x != y) = true := by simpa using e
          clear HS HO e HN
          go_wp2_with (fail)
          go_quiet (fail)
          go_wp2_with (fail)
          go_ret
          exact ⟨ret_bool HO2.out.symm, (HD.out.trans ⟨_, rfl⟩).below _⟩
      · obtain rfl : k = l1.length := by omega
        have HF : Hid (decide (l1 = l2) = true) := decide_eq_true (by have := HK.out; rw [List.take_length, HN.out, List.take_length] at this; exact this)
        have t : decide (l1.length < l1.length) = false := by simp
        go_wp2_with (fail)
        go_ret
        exact ⟨ret_bool HF.out.symm, HD.out.below _⟩
  · have q : ((l1.length : Int) != (l2.length : Int)) = true := by simp; omega
    have HF : Hid (decide (l1 = l2) = false) := decide_eq_false fun e => hn (by rw [e])
    clear hn
    go_enter Try.func22, Try.ntmps22
    go_wp2_with (fail)
    go_ret
    exact ⟨ret_bool HF.out.symm, Below.refl _ _⟩
end Go.Proofs.Ytokochkjjlbnkaa
