/-
  Layer 12: the document's Add, Remove, Move; two lists compared.
-/
import Derived.Test.YtokochkjjlbnkaaTrE
namespace Go.Proofs.Ytokochkjjlbnkaa
open Go.RowKit trm

/-- the block that a row of the document's tree lies in has that row's type -/
def RTyp (w : World) (A : Option Addr) : Prop := ∀ a, A = some a → ∃ cs fz, w.heap[a.block]? = some (.cells cs 94 fz)
theorem RTyp.below {w w' : World} {A : Option Addr} (h : RTyp w A) (hb : Below w.heap.size w w') : RTyp w' A := fun a e => by
  obtain ⟨cs, fz, h1⟩ := h a e
  exact ⟨cs, fz, (hb.block _ (lt_of_block h1)).trans h1⟩
/-- the document's tree as a value -/
def DTree (w : World) (v : Value) (t : T) : Prop := ∃ A c, v = .slice A t.length c ∧ RRow w A t ∧ RTyp w A
theorem DTree.below {w w' : World} {v : Value} {t : T} (h : DTree w v t) (hb : Below w.heap.size w w') : DTree w' v t := by
  obtain ⟨A, c, e, hr, hy⟩ := h
  exact ⟨A, c, e, SRow.below hr hb, hy.below hb⟩
theorem DTree.of_own {w : World} {base : Nat} {v : Value} {t : T} (h : ROwn w base v t) : DTree w v t := by
  obtain ⟨A, c, e, _, _, hr⟩ := SOwn.row h rcs_len
  refine ⟨A, c, e, hr, fun a ea => ?_⟩
  rcases h.2 with ⟨e2, _⟩ | ⟨g, cap, cur, e2, _, hb, _⟩
  · have e3 := e.symm.trans e2
    injection e3 with e4 _ _
    rw [ea] at e4
    cases e4
  · have e3 := e.symm.trans e2
    injection e3 with e4 _ _
    rw [ea] at e4
    injection e4 with e4
    rw [e4]
    exact ⟨cur, _, hb⟩
def AddQ (r : T × Int) (w : World) (e : Ending) (w' : World) : Prop := ∃ v, e = .returned (.tuple #[v, .int .i64 r.2]) ∧ DTree w' v r.1 ∧ Below w.heap.size w w'

set_option maxRecDepth 100000 in
set_option maxHeartbeats 2000000 in
theorem dadd (tv : Value) (t : T) (i p n : Int) (w : World) (hv : DTree w tv t) (hn : t.length ≤ 1000) :
    Calls Try.prog 34 #[tv, .int .i64 i, .int .i64 p, .int .i64 n] w (AddQ (addS t i p n) w) := by
  unfold AddQ
  obtain ⟨A, c, rfl, hr, hy⟩ := hv
  have HR := Lib.hid hr
  have HY := Lib.hid hy
  clear hy
  have HH := Lib.hid (fun i w hr => dhas A t c i w hr (by omega))
  have HK := Lib.hid (fun i w hr => dkids A t c i w hr (by omega))
  have HW := Lib.hid (fun n w hr hn => dwith A t c i p n w hr (by omega) hn)
  have HKL : Hid ((kids t p).length ≤ 1000) := Nat.le_trans (kids_le t p) hn
  obtain ⟨R, hR⟩ : ∃ R, addS t i p n = R := ⟨_, rfl⟩
  have HQ := Lib.hid hR
  rw [hR]
  clear hr hn hR
  unfold addS at HQ
  by_cases h1 : i < 1
  · have t1 : decide (i < 1) = true := decide_eq_true h1
    have HQ2 := Lib.hid (HQ.out.symm.trans (if_pos (.inl h1)))
    clear h1 HQ HH HK HW HKL
    go_enter Try.func34, Try.ntmps34
    go_wp2_with (fail)
    go_ret2
    rw [HQ2.out]
    exact ⟨_, rfl, ⟨_, _, rfl, HR.out, HY.out⟩, Below.refl _ _⟩
  by_cases h2 : 65535 < i
  · have t1 : decide (i < 1) = false := decide_eq_false h1
    have t2 : decide (65535 < i) = true := decide_eq_true h2
    have HQ2 := Lib.hid (HQ.out.symm.trans (if_pos (.inr h2)))
    clear h1 h2 HQ HH HK HW HKL
    go_enter Try.func34, Try.ntmps34
    go_wp2_with (fail)
    go_ret2
    rw [HQ2.out]
    exact ⟨_, rfl, ⟨_, _, rfl, HR.out, HY.out⟩, Below.refl _ _⟩
  have HQ1 := Lib.hid (HQ.out.symm.trans (if_neg (show ¬ (i < 1 ∨ 65535 < i) by omega)))
  have t1 : decide (i < 1) = false := decide_eq_false h1
  have t2 : decide (65535 < i) = false := decide_eq_false h2
  clear h1 h2 HQ
  have H1 := Lib.hid (HH.out i)
  have H2 := Lib.hid (HH.out p)
  have H3 := Lib.hid (HK.out p)
  clear HH HK
  generalize has t i = b1 at *
  generalize has t p = b2 at *
  generalize kids t p = L at *
  go_enter Try.func34, Try.ntmps34
  go_wp2_with (fail)
  refine (H1.out _ HR.out).mono ?_
  rintro e w1 ⟨rfl, hb1⟩
  have HB1 := Lib.hid hb1
  clear hb1 t1 t2 H1
  cases b1 with
  | true =>
    have HQ2 := Lib.hid (HQ1.out.trans (if_pos rfl))
    clear HQ1
    go_wp2_with (fail)
    go_ret2
    rw [HQ2.out]
    exact ⟨_, rfl, ⟨_, _, rfl, SRow.below HR.out HB1.out, HY.out.below HB1.out⟩, HB1.out⟩
  | false =>
    have HQ2 := Lib.hid (HQ1.out.trans (if_neg (by decide)))
    clear HQ1
    go_wp2_with (fail)
    refine (H2.out _ (SRow.below HR.out HB1.out)).mono ?_
    rintro e w2 ⟨rfl, hb2⟩
    have HB2 : Hid (Below w.heap.size w w2) := HB1.out.trans (hb2.mono HB1.out.size)
    clear hb2 HB1 H2
    cases b2 with
    | false =>
      have HQ3 := Lib.hid (HQ2.out.trans (if_pos rfl))
      clear HQ2
      go_wp2_with (fail)
      go_ret2
      rw [HQ3.out]
      exact ⟨_, rfl, ⟨_, _, rfl, SRow.below HR.out HB2.out, HY.out.below HB2.out⟩, HB2.out⟩
    | true =>
      have HQ3 := Lib.hid (HQ2.out.trans (if_neg (by decide)))
      clear HQ2
      by_cases h3 : n < 0
      · have t3 : decide (n < 0) = true := decide_eq_true h3
        have HQ4 := Lib.hid (HQ3.out.trans (if_pos (.inl h3)))
        clear h3 HQ3 HW H3
        go_wp2_with (fail)
        go_ret2
        rw [HQ4.out]
        exact ⟨_, rfl, ⟨_, _, rfl, SRow.below HR.out HB2.out, HY.out.below HB2.out⟩, HB2.out⟩
      have t3 : decide (n < 0) = false := decide_eq_false h3
      obtain ⟨m, rfl⟩ : ∃ m : Nat, n = m := ⟨n.toNat, by omega⟩
      clear h3
      go_wp2_with (fail)
      refine (H3.out _ (SRow.below HR.out HB2.out)).mono ?_
      rintro e w3 ⟨v, rfl, hown, hb3⟩
      obtain ⟨vA, vc, rfl, _, _, hrow⟩ := hown.irow
      have HB3 : Hid (Below w.heap.size w w3) := HB2.out.trans (hb3.mono HB2.out.size)
      clear hb3 H3 HB2 hown hrow t3
      by_cases h4 : L.length < m
      · have t4 : decide (L.length < m) = true := decide_eq_true h4
        have HQ4 := Lib.hid (HQ3.out.trans (if_pos (.inr (by omega))))
        clear h4 HQ3 HW
        go_wp2_with (fail)
        go_ret2
        rw [HQ4.out]
        exact ⟨_, rfl, ⟨_, _, rfl, SRow.below HR.out HB3.out, HY.out.below HB3.out⟩, HB3.out⟩
      · have t4 : decide (L.length < m) = false := decide_eq_false h4
        have HQ4 := Lib.hid (HQ3.out.trans (if_neg (by omega)))
        have HWW := Lib.hid (fun w hr => HW.out m w hr (by have := HKL.out; omega))
        clear h4 HQ3 HW
        go_wp2_with (fail)
        refine (HWW.out _ (SRow.below HR.out HB3.out)).mono ?_
        rintro e w4 ⟨v, rfl, hown, hb4⟩
        have HB4 : Hid (Below w.heap.size w w4) := HB3.out.trans (hb4.mono HB3.out.size)
        have HO := Lib.hid (DTree.of_own hown)
        clear hb4 hown HWW
        go_wp2_with (fail)
        go_ret2
        rw [HQ4.out]
        exact ⟨_, rfl, HO.out, HB4.out⟩
end Go.Proofs.Ytokochkjjlbnkaa
