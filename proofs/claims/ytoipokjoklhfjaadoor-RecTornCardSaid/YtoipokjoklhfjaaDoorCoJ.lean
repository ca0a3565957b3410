/-
  The document's own In: its other calls.
-/
import Derived.Test.YtoipokjoklhfjaaDoorCoI
import Derived.RegionTactic
import Derived.BigRegion
namespace Go.Proofs.YtoipokjoklhfjaaDoor
open Go.RowKit numb

theorem bcell {W w1 : World} (hb : Below W.heap.size W w1) : (∀ b o, b < W.heap.size → w1.cell? ⟨b, o, none⟩ = W.cell? ⟨b, o, none⟩) ∧ (∀ b o, b < W.heap.size → w1.frozen? ⟨b, o, none⟩ = W.frozen? ⟨b, o, none⟩) :=
  ⟨fun b o h => hb.cell (p := ⟨b, o, none⟩) h, fun b o h => hb.frozen (p := ⟨b, o, none⟩) h⟩
theorem below3 {w w1 : World} {x y : Obj} (hb : Below ((w.alloc x).alloc y).heap.size ((w.alloc x).alloc y) w1) (p q : Value) (z : Obj) : Below w.heap.size w (((w1.setCell ⟨w.heap.size + 1, 0, none⟩ p).setCell ⟨w.heap.size + 1, 1, none⟩ q).alloc z) := by
  have h0 : Below w.heap.size w ((w.alloc x).alloc y) := ((Below.refl _ _).alloc (Nat.le_refl _) _).alloc (by simp) _
  have h1 := h0.trans (hb.mono h0.size)
  have h2 := (h1.setCell (p := ⟨w.heap.size + 1, 0, none⟩) (by simp) p).setCell (p := ⟨w.heap.size + 1, 1, none⟩) (by simp) q
  exact h2.alloc h2.size z
theorem ruint_zero (t : ByteArray) (e : Nat) (h : (St.uint ⟨natsOf t, e⟩).1.e ≠ 0) : (St.uint ⟨natsOf t, e⟩).2 = 0 := by
  by_cases he : e = 0
  · subst he
    cases hr : read (natsOf t) with
    | bad x => rw [ruint_bad t hr]
    | ok v r =>
      rw [ruint_ok t hr] at h
      exact absurd rfl h
  · rw [ruint_err t he]
theorem rin_nat (t : ByteArray) (e : Nat) : rin ⟨natsOf t, e⟩ = .agg #[.string t, .int .i64 (e : Nat)] := by simp [rin, strOf_natsOf]
def rraw (t : ByteArray) (e : Nat) (n : Int) : Value := .tuple #[rin (St.raw ⟨natsOf t, e⟩ n).1, .string (strOf (St.raw ⟨natsOf t, e⟩ n).2)]

/-! ### What each tells -/
def rint (t : ByteArray) (e : Nat) : Value := .tuple #[rin (St.int ⟨natsOf t, e⟩).1, .int .i64 (St.int ⟨natsOf t, e⟩).2]
def rbelow (t : ByteArray) (e : Nat) (most : Int) : Value := .tuple #[rin (St.below ⟨natsOf t, e⟩ most).1, .int .i64 ((St.below ⟨natsOf t, e⟩ most).2 : Nat)]
def rbool (t : ByteArray) (e : Nat) : Value := .tuple #[rin (St.bool ⟨natsOf t, e⟩).1, .bool (St.bool ⟨natsOf t, e⟩).2]
def rtext (t : ByteArray) (e : Nat) (most : Int) : Value := .tuple #[rin (St.text ⟨natsOf t, e⟩ most).1, .string (strOf (St.text ⟨natsOf t, e⟩ most).2)]

set_option maxHeartbeats 2000000 in
theorem rin_below_any (t : ByteArray) (e : Nat) (most : Int) (w : World) (hsz : t.size ≤ 1099511627776) (hm : I64 most) :
    Calls Tryd.prog 31 #[.agg #[.string t, .int .i64 (e : Nat)], .int .i64 most] w fun r w' => r = .returned (rbelow t e most) ∧ Below w.heap.size w w' := by
  have hU := uint_U64 (s := ⟨natsOf t, e⟩) (natsOf_are t)
  have hm1 := hm.1
  have hm2 := hm.2
  clear hm
  go_enter Tryd.func31, Tryd.ntmps31
  go_wp2_with (fail)
  refine (rin_uint_any t e _ hsz).mono ?_
  rintro r w1 ⟨rfl, hb⟩
  unfold ruint
  have herr := ruint_zero t e
  have R : Hid (rbelow t e most = if (St.uint ⟨natsOf t, e⟩).1.e = 0 ∧ most < ((St.uint ⟨natsOf t, e⟩).2 : Int) then .tuple #[.agg #[.string ⟨#[]⟩, .int .i64 17], .int .i64 0] else .tuple #[rin (St.uint ⟨natsOf t, e⟩).1, .int .i64 ((St.uint ⟨natsOf t, e⟩).2 : Nat)]) := by
    show _ = _
    unfold rbelow St.below
    split <;> rfl
  generalize St.uint ⟨natsOf t, e⟩ = p at *
  obtain ⟨s', v⟩ := p
  simp only [rin] at R hU herr ⊢
  have hv := hU.lt
  generalize strOf s'.l = t' at *
  generalize s'.e = e' at *
  obtain ⟨hc, hf⟩ := bcell hb
  have hz : w.heap.size + 1 < w1.heap.size := by have := hb.size; simp at this; omega
  have HB := Lib.hid (below3 hb)
  by_cases he : e' = 0
  · have t1 : ((e' : Int) == 0) = true := by simp; omega
    by_cases hbig : most < (v : Int)
    · have R2 : Hid (rbelow t e most = .tuple #[.agg #[.string ⟨#[]⟩, .int .i64 17], .int .i64 0]) := by rw [R.out, if_pos ⟨he, hbig⟩]; rfl
      by_cases hneg : most < 0
      · clear hU hsz he herr R hbig hv
        go_wp2_with (fail)
        exact bodyPost_ret (v := rbelow t e most) (by rw [R2.out]; simp [results, go_sem, hc, hz]) rfl ⟨rfl, HB.out _ _ _⟩
      · have hpos : 0 ≤ most := by omega
        have tn : decide (most < 0) = false := by simpa using hpos
        have tb : decide (most < (v : Int)) = true := by simpa using hbig
        clear hU hsz he herr R hneg
        go_wp2_with (fail)
        exact bodyPost_ret (v := rbelow t e most) (by rw [R2.out]; simp [results, go_sem, hc, hz]) rfl ⟨rfl, HB.out _ _ _⟩
    · have R2 : Hid (rbelow t e most = .tuple #[.agg #[.string t', .int .i64 (e' : Nat)], .int .i64 (v : Nat)]) := by rw [R.out, if_neg (fun h => hbig h.2)]; rfl
      have hpos : 0 ≤ most := by omega
      have hvm : (v : Int) ≤ most := by omega
      have tn : decide (most < 0) = false := by simpa using hpos
      have tb : decide (most < (v : Int)) = false := by simpa using hbig
      clear hU hsz he herr R hbig
      go_wp2_with (fail)
      exact bodyPost_ret (v := rbelow t e most) (by rw [R2.out]; simp [results, go_sem, hc, hz]) rfl ⟨rfl, HB.out _ _ _⟩
  · have t1 : ((e' : Int) == 0) = false := by simp; omega
    have R2 : Hid (rbelow t e most = .tuple #[.agg #[.string t', .int .i64 (e' : Nat)], .int .i64 (v : Nat)]) := by rw [R.out, if_neg (fun h => he h.1)]; rfl
    have hv0 := herr he
    have hvi : (v : Int) ≤ 5 := by omega
    clear hU hsz he herr R hv0 hv
    go_wp2_with (fail)
    exact bodyPost_ret (v := rbelow t e most) (by rw [R2.out]; simp [results, go_sem, hc, hz]) rfl ⟨rfl, HB.out _ _ _⟩
end Go.Proofs.YtoipokjoklhfjaaDoor
