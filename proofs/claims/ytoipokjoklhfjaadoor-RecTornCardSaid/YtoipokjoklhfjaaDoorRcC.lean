/-
  Records in memory; may records be gone through; are two the same; the bytes of a row of records.
-/
import Derived.Test.YtoipokjoklhfjaaDoorRcB
import Derived.Test.YtoipokjoklhfjaaDoorCoK
import Derived.Laws.MakeOwn
namespace Go.Proofs.YtoipokjoklhfjaaDoor
open Go.RowKit numb

/-- the slice's address leads to these records -/
def RcRow (w : World) (A : Option Addr) (l : List Rc) : Prop :=
  0 < l.length → ∃ b off, A = some ⟨b, off, none⟩ ∧ ∀ j (h : j < l.length), w.cell? ⟨b, off + j * 2, none⟩ = some (.int .i64 l[j].k) ∧ w.cell? ⟨b, off + j * 2 + 1, none⟩ = some l[j].p.v
theorem RcRow.below {w w' : World} {A : Option Addr} {l : List Rc} (h : RcRow w A l) (hb : Below w.heap.size w w') : RcRow w' A l := fun hn => by
  obtain ⟨b, off, e, hc⟩ := h hn
  have hlt : b < w.heap.size := World.block_lt_of_cell? w _ (hc 0 hn).1
  exact ⟨b, off, e, fun j hj => ⟨(hb.cell (p := ⟨b, _, none⟩) hlt).trans (hc j hj).1, (hb.cell (p := ⟨b, _, none⟩) hlt).trans (hc j hj).2⟩⟩
def smallR (x : Rc) : Bool := decide (x.p.l.length ≤ 2000)
def smallB (l : List Rc) : Bool := l.all smallR && decide (l.length ≤ 30)
set_option maxHeartbeats 1000000 in
theorem small_any (A : Option Addr) (l : List Rc) (c : Nat) (w : World) (hr : RcRow w A l) (hn : l.length ≤ 9223372036854775807) :
    Calls Tryd.prog 8 #[.slice A l.length c] w fun e w' => e = .returned (.bool (smallB l)) ∧ Below w.heap.size w w' := by
  have HROW := Lib.hid hr
  have HN := Lib.hid hn
  clear hr hn
  go_enter Tryd.func8, Tryd.ntmps8
  go_wp2_with (fail)
  go_loopw [7] (fun i wr => ∃ k : Nat, k ≤ l.length ∧ i = .int .i64 k ∧ Hid ((l.take k).all smallR = true) ∧ Hid (Below w.heap.size w wr)) (fun i _ => l.length - (intOf i).toNat)
  case atStart => exact ⟨0, Nat.zero_le _, rfl, rfl, Below.refl _ _⟩
  case round =>
    obtain ⟨k, hk, rfl, hall, hb⟩ := hrel
    by_cases hlt : k < l.length
    · have hkb : (k : Int) ≤ 9223372036854775806 := by have := HN.out; omega
      obtain ⟨rb, off, ra, hcell⟩ := (HROW.out.below hb.out) (by omega)
      subst ra
      obtain ⟨q0, q1⟩ := hcell k hlt
      have hsucc : (l.take (k + 1)).all smallR = smallR l[k] := by
        rw [List.take_succ_eq_append_getElem hlt, List.all_append, hall.out]
        simp
      have hwhole : smallR l[k] = false → smallB l = false := fun h => by
        unfold smallB
        rw [Bool.and_eq_false_iff]
        left
        rw [List.all_eq_false]
        exact ⟨l[k], List.getElem_mem hlt, by rw [h]; simp⟩
      obtain ⟨x, hx⟩ : ∃ x, x = l[k] := ⟨_, rfl⟩
      rw [← hx] at q0 q1 hsucc hwhole
      have hbl : rb < wr.heap.size := World.block_lt_of_cell? wr _ q0
      have HSU := Lib.hid hsucc
      have HWH := Lib.hid hwhole
      obtain ⟨kind, a, d, ca⟩ := x
      unfold Part.v at q1
      simp only at q0 q1
      have HB2 : Hid (Below w.heap.size w (wr.alloc (.cells #[.int .i64 kind, .slice a d.length ca] 27))) := hb.out.trans (((Below.refl _ _).alloc (Nat.le_refl _) _).mono hb.out.size)
      cases hsm : smallR ⟨kind, a, d, ca⟩ with
      | true =>
        have s1 : d.length ≤ 2000 := by simpa [smallR] using hsm
        have t1 : decide ((2000 : Int) < (d.length : Int)) = false := by simp; omega
        have HSM : Hid ((l.take (k + 1)).all smallR = true) := HSU.out.trans hsm
        clear hcell hx hsucc hwhole hsm s1
        go_wp2_with (fail)
        go_roundw
        case rel => exact ⟨k + 1, by omega, by go_num, HSM, HB2⟩
        case measure => simp [intOf]; omega
      | false =>
        have t1 : decide ((2000 : Int) < (d.length : Int)) = true := by simp [smallR] at hsm; simp; omega
        have HF := Lib.hid (HWH.out hsm)
        clear hcell hx hsucc hwhole hsm
        go_wp2_with (fail)
        go_ret
        rw [HF.out]
        exact ⟨rfl, HB2.out⟩
    · have he : Hid (smallB l = decide (l.length ≤ 30)) := by
        show _ = _
        have := hall.out
        rw [List.take_of_length_le (by omega)] at this
        unfold smallB
        rw [this]
        rfl
      go_wp2_with (fail)
      go_ret
      rw [he.out]
      exact ⟨by congr 2; simp; omega, hb.out⟩
set_option maxHeartbeats 1000000 in
/-- are two records the same? -/
theorem requal_any (x y : Rc) (w : World) (hx : x.p.ok w) (hy : y.p.ok w) : Calls Tryd.prog 15 #[x.v, y.v] w fun e w' => e = .returned (.bool (decide (x.k = y.k ∧ x.p.l = y.p.l))) ∧ Below w.heap.size w w' := by
  obtain ⟨k, a, l, c⟩ := x
  obtain ⟨k2, a2, l2, c2⟩ := y
  unfold Rc.v Part.v
  have hB : Hid (Below w.heap.size w ((w.alloc (.cells #[.int .i64 k, .slice a l.length c] 27)).alloc (.cells #[.int .i64 k2, .slice a2 l2.length c2] 27))) := ((Below.refl _ _).alloc (Nat.le_refl _) _).alloc (by simp) _
  have HE := Lib.hid (bequal_any ⟨a, l, c⟩ ⟨a2, l2, c2⟩ ((w.alloc (.cells #[.int .i64 k, .slice a l.length c] 27)).alloc (.cells #[.int .i64 k2, .slice a2 l2.length c2] 27)) ((hx.alloc _).alloc _) ((hy.alloc _).alloc _))
  unfold Part.v at HE
  simp only at HE ⊢
  clear hx hy
  by_cases hk : k = k2
  · subst hk
    have t : (k == k) = true := by simp
    simp only [true_and]
    go_enter Tryd.func15, Tryd.ntmps15
    go_wp2_with (fail)
    refine HE.out.mono ?_
    rintro e w' ⟨rfl, rfl⟩
    go_wp2_with (fail)
    go_ret
    exact ⟨rfl, hB.out⟩
  · have t : (k == k2) = false := by simpa using hk
    simp only [hk, false_and, decide_false]
    clear hk
    go_enter Tryd.func15, Tryd.ntmps15
    go_wp2_with (fail)
    go_ret
    exact ⟨rfl, hB.out⟩

/-! ### The bytes of a row of records -/
def rightR (x : Rc) : Int := rightI x.k x.p.l.length
def firstE : List Rc → Int
  | [] => 0
  | x :: l => if rightR x = 0 then firstE l else rightR x
def bytesL (l : List Rc) : List Nat := l.flatMap fun x => recB x.k.toNat x.p.l
theorem firstE_take {l : List Rc} {k : Nat} (h : firstE (l.take k) = 0) (hk : k < l.length) : (rightR l[k] = 0 → firstE (l.take (k + 1)) = 0) ∧ (rightR l[k] ≠ 0 → firstE l = rightR l[k]) := by
  induction l generalizing k with
  | nil => simp at hk
  | cons x l ih =>
    cases k with
    | zero =>
      simp only [List.take_succ_cons, List.take_zero, firstE, List.getElem_cons_zero]
      exact ⟨fun h => if_pos h, fun h => if_neg h⟩
    | succ k =>
      simp only [List.take_succ_cons, firstE, List.getElem_cons_succ] at h ⊢
      split at h
      · rename_i h0
        simp only [h0, if_true]
        exact ih h (by simpa using hk)
      · rename_i h0
        exact absurd h h0
theorem firstE_all {l : List Rc} (h : firstE l = 0) : ∀ x ∈ l, rightR x = 0 := by
  induction l with
  | nil => intro x hx; cases hx
  | cons y l ih =>
    simp only [firstE] at h
    split at h
    · rename_i h0
      intro x hx
      rcases List.mem_cons.1 hx with rfl | hx
      · exact h0
      · exact ih h x hx
    · rename_i h0
      exact absurd h h0
theorem rightR_range (x : Rc) : rightR x = 0 ∨ rightR x = 11 ∨ rightR x = 17 := by unfold rightR rightI; split <;> (try split) <;> simp
theorem rightR_ok {x : Rc} (h : rightR x = 0) : 0 ≤ x.k ∧ x.k < 256 ∧ x.p.l.length ≤ 1048576 := by
  unfold rightR rightI at h
  split at h
  · cases h
  · split at h
    · cases h
    · omega
theorem bytesL_snoc {l : List Rc} {k : Nat} (hk : k < l.length) : bytesL (l.take (k + 1)) = bytesL (l.take k) ++ recB l[k].k.toNat l[k].p.l := by
  unfold bytesL
  rw [List.take_succ_eq_append_getElem hk, List.flatMap_append]
  simp
theorem bytesL_are {l : List Rc} (h : ∀ x ∈ l, rightR x = 0 ∧ AreBytes x.p.l) : AreBytes (bytesL l) := by
  intro z hz
  unfold bytesL at hz
  rw [List.mem_flatMap] at hz
  obtain ⟨x, hx, hz⟩ := hz
  have := rightR_ok (h x hx).1
  exact recB_are (by omega) (h x hx).2 z hz
theorem recB_le {k : Nat} {l : List Nat} (h : l.length ≤ 1048576) : (recB k l).length ≤ l.length + 15 ∧ l.length + 6 ≤ (recB k l).length := by
  rw [recB_length]
  have := uint_length_le (v := l.length) (k := 10) (by omega) (by omega)
  have := uint_pos l.length
  omega
theorem bytesL_le {l : List Rc} (h : ∀ x ∈ l, x.p.l.length ≤ 5000) : (bytesL l).length ≤ 5015 * l.length := by
  induction l with
  | nil => simp [bytesL]
  | cons x l ih =>
    have h1 := ih fun y hy => h y (by simp [hy])
    have h2 := (recB_le (k := x.k.toNat) (l := x.p.l) (by have := h x (by simp); omega)).1
    have h3 := h x (by simp)
    have e : bytesL (x :: l) = recB x.k.toNat x.p.l ++ bytesL l := by simp [bytesL]
    rw [e, List.length_append, List.length_cons]
    omega
end Go.Proofs.YtoipokjoklhfjaaDoor
