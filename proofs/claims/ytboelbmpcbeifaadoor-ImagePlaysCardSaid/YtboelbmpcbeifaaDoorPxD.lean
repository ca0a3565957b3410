/-
  Layer 9: the document's own functions: Right, Of, From, Times, Over.
-/
import Derived.Test.YtboelbmpcbeifaaDoorPxC
namespace Go.Proofs.YtboelbmpcbeifaaDoor
open Go.RowKit pxm

def pxm.P4.cs (p : P4) : List Value := [.int .i64 (p.r : Nat), .int .i64 (p.g : Nat), .int .i64 (p.b : Nat), .int .i64 (p.a : Nat)]
/-- those ahead of k of one row, and from there on of another one -/
def mix (A B : List Value) (k : Nat) : List Value := A.take k ++ B.drop k
theorem mix_0 (A B : List Value) : mix A B 0 = B := by simp [mix]
theorem mix_all {A B : List Value} {k : Nat} (h : A.length = k) (h2 : B.length = k) : mix A B k = A := by
  unfold mix
  rw [List.take_of_length_le (by omega), List.drop_of_length_le (by omega), List.append_nil]
theorem mix_at {A B : List Value} {k j : Nat} (h : A.length = B.length) (hk : k < A.length) (hj : k ≤ j) : (mix A B k)[j]? = B[j]? := by
  unfold mix
  have hl : (A.take k).length = k := by rw [List.length_take]; omega
  rw [List.getElem?_append_right (by omega), List.getElem?_drop, hl]
  congr 1
  omega
theorem mix_step {A B : List Value} {k : Nat} {v : Value} (h : A.length = B.length) (hv : A[k]? = some v) : (mix A B k).set k v = mix A B (k + 1) := by
  obtain ⟨hk, rfl⟩ := List.getElem?_eq_some_iff.1 hv
  unfold mix
  have hl : (A.take k).length = k := by rw [List.length_take]; omega
  rw [List.set_append, if_neg (by omega), hl, Nat.sub_self, List.drop_eq_getElem_cons (show k < B.length by omega), List.set_cons_zero, List.take_succ_eq_append_getElem hk, List.append_assoc]
  rfl

set_option maxHeartbeats 1000000 in
theorem dfrom_any (n : Nat) (hn : n < 4294967296) (w : World) :
    Calls Tryd.prog 14 #[.int .u32 (n : Nat)] w fun e w' => e = .returned (.agg #[.int .i64 ((frm n).r : Nat), .int .i64 ((frm n).g : Nat), .int .i64 ((frm n).b : Nat), .int .i64 ((frm n).a : Nat)]) ∧ Below w.heap.size w w' := by
  have e1 : (n : Int) / 16777216 = ((n / 16777216 : Nat) : Int) := by simp
  have e2 : (n : Int) / 65536 % 256 = ((n / 65536 % 256 : Nat) : Int) := by simp
  have e3 : (n : Int) / 256 % 256 = ((n / 256 % 256 : Nat) : Int) := by simp
  have e4 : (n : Int) % 256 = ((n % 256 : Nat) : Int) := by simp
  have hr : n / 16777216 < 256 := by omega
  have hg : n / 65536 % 256 < 256 := by omega
  have hb : n / 256 % 256 < 256 := by omega
  have ha : n % 256 < 256 := by omega
  unfold frm
  simp only
  generalize n / 16777216 = r at *
  generalize n / 65536 % 256 = g at *
  generalize n / 256 % 256 = b at *
  generalize n % 256 = a at *
  go_enter Tryd.func14, Tryd.ntmps14
  go_wp2_with (fail)
  exact blk_ret rfl rfl (blk_new w [.int .i64 (r : Nat), .int .i64 (g : Nat), .int .i64 (b : Nat), .int .i64 (a : Nat)] _) Tryd.underlying44 rfl (by kernel_rfl) ⟨rfl, (Below.refl _ _).alloc (Nat.le_refl _) _⟩
theorem all_snoc {α : Type} {p : α → Bool} {l : List α} {k : Nat} (h : (l.take k).all p = true) (hk : k < l.length) (hp : p l[k] = true) : (l.take (k + 1)).all p = true := by
  rw [List.take_succ_eq_append_getElem hk, List.all_append, h]
  simp [hp]
theorem all_bad {α : Type} {p : α → Bool} {l : List α} {k : Nat} (hk : k < l.length) (hp : p l[k] = false) : l.all p = false := by
  rw [List.all_eq_false]
  exact ⟨_, List.getElem_mem hk, by rw [hp]; simp⟩
/-- is a part right below a? -/
def okp (a x : Int) : Bool := decide (0 ≤ x) && (decide (x ≤ 255) && decide (x ≤ a))
def drB (x0 x1 x2 x3 : Int) : Bool := [x0, x1, x2, x3].all (okp x3)
theorem drB_yes {x0 x1 x2 x3 : Int} (h : drB x0 x1 x2 x3 = true) : ∃ p : P4, p.Right ∧ x0 = (p.r : Nat) ∧ x1 = (p.g : Nat) ∧ x2 = (p.b : Nat) ∧ x3 = (p.a : Nat) := by
  unfold drB okp at h
  simp only [List.all_cons, List.all_nil, Bool.and_eq_true, Bool.and_true, decide_eq_true_eq] at h
  refine ⟨⟨x0.toNat, x1.toNat, x2.toNat, x3.toNat⟩, ⟨?_, ?_, ?_, ?_⟩, ?_, ?_, ?_, ?_⟩ <;> simp only <;> omega
theorem drB_no {x0 x1 x2 x3 : Int} (h : drB x0 x1 x2 x3 = false) : ¬ (0 ≤ x0 ∧ 0 ≤ x1 ∧ 0 ≤ x2 ∧ x0 ≤ x3 ∧ x1 ≤ x3 ∧ x2 ≤ x3 ∧ x3 ≤ 255) := by
  intro h2
  have : drB x0 x1 x2 x3 = true := by
    unfold drB okp
    simp only [List.all_cons, List.all_nil, Bool.and_eq_true, Bool.and_true, decide_eq_true_eq]
    omega
  rw [h] at this
  cases this
theorem drB_right (p : P4) (hp : p.Bytes) : drB (p.r : Nat) (p.g : Nat) (p.b : Nat) (p.a : Nat) = p.rightB := by
  obtain ⟨h1, h2, h3, h4⟩ := hp
  rw [Bool.eq_iff_iff, P4.rightB_iff]
  unfold drB okp P4.Right
  simp only [List.all_cons, List.all_nil, Bool.and_eq_true, Bool.and_true, decide_eq_true_eq]
  omega
theorem okp_no1 {a x : Int} (h : x < 0) : okp a x = false := by unfold okp; simp; omega
theorem okp_no2 {a x : Int} (h : 255 < x) : okp a x = false := by unfold okp; simp; omega
theorem okp_no3 {a x : Int} (h : a < x) : okp a x = false := by unfold okp; simp; omega
theorem okp_yes {a x : Int} (h : ¬ x < 0) (h2 : ¬ 255 < x) (h3 : ¬ a < x) : okp a x = true := by unfold okp; simp; omega
set_option maxRecDepth 100000 in
set_option maxHeartbeats 1000000 in
theorem dright_any (x0 x1 x2 x3 : Int) (w : World) :
    Calls Tryd.prog 13 #[.agg #[.int .i64 x0, .int .i64 x1, .int .i64 x2, .int .i64 x3]] w fun e w' => e = .returned (.bool (drB x0 x1 x2 x3)) ∧ Below w.heap.size w w' := by
  obtain ⟨l, hl⟩ : ∃ l, l = [x0, x1, x2, x3] := ⟨_, rfl⟩
  have HR : Hid (drB x0 x1 x2 x3 = l.all (okp x3)) := by rw [hl]; rfl
  have HE : Hid ([.int .i64 x0, .int .i64 x1, .int .i64 x2, .int .i64 x3] = l.map eI) := by rw [hl]; rfl
  have H3 : Hid ((l.map eI)[3]? = some (.int .i64 x3)) := by rw [hl]; rfl
  have HL : Hid (l.length = 4) := by rw [hl]; rfl
  clear hl
  generalize drB x0 x1 x2 x3 = R at *
  go_enter Tryd.func13, Tryd.ntmps13
  go_wp2_with (fail)
  go_loopw [3] (fun i wr => ∃ k : Nat, k ≤ 4 ∧ i = .int .i64 k ∧ Hid ((l.take k).all (okp x3) = true) ∧ Hid (Below w.heap.size w wr) ∧ Hid (Blk wr w.heap.size (l.map eI))) (fun i _ => 4 - (intOf i).toNat)
  case atStart => exact ⟨0, Nat.zero_le _, rfl, rfl, (Below.refl _ _).alloc (Nat.le_refl _) _, by rw [← HE.out]; exact blk_new w [.int .i64 x0, .int .i64 x1, .int .i64 x2, .int .i64 x3] _⟩
  case round =>
    obtain ⟨k, hk, rfl, HK, HB, HM⟩ := hrel
    by_cases hlt : k < 4
    · have hkl : k < l.length := by rw [HL.out]; exact hlt
      have c3 : wr.cell? ⟨w.heap.size, 3, none⟩ = some (.int .i64 x3) := (HM.out.cell 3).trans H3.out
      have ck : wr.cell? ⟨w.heap.size, k, none⟩ = some (.int .i64 l[k]) := by rw [HM.out.cell k, List.getElem?_map, List.getElem?_eq_getElem hkl]; rfl
      have hin := HM.out.inside
      have H1 := Lib.hid (all_snoc HK.out hkl)
      have H0 := Lib.hid (all_bad (p := okp x3) hkl)
      clear HK HE H3
      generalize l[k] = x at *
      clear hkl
      by_cases t1 : x < 0
      · have t : decide (x < 0) = true := by simpa using t1
        have HF := Lib.hid (HR.out.trans (H0.out (okp_no1 t1)))
        clear t1 H1 H0 HR
        go_wp2_with (fail)
        go_quiet (fail)
        go_wp2_with (fail)
        go_ret
        exact ⟨ret_bool HF.out.symm, Below.drewN' HB.out _⟩
      · have t : decide (x < 0) = false := by simpa using t1
        by_cases t2 : 255 < x
        · have t3 : decide (255 < x) = true := by simpa using t2
          have HF := Lib.hid (HR.out.trans (H0.out (okp_no2 t2)))
          clear t1 t2 H1 H0 HR
          go_wp2_with (fail)
          go_quiet (fail)
          go_wp2_with (fail)
          go_ret
          exact ⟨ret_bool HF.out.symm, Below.drewN' HB.out _⟩
        · have t3 : decide (255 < x) = false := by simpa using t2
          by_cases t4 : x3 < x
          · have t5 : decide (x3 < x) = true := by simpa using t4
            have HF := Lib.hid (HR.out.trans (H0.out (okp_no3 t4)))
            clear t1 t2 t4 H1 H0 HR
            go_wp2_with (fail)
            go_quiet (fail)
            go_wp2_with (fail)
            go_ret
            exact ⟨ret_bool HF.out.symm, Below.drewN' HB.out _⟩
          · have t5 : decide (x3 < x) = false := by simpa using t4
            have HF := Lib.hid (H1.out (okp_yes t1 t2 t4))
            clear t1 t2 t4 H1 H0 HR
            go_wp2_with (fail)
            go_quiet (fail)
            go_wp2_with (fail)
            go_roundw
            case rel => exact ⟨k + 1, by omega, by go_num, HF, Below.drewN' HB.out _, HM.out.drewN _⟩
            case measure => simp [intOf]; omega
    · obtain rfl : k = 4 := by omega
      have HA := HK.out
      rw [List.take_of_length_le (Nat.le_of_eq HL.out)] at HA
      have HF : Hid (R = true) := HR.out.trans HA
      clear HA
      clear HR HK HE H3
      go_wp2_with (fail)
      go_ret
      exact ⟨ret_bool HF.out.symm, HB.out⟩
theorem cs_len (p : P4) : p.cs.length = 4 := rfl
theorem times_part (p : P4) (hp : p.Bytes) (q : Nat) {k : Nat} (hk : k < 4) : ∃ x, x < 256 ∧ p.cs[k]? = some (.int .i64 (x : Nat)) ∧ (p.times q).cs[k]? = some (.int .i64 (by_ x q : Nat)) := by
  obtain ⟨h1, h2, h3, h4⟩ := hp
  obtain rfl | rfl | rfl | rfl : k = 0 ∨ k = 1 ∨ k = 2 ∨ k = 3 := by omega
  · exact ⟨_, h1, rfl, rfl⟩
  · exact ⟨_, h2, rfl, rfl⟩
  · exact ⟨_, h3, rfl, rfl⟩
  · exact ⟨_, h4, rfl, rfl⟩
end Go.Proofs.YtboelbmpcbeifaaDoor
