/-
  The document's own In: a text that is read.
-/
import Derived.Test.YtoipokjoklhfjaaDoorCoH
namespace Go.Proofs.YtoipokjoklhfjaaDoor
open Go.RowKit numb

/-- what the document's In is -/
def rin (s : St) : Value := .agg #[.string (strOf s.l), .int .i64 (s.e : Nat)]
theorem num_drop_le : ∀ (l : List Nat) (m : Nat), num (l.drop m) ≤ num l
  | l, 0 => by simp
  | [], m + 1 => by simp
  | z :: l, m + 1 => by
    have := num_drop_le l m
    simp only [List.drop_succ_cons, num]
    omega
theorem num_drop_at {l : List Nat} {m : Nat} (h : m < l.length) : num (l.drop m) = l[m] % 128 + 128 * num (l.drop (m + 1)) := by
  rw [List.drop_eq_getElem_cons h]
  rfl
theorem num_len (l : List Nat) : num (l.drop l.length) = 0 := by simp [num]

theorem val_num {k : IntKind} {a b : Int} (h : a = b) : Value.int k a = .int k b := by rw [h]
theorem read_ten {l : List Nat} (h : ∀ y ∈ l.take 10, 128 ≤ y) (hk : 10 ≤ l.length) : read l = .bad 10 := by
  have := lead_ge l 10 h hk
  unfold numb.read
  have hm : min (lead l) 10 = 10 := by omega
  simp only [hm, if_true]
theorem ruint_err (t : ByteArray) {e : Nat} (he : e ≠ 0) : St.uint ⟨natsOf t, e⟩ = (⟨natsOf t, e⟩, 0) := by
  unfold St.uint
  rw [if_pos he]
theorem ruint_bad (t : ByteArray) {x : Nat} (h : read (natsOf t) = .bad x) : St.uint ⟨natsOf t, 0⟩ = (⟨[], x⟩, 0) := by
  unfold St.uint
  rw [if_neg (fun h => h rfl), h]
  rfl
theorem ruint_ok (t : ByteArray) {v : Nat} {r : List Nat} (h : read (natsOf t) = .ok v r) : St.uint ⟨natsOf t, 0⟩ = (⟨r, 0⟩, v) := by
  unfold St.uint
  rw [if_neg (fun h => h rfl), h]
  rfl
/-- what the document's Uint tells -/
def ruint (t : ByteArray) (e : Nat) : Value := .tuple #[rin (St.uint ⟨natsOf t, e⟩).1, .int .u64 ((St.uint ⟨natsOf t, e⟩).2 : Nat)]

set_option maxHeartbeats 2000000 in
theorem rin_uint_any (t : ByteArray) (e : Nat) (w : World) (hsz : t.size ≤ 1099511627776) :
    Calls Tryd.prog 40 #[.agg #[.string t, .int .i64 (e : Nat)]] w fun r w' => r = .returned (ruint t e) ∧ Below w.heap.size w w' := by
  have hb2 : ∀ x y, Below w.heap.size w ((w.alloc x).alloc y) := fun x y => ((Below.refl _ _).alloc (Nat.le_refl _) _).alloc (by simp) _
  by_cases he : e = 0
  · subst he
    have hl := natsOf_length t
    have hU : ∀ v r, read (natsOf t) = .ok v r → U64 v := fun v r h => (read_ok (natsOf_are t) h).2
    have RB : Hid (∀ x, read (natsOf t) = .bad x → ruint t 0 = .tuple #[.agg #[.string ⟨#[]⟩, .int .i64 (x : Nat)], .int .u64 0]) := fun x h => by
      unfold ruint
      rw [ruint_bad t h]
      rfl
    have RO : Hid (∀ v r, read (natsOf t) = .ok v r → ruint t 0 = .tuple #[.agg #[.string (strOf r), .int .i64 0], .int .u64 (v : Nat)]) := fun v r h => by
      unfold ruint
      rw [ruint_ok t h]
      rfl
    have HB := Lib.hid hb2
    have HU := Lib.hid hU
    clear hb2 hU
    have hsz' : t.size ≤ 9223372036854775807 := by omega
    clear hsz
    go_enter Tryd.func40, Tryd.ntmps40
    go_wp2_with (fail)
    go_loop [4] (fun i => ∃ k : Nat, k ≤ t.size ∧ k ≤ 10 ∧ i = .int .i64 k ∧ Hid (∀ y ∈ (natsOf t).take k, 128 ≤ y)) (fun i => 10 - (intOf i).toNat)
    case atStart => exact ⟨0, Nat.zero_le _, by omega, rfl, fun y hy => by simp at hy⟩
    case round =>
      obtain ⟨k, hk, hk10, rfl, hall⟩ := hrel
      by_cases hlt : k < t.size
      · have hat := natsOf_at t hlt
        have hbyte : t[k].toNat < 256 := t[k].toNat_lt
        by_cases h10 : k = 10
        · subst h10
          have RBx := Lib.hid (RB.out 10 (read_ten hall.out (by omega)))
          clear RB RO hat hbyte
          have hlt' : (10 : Int) < (t.size : Int) := by omega
          go_wp2_with (fail)
          exact bodyPost_ret (v := ruint t 0) (by rw [RBx.out]; simp [results, go_sem]) rfl ⟨rfl, HB.out _ _⟩
        · have hk9 : k < 10 := by omega
          by_cases hbig : 128 ≤ t[k].toNat
          · have AS := Lib.hid (all_snoc hall.out (by omega) (by rw [hat]; exact hbig))
            have tb : decide ((128 : Int) ≤ (t[k].toNat : Int)) = true := by simp; omega
            have t10 : decide ((k : Int) < 10) = true := by simp; omega
            have HBG := Lib.hid hbig
            have HK9 := Lib.hid hk9
            clear RB RO hat h10 hbig hk9
            go_wp2_with (fail)
            have hk9 := HK9.out
            go_round
            case rel => exact ⟨k + 1, by omega, by omega, by go_num, AS.out⟩
            case measure => simp [intOf]; omega
          · have hx : (natsOf t)[k]'(by omega) < 128 := by rw [hat]; omega
            have t10 : decide ((k : Int) < 10) = true := by simp; omega
            have e10 : ((k : Int) == 10) = false := by simp; omega
            have tb : decide ((128 : Int) ≤ (t[k].toNat : Int)) = false := by simp; omega
            have esz : ((k : Int) == (t.size : Int)) = false := by simp; omega
            have esz2 : (k == t.size) = false := by simp; omega
            have hkl : k < (natsOf t).length := by omega
            have Z := Lib.hid (fun (h0 : 0 < k) (hx0 : (natsOf t)[k] = 0) => RB.out 10 (read_zero (k := k) hall.out hkl (by omega) h0 hx0))
            have D := Lib.hid (fun (ht : k = 9 → (natsOf t)[k] ≤ 1) (h0 : 0 < k → (natsOf t)[k] ≠ 0) => read_done (k := k) hall.out hkl (by omega) hx ht h0)
            rw [hat] at Z
            have HK : Hid (k < 10 ∧ k < t.size) := ⟨hk9, hlt⟩
            have hxv : t[k].toNat < 128 := by omega
            have hv := HU.out
            have h99 : ∀ h : k = 9, ∃ h9t : 9 < t.size, t[9] = t[k] := fun h => by
              subst h
              exact ⟨hlt, rfl⟩
            by_cases bad9 : k = 9 ∧ 1 < t[k].toNat
            · have RBx : Hid (ruint t 0 = .tuple #[.agg #[.string ⟨#[]⟩, .int .i64 (10 : Nat)], .int .u64 0]) := RB.out 10 (by
                obtain ⟨h9, hx1⟩ := bad9
                subst h9
                exact read_tenth hall.out hkl (by rw [hat]; exact hx1))
              obtain ⟨h9t, h9e⟩ := h99 bad9.1
              have e9 : ((k : Int) == 9) = true := by simp; omega
              have x9 : decide ((1 : Int) < (t[9].toNat : Int)) = true := by rw [h9e]; simp; omega
              have h9i : (9 : Int) < (t.size : Int) := by omega
              clear RB RO hat h10 hbig hk9 hxv hx Z D hbyte hv bad9 h9e h99
              go_wp2_with (fail)
              exact bodyPost_ret (v := ruint t 0) (by rw [RBx.out]; simp [results, go_sem]) rfl ⟨rfl, HB.out _ _⟩
            · by_cases h0 : 0 < k ∧ t[k].toNat = 0
              · have RBx := Lib.hid (Z.out h0.1 h0.2)
                have x0 : ((t[k].toNat : Int) == 0) = true := by simp; omega
                have k0 : decide (0 < k) = true := by simp; omega
                have hdec : Hid ((((k : Int) == 9) = true ∧ ∃ h9t : 9 < t.size, decide ((1 : Int) < (t[9].toNat : Int)) = false) ∨ ((k : Int) == 9) = false) := by
                  show _ ∨ _
                  by_cases h9 : k = 9
                  · obtain ⟨h9t, h9e⟩ := h99 h9
                    exact .inl ⟨by simp; omega, h9t, by rw [h9e]; simp; omega⟩
                  · exact .inr (by simp; omega)
                clear RB RO hat h10 hbig hk9 hxv hx Z D h0 bad9 hbyte hv h99
                rcases hdec.out with ⟨e9, h9t, x9⟩ | e9
                · have h9i : (9 : Int) < (t.size : Int) := by omega
                  go_wp2_with (fail)
                  exact bodyPost_ret (v := ruint t 0) (by rw [RBx.out]; simp [results, go_sem]) rfl ⟨rfl, HB.out _ _⟩
                · go_wp2_with (fail)
                  exact bodyPost_ret (v := ruint t 0) (by rw [RBx.out]; simp [results, go_sem]) rfl ⟨rfl, HB.out _ _⟩
              · have RD := D.out (fun e => by
                  rw [hat]
                  rcases Nat.lt_or_ge 1 t[k].toNat with h1 | h1
                  · exact absurd ⟨e, h1⟩ bad9
                  · exact h1) (fun hk0 hx0 => h0 ⟨hk0, hat.symm.trans hx0⟩)
                have ROx := Lib.hid (RO.out _ _ RD)
                have hvU := (HU.out _ _ RD).lt
                have hdec : Hid ((∃ h9t : 9 < t.size, ((k : Int) == 9) = true ∧ decide ((1 : Int) < (t[9].toNat : Int)) = false ∧ decide (0 < k) = true ∧ ((t[k].toNat : Int) == 0) = false ∧ (9 : Int) < (t.size : Int)) ∨ (((k : Int) == 9) = false ∧ decide (0 < k) = true ∧ ((t[k].toNat : Int) == 0) = false) ∨ (((k : Int) == 9) = false ∧ decide (0 < k) = false)) := by
                  show _ ∨ _
                  by_cases h9 : k = 9
                  · obtain ⟨h9t, h9e⟩ := h99 h9
                    exact .inl ⟨h9t, by simp; omega, by rw [h9e]; simp; omega, by simp; omega, by simp; omega, by omega⟩
                  · by_cases hk0 : 0 < k
                    · exact .inr (.inl ⟨by simp; omega, by simp; omega, by simp; omega⟩)
                    · exact .inr (.inr ⟨by simp; omega, by simp; omega⟩)
                obtain ⟨sg, hsg⟩ : ∃ sg, sg = (natsOf t).take (k + 1) := ⟨_, rfl⟩
                rw [← hsg] at ROx hvU
                have hsl : sg.length = k + 1 := by rw [hsg, List.length_take]; omega
                have SG : Hid (∀ m (h1 : m < sg.length) (h2 : m < t.size), sg[m] = t[m].toNat) := fun m h1 h2 => by
                  have h3 : sg[m] = (natsOf t)[m]'(by omega) := by
                    simp only [hsg, List.getElem_take]
                  rw [h3]
                  exact natsOf_at t h2
                have HSL := Lib.hid hsl
                clear RB RO hat h10 hbig hk9 hxv hx Z D h0 bad9 RD hsg hsl hv HU hbyte h99
                rcases hdec.out with ⟨h9t, e9, x9, k0, x0, h9i⟩ | ⟨e9, k0, x0⟩ | ⟨e9, k0⟩
                all_goals
                  go_wp2_with (fail)
                  go_loop [5, 6] (fun v i => (∃ m : Nat, m ≤ k ∧ i = .int .i64 m ∧ v = .int .u64 (num (sg.drop (m + 1)) : Nat)) ∨ (i = .int .i64 (-1) ∧ v = .int .u64 (num sg : Nat))) (fun _ i => (intOf i + 1).toNat)
                  case atStart => exact .inl ⟨k, Nat.le_refl _, rfl, by rw [← HSL.out, num_len]; rfl⟩
                  case round =>
                    rcases hrel with ⟨m, hm, rfl, rfl⟩ | ⟨rfl, rfl⟩
                    · have hml : m < sg.length := by rw [HSL.out]; omega
                      have hmt : m < t.size := by omega
                      have NA := num_drop_at hml
                      rw [SG.out m hml hmt] at NA
                      have NL := num_drop_le sg m
                      have hby : t[m].toNat < 256 := t[m].toNat_lt
                      have HNA := Lib.hid NA
                      obtain ⟨y, hy⟩ : ∃ y, y = num (sg.drop (m + 1)) := ⟨_, rfl⟩
                      rw [← hy] at HNA NA ⊢
                      have hbd : (y : Int) * 128 + (t[m].toNat : Int) % 128 ≤ 18446744073709551615 := by omega
                      have hmk : decide (m < t.size) = true := by simp; omega
                      clear hy NA NL hml hvU
                      cases m with
                      | zero =>
                        go_wp2_with (fail)
                        go_round
                        case rel => exact .inr ⟨rfl, val_num (by
                          have := HNA.out
                          simp only [List.drop_zero] at this
                          omega)⟩
                        case measure => simp [intOf]
                      | succ m =>
                        go_wp2_with (fail)
                        go_round
                        case rel => exact .inl ⟨m, by omega, rfl, val_num (by
                          have := HNA.out
                          omega)⟩
                        case measure => simp [intOf]; omega
                    · go_wp2_with (fail)
                      exact bodyPost_ret (v := ruint t 0) (by rw [ROx.out, ← strOf_drop]; simp [results, go_sem]) rfl ⟨rfl, HB.out _ _⟩
      · have hk' : k = t.size := by omega
        by_cases h10 : k = 10
        · have RBx := Lib.hid (RB.out 10 (read_ten (by rw [← h10]; exact hall.out) (by omega)))
          have e1 : decide (k < t.size) = false := by simp; omega
          have e2 : ((k : Int) == 10) = true := by simp; omega
          clear RB RO hk' h10
          go_wp2_with (fail)
          exact bodyPost_ret (v := ruint t 0) (by rw [RBx.out]; simp [results, go_sem]) rfl ⟨rfl, HB.out _ _⟩
        · have hall2 : ∀ y ∈ natsOf t, 128 ≤ y := by
            have := hall.out
            rw [hk', ← hl, List.take_length] at this
            exact this
          have RBx := Lib.hid (RB.out 16 (read_short hall2 (by omega)))
          have e1 : decide (k < t.size) = false := by simp; omega
          have e2 : ((k : Int) == 10) = false := by simp; omega
          have e3 : ((k : Int) == (t.size : Int)) = true := by simp; omega
          have e4 : (k == t.size) = true := by simp; omega
          clear RB RO hk' h10 hall2
          go_wp2_with (fail)
          exact bodyPost_ret (v := ruint t 0) (by rw [RBx.out]; simp [results, go_sem]) rfl ⟨rfl, HB.out _ _⟩
  · have R : Hid (ruint t e = .tuple #[.agg #[.string t, .int .i64 (e : Nat)], .int .u64 0]) := by
      show _ = _
      unfold ruint
      rw [ruint_err t he]
      simp [rin, strOf_natsOf]
    have t1 : ((e : Int) == 0) = false := by simp; omega
    have t2 : ((e : Int) != 0) = true := by simp; omega
    clear he
    go_enter Tryd.func40, Tryd.ntmps40
    go_wp2_with (fail)
    exact bodyPost_ret (v := ruint t e) (by rw [R.out]; simp [results, go_sem]) rfl ⟨rfl, hb2 _ _⟩
end Go.Proofs.YtoipokjoklhfjaaDoor
