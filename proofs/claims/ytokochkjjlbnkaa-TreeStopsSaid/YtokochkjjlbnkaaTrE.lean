/-
  Layer 12: the document's Walk.
-/
import Derived.Test.YtokochkjjlbnkaaTrD
namespace Go.Proofs.Ytokochkjjlbnkaa
open Go.RowKit trm

theorem walk_le {t : T} (ok : Ok t) {i : Int} (hi : i = 0 ∨ i ∈ ids t) : (trm.walk t i).length ≤ t.length + 1 := by
  rw [← walk_len ok]
  refine len_of_sub (walk_nodup ok i) fun x hx => walk_all ok |>.2 ?_
  rcases (walk_mem ok hi).1 hx with rfl | h
  · exact has_iff.2 hi
  · exact has_iff.2 (.inr (within_has h).1)
theorem flat_take_le {l : List Int} (f : Int → List Int) (k : Nat) : ((l.take k).flatMap f).length ≤ (l.flatMap f).length := by
  conv => rhs; rw [← List.take_append_drop k l]
  rw [List.flatMap_append, List.length_append]
  omega
theorem walk_some {t : T} (ok : Ok t) (i : Int) : 0 < (trm.walk t i).length := by rw [walk_eq ok]; simp
theorem SOwn.base {α : Type} {T : TypeId} {k : Nat} {enc : α → List Value} {w : World} {base : Nat} {A : Option Addr} {n c : Nat} {l : List α} (h : SOwn T k enc w base (.slice A n c) l) {b o : Nat} (e : A = some ⟨b, o, none⟩) : base ≤ b ∧ b < w.heap.size := by
  rcases h.2 with ⟨h1, _⟩ | ⟨g, cap, cur, h1, hg, hb, _⟩
  · injection h1 with h1 _ _
    rw [h1] at e
    cases e
  · injection h1 with h1 _ _
    rw [h1] at e
    injection e with e
    injection e with e1 _ _
    subst e1
    exact ⟨hg, lt_of_block hb⟩
/-- a slice of numbers, appended whole -/
theorem app_int {w : World} {base : Nat} {v : Value} {l : List Int} (h : IOwn w base v l) {g o c : Nat} {xs : List Int} (hx : Row eI w (some ⟨g, o, none⟩) xs) (hn : l.length + xs.length ≤ 900000000) (hbase : base ≤ w.heap.size) :
    ∃ v' w', (Builtin.append_ #[35, 35] 35 #[v, .slice (some ⟨g, o, none⟩) xs.length c]).run Try.prog w = .ok v' w' ∧ IOwn w' base v' (l ++ xs) ∧
      w.grownBy w' v.ownBlock ∧ (v'.ownBlock = v.ownBlock ∨ v'.ownBlock = some w.heap.size) :=
  SOwn.app (P := Try.prog) Try.underlying35 info_int rfl (by decide) (by decide) ic_len ic_plain h (fun _ hn => by
    obtain ⟨b, off, e, hc⟩ := hx hn
    refine ⟨b, off, e, fun j hj i v hv => ?_⟩
    have hi : i = 0 := by have := (List.getElem?_eq_some_iff.1 hv).1; simp [ic] at this; exact this
    subst hi
    rw [Nat.mul_one, Nat.add_zero, hc j hj]
    exact hv) (by omega) hbase

set_option maxRecDepth 100000 in
set_option maxHeartbeats 1000000 in
theorem dwalk (A : Option Addr) (t : T) (c : Nat) (ok : Ok t) (hn : t.length ≤ 10000) (k : Nat) : ∀ (i : Int) (w : World), RRow w A t → (i = 0 ∨ i ∈ ids t) → t.length + 1 ≤ k + depth t i →
    Calls Try.prog 13 #[.slice A t.length c, .int .i64 i] w (KidsQ (trm.walk t i) w) := by
  have HOK := Lib.hid ok
  have HP := Lib.hid (fun i w hr => dkids A t c i w hr (by omega))
  have HN := Lib.hid hn
  clear ok hn
  unfold KidsQ
  induction k with
  | zero =>
    intro i w hr hi hd
    have := depth_le HOK.out hi
    omega
  | succ k ih =>
    intro i w hr hi hd
    have HI : Hid (∀ x ∈ kids t i, ∀ w, RRow w A t → Calls Try.prog 13 #[.slice A t.length c, .int .i64 x] w (KidsQ (trm.walk t x) w)) := fun x hx w hr =>
      ih x w hr (.inr (HOK.out.kid hx).1) (by rw [depth_kid HOK.out hx]; omega)
    have HW : Hid (trm.walk t i = i :: (kids t i).flatMap (trm.walk t)) := walk_eq HOK.out
    have HLW : Hid ((trm.walk t i).length ≤ 10001) := by have := walk_le HOK.out hi; have := HN.out; show _ ≤ _; omega
    have HK := Lib.hid (fun w hr => HP.out i w hr)
    have HXW : Hid (∀ x ∈ kids t i, (trm.walk t x).length ≤ 10001 ∧ 0 < (trm.walk t x).length) := fun x hx => ⟨by have := walk_le HOK.out (.inr (HOK.out.kid hx).1); have := HN.out; omega, walk_some HOK.out x⟩
    have HKL : Hid ((kids t i).length ≤ 10000) := Nat.le_trans (kids_le t i) HN.out
    have HR := Lib.hid hr
    clear ih hi hd hr HP HOK HN
    generalize trm.walk t i = R at *
    generalize kids t i = L at *
    go_enter Try.func13, Try.ntmps13
    have hw0 : Below w.heap.size w (w.alloc (.cells #[.int .i64 i] 3)) := (Below.refl _ _).alloc (Nat.le_refl _) _
    have HW0 := Lib.hid hw0
    have HO0 : Hid (IOwn (w.alloc (.cells #[.int .i64 i] 3)) w.heap.size (.slice (some ⟨w.heap.size, 0, none⟩) 1 1) [i]) := SOwn.lit (enc := ic) ic_len w [i] (Nat.le_refl _) (by show 1 ≤ maxLen; decide)
    clear hw0
    go_wp2_with (fail)
    refine (HK.out _ (HR.out.below HW0.out)).mono ?_
    rintro e w1 ⟨v, rfl, hown, hb⟩
    obtain ⟨vA, vc, rfl, h1, h2, hrow⟩ := hown.irow
    have HB1 : Hid (Below w.heap.size w w1) := HW0.out.trans (hb.mono HW0.out.size)
    have HO1 : Hid (IOwn w1 w.heap.size (.slice (some ⟨w.heap.size, 0, none⟩) 1 1) [i]) := SOwn.below HO0.out hb
    have HKR := Lib.hid hrow
    have HKB0 : Hid (∀ b o, vA = some ⟨b, o, none⟩ → b ≠ w.heap.size ∧ b < w1.heap.size) := fun b o e => by
      have := SOwn.base hown e
      simp only [World.size_alloc] at this
      omega
    clear hown h1 h2 hrow hb HW0 HO0 HK
    go_wp2_with (fail)
    go_loopw [5, 7] (fun v x wr => ∃ k : Nat, k ≤ L.length ∧ x = .int .i64 k ∧ Hid (IOwn wr w.heap.size v (i :: (L.take k).flatMap (trm.walk t))) ∧ Hid (Below w.heap.size w wr) ∧ Hid (w1.heap.size ≤ wr.heap.size ∧ (∀ g, g < w1.heap.size → g ≠ w.heap.size → wr.heap[g]? = w1.heap[g]?) ∧ (∀ g, v.ownBlock = some g → g = w.heap.size ∨ w1.heap.size ≤ g))) (fun _ x _ => L.length - (intOf x).toNat)
    case atStart => exact ⟨0, Nat.zero_le _, rfl, HO1.out, HB1.out, Nat.le_refl _, fun _ _ _ => rfl, fun g hg => .inl (Option.some.inj (show some w.heap.size = some g from hg)).symm⟩
    case round =>
      obtain ⟨k, hk, rfl, HO, HB, HG⟩ := hrel
      by_cases hlt : k < L.length
      · have t1 : decide (k < L.length) = true := by simpa using hlt
        obtain ⟨b, o, rA, k1⟩ := HKR.out.at_ hlt
        have hbb := HKB0.out b o rA
        subst rA
        have hcell : wr.cell? ⟨b, o + k, none⟩ = w1.cell? ⟨b, o + k, none⟩ := by simp only [World.cell?, HG.out.2.1 b hbb.2 hbb.1]
        rw [← hcell] at k1
        clear hcell hbb
        unfold eI at k1
        have HS : Hid (i :: (L.take (k + 1)).flatMap (trm.walk t) = (i :: (L.take k).flatMap (trm.walk t)) ++ trm.walk t L[k]) := by
          show _ = _
          rw [List.take_succ_eq_append_getElem hlt, List.flatMap_append]
          simp
        have HL : Hid ((i :: (L.take k).flatMap (trm.walk t)).length ≤ 10001) := by
          have h1 := flat_take_le (l := L) (trm.walk t) k
          have h2 := HLW.out
          rw [HW.out] at h2
          show _ ≤ _
          rw [List.length_cons] at h2 ⊢
          omega
        have HKB := Lib.hid (show k ≤ 10000 by have := HKL.out; omega)
        have HIX := Lib.hid (fun w hr => HI.out _ (List.getElem_mem hlt) w hr)
        have HXL := Lib.hid (HXW.out _ (List.getElem_mem hlt))
        obtain ⟨l1, hl1⟩ : ∃ x, i :: (L.take (k + 1)).flatMap (trm.walk t) = x := ⟨_, rfl⟩
        have HL1 := Lib.hid hl1
        rw [hl1] at HS
        clear hl1
        generalize trm.walk t L[k] = wk at *
        generalize L[k] = x at *
        generalize i :: (L.take k).flatMap (trm.walk t) = l at *
        have hkb : (k : Int) ≤ 10000 := by have := HKB.out; omega
        go_wp2_with (fail)
        refine (HIX.out _ (HR.out.below HB.out)).mono ?_
        rintro e w2 ⟨v, rfl, hown, hb⟩
        obtain ⟨vA, vc2, rfl, h1, h2, hrow⟩ := hown.irow
        obtain ⟨b3, o3, rfl, -⟩ := hrow.at_ HXL.out.2
        have HB2 : Hid (Below w.heap.size w w2) := HB.out.trans (hb.mono HB.out.size)
        obtain ⟨v', w7, hrun, own7, hgr, hat⟩ := app_int (c := vc2) (SOwn.below HO.out hb) hrow (by have := HL.out; have := HXL.out.1; omega) HB2.out.size
        have HB7 : Hid (Below w.heap.size w w7) := HB2.out.grown hgr HB2.out.size (fun j hj => (SOwn.block HO.out hj).1)
        have HG7 : Hid (w1.heap.size ≤ w7.heap.size ∧ (∀ g, g < w1.heap.size → g ≠ w.heap.size → w7.heap[g]? = w1.heap[g]?) ∧ (∀ g, v'.ownBlock = some g → g = w.heap.size ∨ w1.heap.size ≤ g)) := by
          obtain ⟨q1, q2, q3⟩ := HG.out
          have q4 := hb.size
          have q5 := hgr.size
          refine ⟨by omega, fun g h1 h2 => ?_, fun g hg => ?_⟩
          · rw [hgr.block g (by omega) (fun e => by have := q3 g e.symm; omega), hb.block g (by omega)]
            exact q2 g h1 h2
          · rcases hat with h | h
            · exact q3 g (h ▸ hg)
            · rw [h] at hg
              injection hg with hg
              omega
        have HO7 : Hid (IOwn w7 w.heap.size v' l1) := by rw [HS.out]; exact own7
        clear own7 hgr hat HO HB HG h1 h2 hown hb hrow HB2
        go_wp2_with (at_builtin; refine wpl_append rfl _ _ 35 35 35 rfl rfl _ _ _ _ rfl rfl hrun ?_; clear hrun)
        go_roundw
        case rel => exact ⟨k + 1, by omega, by go_num, by rw [HL1.out]; exact HO7, HB7, HG7⟩
        case measure => simp [intOf]; omega
      · obtain rfl : k = L.length := by omega
        have hO := HO.out
        rw [List.take_length, ← HW.out] at hO
        have HO2 := Lib.hid hO
        have t1 : decide (L.length < L.length) = false := by simp
        clear hO HO
        go_wp2_with (fail)
        go_ret
        exact ⟨_, rfl, HO2.out, HB.out⟩
end Go.Proofs.Ytokochkjjlbnkaa
