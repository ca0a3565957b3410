/-
  Layer 12: the document's with.
-/
import Derived.Test.YtokochkjjlbnkaaTrB
import Derived.BigQuiet
namespace Go.Proofs.Ytokochkjjlbnkaa
open Go.RowKit trm

/-- a row, in whatever world lies behind -/
theorem RRow.in_ {w : World} {A : Option Addr} {l : T} (h : RRow w A l) {j : Nat} (hj : j < l.length) : ∃ b off, A = some ⟨b, off, none⟩ ∧ ∀ W, Below w.heap.size w W → W.cell? ⟨b, off + j * 2, none⟩ = some (.int .i64 l[j].1) ∧ W.cell? ⟨b, off + j * 2 + 1, none⟩ = some (.int .i64 l[j].2) := by
  obtain ⟨b, off, e, h1, h2⟩ := h.at_ hj
  exact ⟨b, off, e, fun W hb => ⟨(hb.cell (World.block_lt_of_cell? w _ h1)).trans h1, (hb.cell (World.block_lt_of_cell? w _ h2)).trans h2⟩⟩
theorem Row.in_ {α : Type} {enc : α → Value} {w : World} {A : Option Addr} {l : List α} (h : Row enc w A l) {j : Nat} (hj : j < l.length) : ∃ b off, A = some ⟨b, off, none⟩ ∧ ∀ W, Below w.heap.size w W → W.cell? ⟨b, off + j, none⟩ = some (enc l[j]) := by
  obtain ⟨b, off, e, h1⟩ := h.at_ hj
  exact ⟨b, off, e, fun W hb => (hb.cell (World.block_lt_of_cell? w _ h1)).trans h1⟩
theorem ahead_take {t : T} {r : Int × Int} {K : Int} {k : Nat} (hk : k < t.length) : trm.ahead r K (t.take (k + 1)) = if t[k].1 = K then trm.ahead r K (t.take k) ++ [r] ++ [t[k]] else trm.ahead r K (t.take k) ++ [t[k]] := by
  unfold trm.ahead
  rw [List.take_succ_eq_append_getElem hk, List.flatMap_append]
  by_cases h : t[k].1 = K <;> simp [h]
theorem ahead_le (r : Int × Int) (K : Int) (t : T) : (trm.ahead r K t).length ≤ 2 * t.length := by
  unfold trm.ahead
  induction t with
  | nil => simp
  | cons x t ih =>
    rw [List.flatMap_cons, List.length_append, List.length_cons]
    have h : (if x.1 = K then [r, x] else [x]).length ≤ 2 := by split <;> simp
    omega
theorem ids_take {t : T} {K : Int} {k : Nat} (hk : k < t.length) : decide (K ∈ ids (t.take (k + 1))) = if t[k].1 = K then true else decide (K ∈ ids (t.take k)) := by
  unfold ids
  rw [List.take_succ_eq_append_getElem hk, List.map_append]
  by_cases h : t[k].1 = K
  · rw [if_pos h, decide_eq_true]
    simp [h]
  · rw [if_neg h]
    simp [Ne.symm h]

set_option maxRecDepth 100000 in
set_option maxHeartbeats 2000000 in
theorem dwith1 (A : Option Addr) (t : T) (c : Nat) (i p : Int) (n : Nat) (w : World) (hr : RRow w A t) (hn : t.length ≤ 10000) (hl : n < (kids t p).length) :
    Calls Try.prog 58 #[.slice A t.length c, .agg #[.int .i64 i, .int .i64 p], .int .i64 n] w (RowsQ (put (i, p) n t) w) := by
  have e : put (i, p) n t = trm.ahead (i, p) (kids t p)[n] t := by unfold put; exact dif_pos hl
  have hin : (kids t p)[n] ∈ ids t := mem_ids.2 ⟨p, mem_kids.1 (List.getElem_mem hl)⟩
  have hlt2 := Nat.lt_of_lt_of_le hl (Nat.le_trans (kids_le t p) hn)
  rw [e]
  clear e
  unfold RowsQ
  obtain ⟨M, hM⟩ : ∃ M, kids t p = M := ⟨_, rfl⟩
  have HC := Lib.hid (fun w hr => dkids A t c p w hr (by omega))
  rw [hM] at HC
  have hlM : n < M.length := by rw [← hM]; exact hl
  obtain ⟨K, hK⟩ : ∃ K, (kids t p)[n] = K := ⟨_, rfl⟩
  have hKM : M[n] = K := by subst hM; exact hK
  rw [hK] at hin ⊢
  have hml : M.length ≤ 10000 := by rw [← hM]; exact Nat.le_trans (kids_le t p) hn
  have HM := Lib.hid (And.intro hlM (And.intro hKM hml))
  have HR := Lib.hid hr
  have HN := Lib.hid hn
  have HI := Lib.hid hin
  clear hr hn hin hl hK hM hKM hml
  go_enter Try.func58, Try.ntmps58
  have hw0 : Below w.heap.size w (w.alloc (.cells #[.int .i64 i, .int .i64 p] 94)) := (Below.refl _ _).alloc (Nat.le_refl _) _
  have HW0 := Lib.hid hw0
  clear hw0
  go_wp2_with (fail)
  refine (HC.out _ (HR.out.below HW0.out)).mono ?_
  rintro e w1 ⟨v, rfl, hown, hb⟩
  obtain ⟨vA, vc, rfl, h1, h2, hrow⟩ := hown.irow
  have HB1 : Hid (Below w.heap.size w w1) := HW0.out.trans (hb.mono HW0.out.size)
  have HX : Hid (Blk w1 w.heap.size [.int .i64 i, .int .i64 p]) := (blk_new w [.int .i64 i, .int .i64 p] 94).below hb (by simp)
  have HKR := Lib.hid hrow
  clear hown h1 h2 hrow hb HC HW0
  go_wp2_with (fail)
  go_loopw [8, 9, 10] (fun v f x wr => ∃ k : Nat, k ≤ t.length ∧ x = .int .i64 k ∧ f = .bool (decide (K ∈ ids (t.take k))) ∧ Hid (ROwn wr w1.heap.size v (trm.ahead (i, p) K (t.take k))) ∧ Hid (Below w1.heap.size w1 wr)) (fun _ _ x _ => t.length - (intOf x).toNat)
  case atStart => exact ⟨0, Nat.zero_le _, rfl, rfl, SOwn.nil _ _, Below.refl _ _⟩
  case round =>
    obtain ⟨k, hk, rfl, rfl, HO, HB⟩ := hrel
    by_cases hlt : k < t.length
    · have t1 : decide (k < t.length) = true := by simpa using hlt
      have t2 : decide (n < M.length) = true := by simpa using HM.out.1
      obtain ⟨b, o, rA, k12⟩ := RRow.in_ (HR.out.below HB1.out) hlt
      obtain ⟨b2, o2, rA2, k3'⟩ := HKR.out.in_ HM.out.1
      rw [HM.out.2.1] at k3'
      unfold eI at k3'
      subst rA rA2
      have HS := Lib.hid (ahead_take (r := (i, p)) (K := K) hlt)
      have HS3 := Lib.hid (ids_take (K := K) hlt)
      have HL : Hid ((trm.ahead (i, p) K (t.take k)).length ≤ 100000) := by
        have := ahead_le (i, p) K (t.take k)
        have h2 := HN.out
        show _ ≤ _
        rw [List.length_take] at this
        omega
      have HK := Lib.hid (show k ≤ 10000 by have := HN.out; omega)
      obtain ⟨l1, hl1⟩ : ∃ x, trm.ahead (i, p) K (t.take (k + 1)) = x := ⟨_, rfl⟩
      obtain ⟨f1, hf1⟩ : ∃ x, decide (K ∈ ids (t.take (k + 1))) = x := ⟨_, rfl⟩
      have HL1 := Lib.hid hl1
      have HF1 := Lib.hid hf1
      rw [hl1] at HS
      rw [hf1] at HS3
      clear hl1 hf1
      generalize t[k] = r at *
      obtain ⟨x, y⟩ := r
      simp only at k12 HS HS3
      have H12 := Lib.hid k12
      have k3 := k3' _ HB.out
      obtain ⟨k1, k2⟩ := k12 _ HB.out
      clear k3' k12
      generalize trm.ahead (i, p) K (t.take k) = l at *
      generalize decide (K ∈ ids (t.take k)) = f0 at *
      have hnb : (n : Int) ≤ 10000 := by have := HM.out; omega
      by_cases e : x = K
      · have HS2 := Lib.hid (HS.out.trans (if_pos e))
        have HS4 := Lib.hid (HS3.out.trans (if_pos e))
        have q : (x == K) = true := by simpa using e
        have hkb : (k : Int) ≤ 10000 := by have := HK.out; omega
        clear HS HS3 e HK
        go_wp2_with (fail)
        go_quiet (fail)
        have HBz0 : Hid (∀ m, Below w1.heap.size w1 (wr.drewN m)) := fun m => Below.drewN' HB.out m
        have HOz0 : Hid (∀ m, ROwn (wr.drewN m) w1.heap.size u8 l) := fun _ => HO.out
        generalize hwz : World.drewN wr _ = wz at *
        have HBz : Hid (Below w1.heap.size w1 wz) := by rw [← hwz]; exact HBz0.out _
        have HOz : Hid (ROwn wz w1.heap.size u8 l) := by rw [← hwz]; exact HOz0.out _
        have HX2 : Hid (Blk wz w.heap.size [.int .i64 i, .int .i64 p]) := HX.out.below HBz.out HX.out.inside
        obtain ⟨v', w7, hrun, own7, hgr, hat⟩ := app_row1 HOz.out i p (c := 1) (by have := HL.out; omega) HBz.out.size
        have HB7 : Hid (Below w1.heap.size w1 w7) := (HBz.out.alloc HBz.out.size _).grown hgr (by have := HBz.out.size; simp; omega) (fun j hj => (HOz.out.block hj).1)
        obtain ⟨v'', w8, hrun2, own8, hgr2, hat2⟩ := app_row1 own7 x y (c := 1) (by have := HL.out; simp; omega) HB7.out.size
        have HB8 : Hid (Below w1.heap.size w1 w8) := (HB7.out.alloc HB7.out.size _).grown hgr2 (by have := HB7.out.size; simp; omega) (fun j hj => (own7.block hj).1)
        have HO8 : Hid (ROwn w8 w1.heap.size v'' l1) := by rw [HS2.out]; exact own8
        obtain ⟨g1, g2⟩ := H12.out _ HB7.out
        obtain ⟨⟨x0, x1⟩, -, xi⟩ := HX2.out.c2
        clear hwz own7 own8 hgr hgr2 hat hat2 HO HB HOz HBz HBz0 HOz0 k1 k2 k3
        go_wp2_with (at_builtin; refine wpl_append rfl _ _ 28 28 28 rfl rfl _ _ _ _ rfl rfl hrun ?_; clear hrun; try (have hrun := hrun2; clear hrun2))
        go_roundw
        case rel => exact ⟨k + 1, by omega, by go_num, by rw [HF1.out, HS4.out], by rw [HL1.out]; exact HO8, HB8⟩
        case measure => simp [intOf]; omega
      · have HS2 := Lib.hid (HS.out.trans (if_neg e))
        have HS4 := Lib.hid (HS3.out.trans (if_neg e))
        have q : (x == K) = false := by simpa using e
        have hkb : (k : Int) ≤ 10000 := by have := HK.out; omega
        clear HS HS3 e HK
        go_wp2_with (fail)
        go_quiet (fail)
        have HBz0 : Hid (∀ m, Below w1.heap.size w1 (wr.drewN m)) := fun m => Below.drewN' HB.out m
        have HOz0 : Hid (∀ m, ROwn (wr.drewN m) w1.heap.size u8 l) := fun _ => HO.out
        generalize hwz : World.drewN wr _ = wz at *
        have HBz : Hid (Below w1.heap.size w1 wz) := by rw [← hwz]; exact HBz0.out _
        have HOz : Hid (ROwn wz w1.heap.size u8 l) := by rw [← hwz]; exact HOz0.out _
        obtain ⟨v', w7, hrun, own7, hgr, hat⟩ := app_row1 HOz.out x y (c := 1) (by have := HL.out; omega) HBz.out.size
        have HB7 : Hid (Below w1.heap.size w1 w7) := (HBz.out.alloc HBz.out.size _).grown hgr (by have := HBz.out.size; simp; omega) (fun j hj => (HOz.out.block hj).1)
        have HO7 : Hid (ROwn w7 w1.heap.size v' l1) := by rw [HS2.out]; exact own7
        obtain ⟨g1, g2⟩ := H12.out _ HBz.out
        clear hwz own7 hgr hat HO HB HOz HBz HBz0 HOz0 k1 k2 k3
        go_wp2_with (at_builtin; refine wpl_append rfl _ _ 28 28 28 rfl rfl _ _ _ _ rfl rfl hrun ?_; clear hrun)
        go_roundw
        case rel => exact ⟨k + 1, by omega, by go_num, by rw [HF1.out, HS4.out], by rw [HL1.out]; exact HO7, HB7⟩
        case measure => simp [intOf]; omega
    · obtain rfl : k = t.length := by omega
      have hO := HO.out
      have hi := decide_eq_true HI.out
      rw [List.take_length] at hO ⊢
      have HO2 := Lib.hid hO
      have t1 : decide (t.length < t.length) = false := by simp
      rw [hi]
      clear hO HO hi
      go_wp2_with (fail)
      go_ret
      exact ⟨_, rfl, SOwn.weaken HO2.out HB1.out.size, HB1.out.trans (HB.out.mono HB1.out.size)⟩
end Go.Proofs.Ytokochkjjlbnkaa
