/-
  The walk of the law CrcBurst.
-/
import Derived.Test.YtmogbmgambmaoaaDoorCrcApp
import Derived.RegionTactic
namespace Go.Proofs.YtmogbmgambmaoaaDoor
open Go.RowKit crcm

/-- a row of the call's own that may be written -/
structure Row (w : World) (g : Nat) (m : List Nat) : Prop where
  cell : ∀ j (h : j < m.length), w.cell? ⟨g, j, none⟩ = some (.int .u8 (m[j] : Nat))
  free : ∀ j, w.frozen? ⟨g, j, none⟩ = false

theorem Row.set {w : World} {g : Nat} {m : List Nat} (h : Row w g m) {j : Nat} (hj : j < m.length) (z : Nat) : Row (w.setCell ⟨g, j, none⟩ (.int .u8 (z : Nat))).drew g (m.set j z) := by
  refine ⟨fun i hi => ?_, fun i => by simp [h.free i]⟩
  have hi' : i < m.length := by simpa using hi
  rw [World.cell?_drew]
  by_cases e : j = i
  · subst e
    rw [World.cell?_setCell_same _ _ _ (h.cell j hj)]
    simp
  · rw [World.cell?_setCell_other _ _ _ _ (fun hh => e (by injection hh)), h.cell i hi']
    simp [e]
theorem Row.bs {w : World} {g : Nat} {m : List Nat} (h : Row w g m) : Bs w (some ⟨g, 0, none⟩) m := fun _ => ⟨g, 0, rfl, fun j hj => by rw [Nat.zero_add]; exact h.cell j hj⟩
theorem turn_byte {z s : Nat} (hz : z < 256) (hs : s < 8) : bits .xor .u8 (z : Int) (2 ^ s % 256) = ((z ^^^ 2 ^ s : Nat) : Int) := by
  have h : 2 ^ s < 256 := Nat.lt_of_lt_of_le (Nat.pow_lt_pow_right (by omega) hs) (by decide)
  have e : (2 : Int) ^ s % 256 = ((2 ^ s : Nat) : Int) := by
    have : (2 : Int) ^ s = ((2 ^ s : Nat) : Int) := by simp
    rw [this]
    generalize 2 ^ s = x at *
    omega
  rw [e]
  exact u8_xor_nat z (2 ^ s) hz h
theorem turn_val {V E t k j s : Nat} (h : j * 8 + s = t + k) : (V ^^^ E * 2 ^ t) ^^^ 2 ^ s * 256 ^ j = V ^^^ (E ^^^ 2 ^ k) * 2 ^ t := by
  have e1 : 2 ^ s * 256 ^ j = 2 ^ k * 2 ^ t := by
    rw [show (256 : Nat) = 2 ^ 8 from rfl, ← Nat.pow_mul, ← Nat.pow_add, ← Nat.pow_add]
    congr 1
    omega
  have e2 : (E ^^^ 2 ^ k) * 2 ^ t = E * 2 ^ t ^^^ 2 ^ k * 2 ^ t := by
    have := Nat.shiftLeft_xor_distrib (a := E) (b := 2 ^ k) (i := t)
    simpa [Nat.shiftLeft_eq] using this
  rw [e1, e2, Nat.xor_assoc]
theorem turn_lt {E k : Nat} (h : E < 2 ^ k) : E ^^^ 2 ^ k < 2 ^ (k + 1) :=
  Nat.xor_lt_two_pow (Nat.lt_of_lt_of_le h (Nat.pow_le_pow_right (by omega) (by omega))) (Nat.pow_lt_pow_right (by omega) (by omega))
theorem turn_ne {E k : Nat} (h : E < 2 ^ k) : E ^^^ 2 ^ k ≠ 0 := fun hx => by
  have he : E = 2 ^ k := by
    have := congrArg (· ^^^ 2 ^ k) hx
    simpa [Nat.xor_assoc] using this
  omega
theorem own_row {w : World} {base : Nat} {v : Value} {l : List Nat} (h : Own w base v l) (h0 : 0 < l.length) : ∃ g c, v = .slice (some ⟨g, 0, none⟩) l.length c ∧ base ≤ g ∧ l.length ≤ c ∧ c ≤ maxLen ∧ Row w g l := by
  rcases h.2 with ⟨rfl, h00⟩ | ⟨g, cap, cur, rfl, hg, hgg, hlc, hcm, hcs, htake⟩
  · omega
  · refine ⟨g, cap, rfl, hg, hlc, hcm, fun j hj => ?_, fun j => by simp [World.frozen?, hgg]⟩
    have := h.cells (g := g) rfl j (.int .u8 (l[j] : Nat)) (by simp [hj])
    have hadd : (⟨g, 0, none⟩ : Addr).add j = ⟨g, j, none⟩ := by unfold Addr.add; split <;> simp_all
    rw [hadd] at this
    exact this

set_option maxHeartbeats 1000000 in
theorem burst_walk (p : Part) (t B : Nat) (w : World) (hp : p.ok w) (ht : TabAt w) (h1 : p.l.length ≤ 2000) (h2 : t < 8 * p.l.length) (h3 : B ≠ 0) (h4 : B < 4294967296) :
    Calls Tryd.prog 5 #[.slice p.a p.l.length p.c, .int .i64 t, .int .u32 B] w fun e w' => e = .returned (.bool true) ∧ Below w.heap.size w w' := by
  obtain ⟨pa, pl, pc⟩ := p
  simp only at h1 h2 ⊢
  have hpos : 0 < pl.length := by omega
  have t1 : decide ((2000 : Int) < (pl.length : Int)) = false := by simp; omega
  have t2 : decide ((t : Int) < 0) = false := by simp
  have t3 : decide (8 * (pl.length : Int) ≤ (t : Int)) = false := by simp; omega
  have t4 : ((B : Int) == 0) = false := by simp; omega
  have hB0 : Below w.heap.size w (w.alloc (.cells #[] 5)) := (Below.refl _ _).alloc (Nat.le_refl _) _
  obtain ⟨v1, w1, run1, own1, b1⟩ := app_run _ _ _ _ (own_new w) ⟨pa, pl, pc⟩ (hp.below hB0) (by simp; try omega) (by simp)
  simp only [List.nil_append] at run1 own1
  have bb1 := hB0.trans b1
  go_enter Tryd.func5, Tryd.ntmps5
  go_wp2_with (at_builtin; refine wpList_append_run rfl _ _ 22 22 rfl rfl _ _ _ _ rfl rfl run1 ?_)
  obtain ⟨g, c, rfl, hg, hlc, hcm, hrow⟩ := own_row own1 hpos
  have hcm' : c ≤ 9223372036854775807 := by unfold maxLen at hcm; omega
  have hbytes : AreBytes pl := hp.bytes
  clear own1 run1 b1 hB0 hcm t1 t2 t3 t4
  go_loopw [8, 33] (fun d i wr => ∃ (k E : Nat) (D : Bool) (m : List Nat), k ≤ 32 ∧ i = .int .i64 k ∧ d = .bool D ∧ Hid (D = decide (E ≠ 0)) ∧ Hid (E < 2 ^ k) ∧ Hid (m.length = pl.length) ∧ AreBytes m ∧ Hid (val m = val pl ^^^ E * 2 ^ t) ∧ Row wr g m ∧
    Below w.heap.size w wr) (fun _ i _ => 32 - (intOf i).toNat)
  case atStart => exact ⟨0, 0, false, pl, by omega, rfl, rfl, rfl, (by decide : 0 < 2 ^ 0), rfl, hbytes, by rw [Nat.zero_mul, Nat.xor_zero]; rfl, hrow, bb1⟩
  case round =>
    obtain ⟨k, E, D, m, hk, rfl, rfl, hD, hE, hml, hmb, hval, hrw, hbw⟩ := hrel
    clear hrow bb1
    by_cases hk32 : k < 32
    · have hle : B / 2 ^ k ≤ B := Nat.div_le_self _ _
      have hbq : Hid (bits .and .u32 ((B : Int) / 2 ^ k) 1 = ((B / 2 ^ k % 2 : Nat) : Int)) := by
        have e : (B : Int) / 2 ^ k = ((B / 2 ^ k : Nat) : Int) := by simp
        have := u32_and_nat (B / 2 ^ k) 1 (by omega) (by omega)
        rw [nat_mask1] at this
        rw [e]
        exact this
      clear hle
      by_cases hbit : B / 2 ^ k % 2 = 1
      · have hb : bits .and .u32 ((B : Int) / 2 ^ k) 1 = 1 := by rw [hbq.out, hbit]; rfl
        clear hbit hbq
        by_cases hin : t + k < 8 * pl.length
        · have hin' : decide ((t : Int) + (k : Int) < 8 * (pl.length : Int)) = true := by simp; omega
          have hjl : (t + k) / 8 < pl.length := by omega
          have hjm : (t + k) / 8 < m.length := by have := hml.out; omega
          have hs8 : (t + k) % 8 < 8 := by omega
          have hjs : Hid ((t + k) / 8 * 8 + (t + k) % 8 = t + k) := by unfold Hid; omega
          have ej : ((t : Int) + (k : Int)) / 8 = (((t + k) / 8 : Nat) : Int) := by omega
          have es : ((t : Int) + (k : Int)) % 8 = (((t + k) % 8 : Nat) : Int) := by omega
          have hcj := hrw.cell _ hjm
          have hfj := hrw.free ((t + k) / 8)
          have hbj := hmb.at_ hjm
          have hset := Lib.hid (fun y => val_set m ((t + k) / 8) y hjm)
          have hsetl : Hid (∀ z, (m.set ((t + k) / 8) z).length = pl.length) := fun z => by rw [List.length_set]; exact hml.out
          generalize m[(t + k) / 8] = mj at *
          generalize (t + k) / 8 = j at *
          generalize (t + k) % 8 = s at *
          have hij : (j : Int) < (pl.length : Int) := by omega
          go_wp2
          go_region
          all_goals go_wp2
          go_roundw
          case rel =>
            rw [turn_byte hbj hs8]
            exact ⟨k + 1, E ^^^ 2 ^ k, true, m.set j (mj ^^^ 2 ^ s), by omega, by go_num, rfl, (by simp [turn_ne hE.out] : true = decide (E ^^^ 2 ^ k ≠ 0)), turn_lt hE.out, hsetl.out _,
              fun z hz => (List.mem_or_eq_of_mem_set hz).elim (hmb z) (fun e => by rw [e]; exact Nat.xor_lt_two_pow (n := 8) hbj (Nat.pow_lt_pow_right (by omega) hs8)),
              (by rw [hset.out, hval.out, turn_val hjs.out] : val (m.set j (mj ^^^ 2 ^ s)) = val pl ^^^ (E ^^^ 2 ^ k) * 2 ^ t), hrw.set hjm _, (hbw.setCell hg _).drew⟩
          case measure => simp [intOf]; omega
        · have hin' : decide ((t : Int) + (k : Int) < 8 * (pl.length : Int)) = false := by simp; omega
          clear hin
          go_wp2
          go_roundw
          case rel => exact ⟨k + 1, E, D, m, by omega, by go_num, rfl, hD, (Nat.lt_of_lt_of_le hE.out (Nat.pow_le_pow_right (by omega) (by omega)) : E < 2 ^ (k + 1)), hml, hmb, hval, hrw, hbw⟩
          case measure => simp [intOf]; omega
      · have hb : bits .and .u32 ((B : Int) / 2 ^ k) 1 = 0 := by rw [hbq.out, show B / 2 ^ k % 2 = 0 by omega]; rfl
        clear hbit hbq
        go_wp2
        go_roundw
        case rel => exact ⟨k + 1, E, D, m, by omega, by go_num, rfl, hD, (Nat.lt_of_lt_of_le hE.out (Nat.pow_le_pow_right (by omega) (by omega)) : E < 2 ^ (k + 1)), hml, hmb, hval, hrw, hbw⟩
        case measure => simp [intOf]; omega
    · have hfin := crc_burst 4294967295 pl m t E hml.out hval.out (by omega) (Nat.lt_of_lt_of_le hE.out (by rw [show (4294967296 : Nat) = 2 ^ 32 from rfl]; exact Nat.pow_le_pow_right (by omega) hk))
      have hpw := hp.below hbw
      have htw := ht.below hbw
      have hml' := hml.out
      have hokm : (⟨some ⟨g, 0, none⟩, m, c⟩ : Part).ok wr := ⟨by simp only; omega, by simp only; unfold maxLen; omega, hrw.bs, hmb⟩
      go_wp2_with (fail)
      refine (sum_built wr [⟨pa, pl, pc⟩] _ rfl 1 1 rfl (by simp [maxLen]) (fun x hx => by
        simp at hx
        subst hx
        exact hpw) htw (0, 0)).mono ?_
      rintro e w3 ⟨rfl, hb3⟩
      have hbw3 := hbw.trans (hb3.mono hbw.size)
      have htw3 := htw.below hb3
      have hokm3 := hokm.below hb3
      have hl1 : bytesOf [⟨pa, pl, pc⟩] = pl := by simp [bytesOf]
      rw [hl1]
      clear hp hrw hb3 hbw htw hokm hl1
      have hsum : (sum pl = sum m) ↔ E = 0 := by
        rw [← hfin]
        unfold sum
        constructor
        · intro h
          have := congrArg (· ^^^ 4294967295) h
          simpa [Nat.xor_assoc] using this
        · intro h
          rw [h]
      clear hfin
      go_wp2_with (fail)
      refine (sum_built w3 [⟨some ⟨g, 0, none⟩, m, c⟩] _ (by simp [Part.v, hml']) 1 1 rfl (by simp [maxLen]) (fun x hx => by
        simp at hx
        subst hx
        exact hokm3) htw3 (0, 0)).mono ?_
      rintro e w4 ⟨rfl, hb4⟩
      have hbw4 := hbw3.trans (hb4.mono hbw3.size)
      have htw4 := htw3.below hb4
      have hl2 : bytesOf [⟨some ⟨g, 0, none⟩, m, c⟩] = m := by simp [bytesOf]
      rw [hl2]
      clear hl2 hokm3 hpw hb4 hml'
      by_cases hE0 : E = 0
      · rw [← hsum.2 hE0]
        obtain rfl : D = false := by rw [hD.out]; simp [hE0]
        clear hsum hE0
        go_wp2_with (fail)
        refine (awake_any w4 htw4).mono ?_
        rintro e w5 ⟨rfl, hb5⟩
        have hbw5 := hbw4.trans (hb5.mono hbw4.size)
        go_wp2
        go_ret
        exact ⟨rfl, hbw5⟩
      · have hne : ((sum pl : Nat) : Int) ≠ (sum m : Nat) := fun h => hE0 (hsum.1 (by omega))
        obtain rfl : D = true := by rw [hD.out]; simp [hE0]
        have hne' : (((sum pl : Nat) : Int) == (sum m : Nat)) = false := by simp; omega
        clear hsum hE0 hne
        go_wp2_with (fail)
        refine (awake_any w4 htw4).mono ?_
        rintro e w5 ⟨rfl, hb5⟩
        have hbw5 := hbw4.trans (hb5.mono hbw4.size)
        go_wp2
        go_ret
        exact ⟨rfl, hbw5⟩

set_option maxHeartbeats 1000000 in
theorem burst_walk_out (p : Part) (a b : Int) (w : World) (ht : TabAt w) (h : 2000 < p.l.length ∨ (p.l.length ≤ 2000 ∧ a < 0) ∨ (p.l.length ≤ 2000 ∧ 0 ≤ a ∧ 8 * (p.l.length : Int) ≤ a) ∨ (p.l.length ≤ 2000 ∧ 0 ≤ a ∧ a < 8 * (p.l.length : Int) ∧ b = 0)) :
    Calls Tryd.prog 5 #[.slice p.a p.l.length p.c, .int .i64 a, .int .u32 b] w fun e w' => e = .returned (.bool true) ∧ Below w.heap.size w w' := by
  obtain ⟨pa, pl, pc⟩ := p
  simp only at h ⊢
  rcases h with h | ⟨h0, h⟩ | ⟨h0, h1, h⟩ | ⟨h0, h1, h2, rfl⟩
  · have t1 : decide ((2000 : Int) < (pl.length : Int)) = true := by simp; omega
    clear h
    go_enter Tryd.func5, Tryd.ntmps5
    go_wp2_with (go_at_call 7; refine (awake_any w ht).mono ?_; rintro e w' ⟨rfl, hb⟩)
    go_ret
    exact ⟨rfl, hb⟩
  · have t1 : decide ((2000 : Int) < (pl.length : Int)) = false := by simp; omega
    have t2 : decide (a < 0) = true := by simp; omega
    go_enter Tryd.func5, Tryd.ntmps5
    go_wp2_with (go_at_call 7; refine (awake_any w ht).mono ?_; rintro e w' ⟨rfl, hb⟩)
    go_ret
    exact ⟨rfl, hb⟩
  · have t1 : decide ((2000 : Int) < (pl.length : Int)) = false := by simp; omega
    have t2 : decide (a < 0) = false := by simp; omega
    have t3 : decide (8 * (pl.length : Int) ≤ a) = true := by simp; omega
    go_enter Tryd.func5, Tryd.ntmps5
    go_wp2_with (go_at_call 7; refine (awake_any w ht).mono ?_; rintro e w' ⟨rfl, hb⟩)
    go_ret
    exact ⟨rfl, hb⟩
  · have t1 : decide ((2000 : Int) < (pl.length : Int)) = false := by simp; omega
    have t2 : decide (a < 0) = false := by simp; omega
    have t3 : decide (8 * (pl.length : Int) ≤ a) = false := by simp; omega
    go_enter Tryd.func5, Tryd.ntmps5
    go_wp2_with (go_at_call 7; refine (awake_any w ht).mono ?_; rintro e w' ⟨rfl, hb⟩)
    go_ret
    exact ⟨rfl, hb⟩

theorem crcBurst.walk (p : Part) (a b : Int) (w : World) (hp : p.ok w) (_wa : (Lit.int .i64 a).wf = true) (wb : (Lit.int .u32 b).wf = true) (ht : TabAt w) :
    Calls Tryd.prog 5 #[.slice p.a p.l.length p.c, .int .i64 a, .int .u32 b] w fun e w' => e = .returned (.bool true) ∧ Below w.heap.size w w' := by
  have hb : 0 ≤ b ∧ b ≤ 4294967295 := by simpa [Lit.wf, IntKind.min, IntKind.max, IntKind.signed, IntKind.bits] using wb
  by_cases h : p.l.length ≤ 2000 ∧ 0 ≤ a ∧ a < 8 * (p.l.length : Int) ∧ b ≠ 0
  · obtain ⟨h0, h1, h2, h3⟩ := h
    obtain ⟨t, rfl⟩ := Int.eq_ofNat_of_zero_le h1
    obtain ⟨B, rfl⟩ := Int.eq_ofNat_of_zero_le hb.1
    exact burst_walk p t B w hp ht h0 (by omega) (by omega) (by omega)
  · exact burst_walk_out p a b w ht (by omega)
end Go.Proofs.YtmogbmgambmaoaaDoor
