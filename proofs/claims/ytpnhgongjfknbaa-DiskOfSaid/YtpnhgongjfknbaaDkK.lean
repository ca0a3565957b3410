/-
  The contract of a file's crash.
-/
import Derived.Test.YtpnhgongjfknbaaDkJ
import Derived.Laws.BitsAllLaws
namespace Go.Proofs.Ytpnhgongjfknbaa
open Go.RowKit omap

/-- a choice: what stays, which byte, how it is altered -/
structure Ch where
  k : Nat
  a : Nat
  f : Nat
def Ch.v (c : Ch) : Value := .agg #[.int .u64 (c.k : Nat), .int .u64 (c.a : Nat), .int .u8 (c.f : Nat)]
structure Ch.ok (c : Ch) : Prop where
  k : c.k < 18446744073709551616
  a : c.a < 18446744073709551616
  f : c.f < 256
def keepOf (c : Ch) (f : Fl) : Nat := c.k % (f.l.length - f.s + 1)
def crashF (c : Ch) (f : Fl) : Fl :=
  ⟨if keepOf c f = 0 then f.l.take f.s else (f.l.take (f.s + keepOf c f)).set (f.s + c.a % keepOf c f) (f.l.getD (f.s + c.a % keepOf c f) 0 ^^^ c.f), f.s + keepOf c f⟩
theorem keepOf_le (c : Ch) (f : Fl) : keepOf c f ≤ f.l.length - f.s := by
  unfold keepOf
  have := Nat.mod_lt c.k (show 0 < f.l.length - f.s + 1 by omega)
  omega
theorem crashF_length {c : Ch} {f : Fl} (h : f.s ≤ f.l.length) : (crashF c f).l.length = f.s + keepOf c f := by
  have := keepOf_le c f
  unfold crashF
  simp only
  split
  · rename_i h0
    rw [List.length_take, h0]
    omega
  · rw [List.length_set, List.length_take]
    omega
theorem xor_lt {a b : Nat} (ha : a < 256) (hb : b < 256) : a ^^^ b < 256 := Nat.xor_lt_two_pow (n := 8) ha hb
theorem crashF_bytes {c : Ch} {f : Fl} (hc : c.f < 256) (h : AreBytes f.l) : AreBytes (crashF c f).l := by
  unfold crashF
  simp only
  split
  · exact h.take _
  · intro z hz
    rcases List.mem_or_eq_of_mem_set hz with hz | rfl
    · exact h.take _ z hz
    · refine xor_lt ?_ hc
      rw [List.getD_eq_getElem?_getD]
      rcases Nat.lt_or_ge (f.s + c.a % keepOf c f) f.l.length with h1 | h1
      · rw [List.getElem?_eq_getElem h1]
        exact h _ (List.getElem_mem h1)
      · rw [List.getElem?_eq_none h1]
        decide
/-- the first ones of what is owned -/
theorem Own.first {w : World} {base G n c : Nat} {l : List Nat} (h : Own w base (.slice (some ⟨G, 0, none⟩) n c) l) {k : Nat} (hk : k ≤ l.length) : Own w base (.slice (some ⟨G, 0, none⟩) k c) (l.take k) := by
  rcases h.2 with ⟨hn, _⟩ | ⟨g, cap, cur, hv, hg, hgg, hlc, hcm, hcs, htake⟩
  · cases hn
  · simp only [Value.slice.injEq, Option.some.injEq, Addr.mk.injEq, and_true] at hv
    obtain ⟨rfl, hn, rfl⟩ := hv
    refine ⟨by simp, .inr ⟨G, c, cur, by rw [List.length_take, Nat.min_eq_left hk], hg, hgg, by rw [List.length_take]; omega, hcm, hcs, ?_⟩⟩
    rw [List.length_take, Nat.min_eq_left hk, Nat.mul_one]
    rw [Nat.mul_one] at htake
    rw [List.map_take, ← htake, List.take_take, Nat.min_eq_left hk]
theorem Own.put {w : World} {base G n c : Nat} {l : List Nat} (h : Own w base (.slice (some ⟨G, 0, none⟩) n c) l) (i : Nat) (z : Nat) : Own (w.setCell ⟨G, i, none⟩ (.int .u8 (z : Nat))) base (.slice (some ⟨G, 0, none⟩) n c) (l.set i z) := by
  rcases h.2 with ⟨hn, _⟩ | ⟨g, cap, cur, hv, hg, hgg, hlc, hcm, hcs, htake⟩
  · cases hn
  · simp only [Value.slice.injEq, Option.some.injEq, Addr.mk.injEq, and_true] at hv
    obtain ⟨rfl, hn, rfl⟩ := hv
    have hb : Blk w G cur.toList := ⟨_, by simpa using hgg⟩
    obtain ⟨T, hT⟩ := hb.set i (.int .u8 (z : Nat))
    have hsame : T = 5 := by
      have hlt := hb.inside
      have h' : w.heap[G] = .cells cur 5 (0, 0) := by simpa [Array.getElem?_eq_getElem hlt] using hgg
      have : (w.setCell ⟨G, i, none⟩ (.int .u8 (z : Nat))).heap[G]? = some (.cells (cur.setIfInBounds i (.int .u8 (z : Nat))) 5 (0, 0)) := by
        show (w.heap.modify G _)[G]? = _
        rw [Array.getElem?_eq_getElem (by simpa using hlt), Array.getElem_modify_self, h']
        rfl
      rw [this] at hT
      simp only [Option.some.injEq, Obj.cells.injEq] at hT
      exact hT.2.1.symm
    subst hsame
    refine ⟨by simp, .inr ⟨G, c, _, by rw [List.length_set, hn], hg, hT, by rw [List.length_set]; exact hlc, hcm, by simpa using hcs, ?_⟩⟩
    rw [List.length_set, Nat.mul_one]
    rw [Nat.mul_one] at htake
    rw [List.toList_toArray, List.take_set, htake, List.map_set]
/-- where what is owned lies -/
theorem Own.lies {w : World} {base : Nat} {v : Value} {l : List Nat} (h : Own w base v l) : (v = .slice none 0 0 ∧ l = []) ∨ ∃ G c, v = .slice (some ⟨G, 0, none⟩) l.length c ∧ l.length ≤ c ∧ c ≤ maxLen ∧ (∀ j (hj : j < l.length), w.cell? ⟨G, j, none⟩ = some (.int .u8 (l[j] : Nat))) ∧ (∀ j, w.frozen? ⟨G, j, none⟩ = false) := by
  rcases h.2 with ⟨rfl, h0⟩ | ⟨G, c, cur, rfl, hg, hgg, hlc, hcm, hcs, htake⟩
  · exact .inl ⟨rfl, List.eq_nil_of_length_eq_zero h0⟩
  · refine .inr ⟨G, c, rfl, hlc, hcm, fun j hj => ?_, fun j => frozen_of_row _ _ _ _ _ hgg⟩
    have := World.ownsRow.cells h (g := G) rfl j (.int .u8 (l[j] : Nat)) (by simp [hj])
    have hadd : (⟨G, 0, none⟩ : Addr).add j = ⟨G, j, none⟩ := by unfold Addr.add; split <;> simp_all
    rw [hadd] at this
    exact this
theorem Blk.below' {w w' : World} {g : Nat} {cs : List Value} (h : Blk w g cs) (hb : Below w.heap.size w w') : Blk w' g cs := h.stays (hb.block g h.inside)
/-- what a file's crash leaves -/
def Crashed (w : World) (b m : Nat) (p : Pw) (cap used : Nat) (es : Es) (k : Nm) (e : Ent) (c : Ch) (r : Ending) (w' : World) : Prop :=
  r = .returned (.int .i64 ((e.f.l.length - e.f.s - keepOf c e.f : Nat) : Int)) ∧ ∃ e', e'.g = e.g ∧ e'.f = crashF c e.f ∧ Raw w' b m p cap used (omap.put lt k e' es) ∧ Turn (foot b m es) (foot b m (omap.put lt k e' es)) w w'

set_option maxRecDepth 100000 in
set_option maxHeartbeats 4000000 in
theorem crash_any (b m : Nat) (p : Pw) (cap used : Nat) (es : Es) (k : Nm) (e : Ent) (c : Ch) (w : World) (h : Raw w b m p cap used es) (hk : omap.look es k = some e) (hc : c.ok) (hsz : e.f.l.length ≤ 67108864) :
    Calls Try.prog 42 #[.pointer (some ⟨e.g, 0, none⟩), c.v] w (Crashed w b m p cap used es k e c) := by
  have hf := h.file hk
  have H := Lib.hid h
  have HK := Lib.hid hk
  have hown := hf.own
  obtain ⟨kk, ka, kf⟩ := c
  obtain ⟨g, v, l, s⟩ := e
  have f0 := hf.blk.cell 0
  have f1 := hf.blk.cell 1
  have fr0 := hf.blk.free 0
  have fr1 := hf.blk.free 1
  have hsl := hf.s_le
  have hgl := hf.blk.inside
  simp only [List.getElem?_cons_zero, List.getElem?_cons_succ] at f0 f1 fr0 fr1 hsl hown hsz hgl ⊢
  obtain ⟨T, hT⟩ : ∃ T, T = l.length - s := ⟨_, rfl⟩
  have hlT : l.length = s + T := by omega
  obtain ⟨q, hq⟩ : ∃ q, q = keepOf ⟨kk, ka, kf⟩ ⟨l, s⟩ := ⟨_, rfl⟩
  have hqT : q ≤ T := by rw [hq, hT]; exact keepOf_le _ _
  have hqe : (kk : Int) % ((T : Int) + 1) = (q : Int) := by
    rw [hq]
    unfold keepOf
    rw [← hT]
    simp
  have HQ := Lib.hid hq
  have HT := Lib.hid hlT
  have hTb : (T : Int) ≤ 67108864 := by omega
  have hsb : (s : Int) ≤ 67108864 := by omega
  have hkb : (kk : Int) ≤ 18446744073709551615 := by have := hc.k; simp only at this; omega
  unfold Ch.v
  simp only at hc ⊢
  rcases hown.lies with ⟨rfl, rfl⟩ | ⟨G, c, rfl, hlc, hcm, hcell, hfz⟩
  · obtain rfl : s = 0 := by simpa using hsl
    obtain rfl : T = 0 := by simpa using hT
    obtain rfl : q = 0 := by omega
    have HF := Lib.hid hf
    have HKF := Lib.hid hc.f
    clear hown hf hk h hsz hsl hq hT hlT hkb hc
    go_enter Try.func42, Try.ntmps42
    go_wp2_with (fail)
    go_quiet (fail)
    obtain ⟨B, hB⟩ : ∃ B, B = w.heap.size := ⟨_, rfl⟩
    have hbx : ∀ i, ((w.alloc (.cells #[.int .u64 (kk : Nat), .int .u64 (ka : Nat), .int .u8 (kf : Nat)] 74)).drewN nq).cell? ⟨B, i, none⟩ = #[Value.int .u64 (kk : Nat), .int .u64 (ka : Nat), .int .u8 (kf : Nat)][i]? := fun i => by
      rw [hB]
      exact cell_of_row _ _ i _ _ _ (heap_alloc_new w _)
    have hBw : Below w.heap.size w ((w.alloc (.cells #[.int .u64 (kk : Nat), .int .u64 (ka : Nat), .int .u8 (kf : Nat)] 74)).drewN nq) := ⟨rfl, rfl, rfl, by simp, fun k hk => Below.heap_alloc _ _ _ hk⟩
    have b0 := hbx 0
    have e0 := (hBw.cell (p := ⟨g, 0, none⟩) hgl).trans f0
    have e1 := (hBw.cell (p := ⟨g, 1, none⟩) hgl).trans f1
    have g0 := (hBw.frozen (p := ⟨g, 0, none⟩) hgl).trans fr0
    have g1 := (hBw.frozen (p := ⟨g, 1, none⟩) hgl).trans fr1
    have HBW := Lib.hid hBw
    rw [← hB]
    generalize (w.alloc (.cells #[.int .u64 (kk : Nat), .int .u64 (ka : Nat), .int .u8 (kf : Nat)] 74)).drewN nq = w1 at *
    have hBg : B ≠ g := by omega
    clear hbx hBw f0 f1 fr0 fr1 hB
    simp only [List.getElem?_toArray, List.getElem?_cons_zero] at b0
    go_wp2_with (fail)
    go_region
    go_wp2_with (fail)
    go_ret
    refine ⟨?_, ?_⟩
    · rw [← HQ.out]
      rfl
    · have hw1 := H.out.below HBW.out
      have hkf : kf < 256 := HKF.out
      have hcf : (crashF ⟨kk, ka, kf⟩ ⟨[], 0⟩) = ⟨[], 0⟩ := by
        unfold crashF
        rw [← HQ.out, if_pos rfl]
        rfl
      have own1 : Own w1 0 (.slice none 0 (0)) [] := HF.out.own.below HBW.out
      have own3 : Own w1 0 (.slice none 0 (0)) ([]) := own1
      have hb := HF.out.blk.below' HBW.out
      refine ⟨⟨g, .slice none 0 (0), crashF ⟨kk, ka, kf⟩ ⟨[], 0⟩⟩, rfl, rfl, ?_⟩
      have hu := hw1.upd (w' := ((w1.setCell ⟨g, 0, none⟩ (.slice none 0 (0))).setCell ⟨g, 1, none⟩ (.int .i64 0)).drew) HK.out
        (e' := ⟨g, .slice none 0 (0), crashF ⟨kk, ka, kf⟩ ⟨[], 0⟩⟩) rfl ⟨?_, ?_, crashF_bytes hkf HF.out.bytes, by rw [crashF_length HF.out.s_le]; exact Nat.le_refl _⟩ (fun _ h => .inl h) ?_
      · exact ⟨hu.1, (Turn.below HBW.out).trans hu.2⟩
      · rw [hcf]
        exact ((hb.set 0 _).set 1 _).stays rfl
      · rw [hcf]
        simp only
        exact (own3.stays fun x hx => by
          cases hx).stays fun _ _ => rfl
      · refine ((Turn.set (a := ⟨g, 0, none⟩) ?_ _).trans (Turn.set (a := ⟨g, 1, none⟩) ?_ _)).trans (Turn.below (Below.refl _ _).drew)
        · simp [Ent.own]
        · simp [Ent.own]
  · obtain ⟨C, hC⟩ : ∃ C, c = s + C := ⟨c - s, by omega⟩
    subst hC
    rw [hlT] at f0
    have hTC : T ≤ C := by omega
    have hCm : (s : Int) + (C : Int) ≤ 9223372036854775807 := by unfold maxLen at hcm; omega
    have hGg : G ≠ g := fun e1 => by
      have := (h.split hk).1
      simp [Ent.own, Value.ownBlock, e1] at this
    by_cases hq0 : q = 0
    · subst hq0
      have HCM := Lib.hid hCm
      have hqe : (kk : Int) % ((T : Int) + 1) = 0 := hqe
      clear hcell hfz hcm hlc hCm hqT
      rcases Nat.eq_zero_or_pos C with hC0 | hC0
      · subst hC0
        obtain rfl : T = 0 := by omega
        have HF := Lib.hid hf
        have HKF := Lib.hid hc.f
        clear hown hf hk h hsz hsl hq hT hlT hkb hc
        go_enter Try.func42, Try.ntmps42
        go_wp2_with (fail)
        go_quiet (fail)
        obtain ⟨B, hB⟩ : ∃ B, B = w.heap.size := ⟨_, rfl⟩
        have hbx : ∀ i, ((w.alloc (.cells #[.int .u64 (kk : Nat), .int .u64 (ka : Nat), .int .u8 (kf : Nat)] 74)).drewN nq).cell? ⟨B, i, none⟩ = #[Value.int .u64 (kk : Nat), .int .u64 (ka : Nat), .int .u8 (kf : Nat)][i]? := fun i => by
          rw [hB]
          exact cell_of_row _ _ i _ _ _ (heap_alloc_new w _)
        have hBw : Below w.heap.size w ((w.alloc (.cells #[.int .u64 (kk : Nat), .int .u64 (ka : Nat), .int .u8 (kf : Nat)] 74)).drewN nq) := ⟨rfl, rfl, rfl, by simp, fun k hk => Below.heap_alloc _ _ _ hk⟩
        have b0 := hbx 0
        have e0 := (hBw.cell (p := ⟨g, 0, none⟩) hgl).trans f0
        have e1 := (hBw.cell (p := ⟨g, 1, none⟩) hgl).trans f1
        have g0 := (hBw.frozen (p := ⟨g, 0, none⟩) hgl).trans fr0
        have g1 := (hBw.frozen (p := ⟨g, 1, none⟩) hgl).trans fr1
        have HBW := Lib.hid hBw
        rw [← hB]
        generalize (w.alloc (.cells #[.int .u64 (kk : Nat), .int .u64 (ka : Nat), .int .u8 (kf : Nat)] 74)).drewN nq = w1 at *
        have hBg : B ≠ g := by omega
        clear hbx hBw f0 f1 fr0 fr1 hB
        simp only [List.getElem?_toArray, List.getElem?_cons_zero] at b0
        go_wp2_with (fail)
        go_region
        go_wp2_with (fail)
        go_ret
        refine ⟨?_, ?_⟩
        · rw [← HQ.out]
          rw [show l.length - s = 0 by have := HT.out; omega]
          rfl
        · have hw1 := H.out.below HBW.out
          have hkf : kf < 256 := HKF.out
          have hcf : (crashF ⟨kk, ka, kf⟩ ⟨l, s⟩) = ⟨l.take s, s⟩ := by
            unfold crashF
            rw [← HQ.out, if_pos rfl]
            rfl
          have own1 : Own w1 0 (.slice (some ⟨G, 0, none⟩) l.length (s)) l := HF.out.own.below HBW.out
          have own3 : Own w1 0 (.slice (some ⟨G, 0, none⟩) s (s)) (l.take s) := by
            have h1 := own1.first (k := s) HF.out.s_le
            exact h1
          have hb := HF.out.blk.below' HBW.out
          refine ⟨⟨g, .slice (some ⟨G, 0, none⟩) s (s), crashF ⟨kk, ka, kf⟩ ⟨l, s⟩⟩, rfl, rfl, ?_⟩
          have hu := hw1.upd (w' := ((w1.setCell ⟨g, 0, none⟩ (.slice (some ⟨G, 0, none⟩) s (s))).setCell ⟨g, 1, none⟩ (.int .i64 (s : Nat))).drew) HK.out
            (e' := ⟨g, .slice (some ⟨G, 0, none⟩) s (s), crashF ⟨kk, ka, kf⟩ ⟨l, s⟩⟩) rfl ⟨?_, ?_, crashF_bytes hkf HF.out.bytes, by rw [crashF_length HF.out.s_le]; exact Nat.le_refl _⟩ (fun _ h => .inl h) ?_
          · exact ⟨hu.1, (Turn.below HBW.out).trans hu.2⟩
          · rw [hcf]
            exact ((hb.set 0 _).set 1 _).stays rfl
          · rw [hcf]
            simp only
            exact (own3.stays fun x hx => by
              have : x = G := (Option.some.inj hx).symm
              subst this
              exact (heap_setCell_other _ _ _ _ hGg).trans (heap_setCell_other _ _ _ _ hGg)).stays fun _ _ => rfl
          · refine ((Turn.set (a := ⟨g, 0, none⟩) ?_ _).trans (Turn.set (a := ⟨g, 1, none⟩) ?_ _)).trans (Turn.below (Below.refl _ _).drew)
            · simp [Ent.own]
            · simp [Ent.own]

      · have hCd : decide (C = 0) = false := by simp; omega
        have HF := Lib.hid hf
        have HKF := Lib.hid hc.f
        clear hown hf hk h hsz hsl hq hT hlT hkb hc
        go_enter Try.func42, Try.ntmps42
        go_wp2_with (fail)
        go_quiet (fail)
        obtain ⟨B, hB⟩ : ∃ B, B = w.heap.size := ⟨_, rfl⟩
        have hbx : ∀ i, ((w.alloc (.cells #[.int .u64 (kk : Nat), .int .u64 (ka : Nat), .int .u8 (kf : Nat)] 74)).drewN nq).cell? ⟨B, i, none⟩ = #[Value.int .u64 (kk : Nat), .int .u64 (ka : Nat), .int .u8 (kf : Nat)][i]? := fun i => by
          rw [hB]
          exact cell_of_row _ _ i _ _ _ (heap_alloc_new w _)
        have hBw : Below w.heap.size w ((w.alloc (.cells #[.int .u64 (kk : Nat), .int .u64 (ka : Nat), .int .u8 (kf : Nat)] 74)).drewN nq) := ⟨rfl, rfl, rfl, by simp, fun k hk => Below.heap_alloc _ _ _ hk⟩
        have b0 := hbx 0
        have e0 := (hBw.cell (p := ⟨g, 0, none⟩) hgl).trans f0
        have e1 := (hBw.cell (p := ⟨g, 1, none⟩) hgl).trans f1
        have g0 := (hBw.frozen (p := ⟨g, 0, none⟩) hgl).trans fr0
        have g1 := (hBw.frozen (p := ⟨g, 1, none⟩) hgl).trans fr1
        have HBW := Lib.hid hBw
        rw [← hB]
        generalize (w.alloc (.cells #[.int .u64 (kk : Nat), .int .u64 (ka : Nat), .int .u8 (kf : Nat)] 74)).drewN nq = w1 at *
        have hBg : B ≠ g := by omega
        clear hbx hBw f0 f1 fr0 fr1 hB
        simp only [List.getElem?_toArray, List.getElem?_cons_zero] at b0
        go_wp2_with (fail)
        go_region
        go_wp2_with (fail)
        go_ret
        refine ⟨?_, ?_⟩
        · rw [← HQ.out]
          rw [show l.length - s = T by have := HT.out; omega]
          rfl
        · have hw1 := H.out.below HBW.out
          have hkf : kf < 256 := HKF.out
          have hcf : (crashF ⟨kk, ka, kf⟩ ⟨l, s⟩) = ⟨l.take s, s⟩ := by
            unfold crashF
            rw [← HQ.out, if_pos rfl]
            rfl
          have own1 : Own w1 0 (.slice (some ⟨G, 0, none⟩) l.length (s + C)) l := HF.out.own.below HBW.out
          have own3 : Own w1 0 (.slice (some ⟨G, 0, none⟩) s (s + C)) (l.take s) := by
            have h1 := own1.first (k := s) HF.out.s_le
            exact h1
          have hb := HF.out.blk.below' HBW.out
          refine ⟨⟨g, .slice (some ⟨G, 0, none⟩) s (s + C), crashF ⟨kk, ka, kf⟩ ⟨l, s⟩⟩, rfl, rfl, ?_⟩
          have hu := hw1.upd (w' := ((w1.setCell ⟨g, 0, none⟩ (.slice (some ⟨G, 0, none⟩) s (s + C))).setCell ⟨g, 1, none⟩ (.int .i64 (s : Nat))).drew) HK.out
            (e' := ⟨g, .slice (some ⟨G, 0, none⟩) s (s + C), crashF ⟨kk, ka, kf⟩ ⟨l, s⟩⟩) rfl ⟨?_, ?_, crashF_bytes hkf HF.out.bytes, by rw [crashF_length HF.out.s_le]; exact Nat.le_refl _⟩ (fun _ h => .inl h) ?_
          · exact ⟨hu.1, (Turn.below HBW.out).trans hu.2⟩
          · rw [hcf]
            exact ((hb.set 0 _).set 1 _).stays rfl
          · rw [hcf]
            simp only
            exact (own3.stays fun x hx => by
              have : x = G := (Option.some.inj hx).symm
              subst this
              exact (heap_setCell_other _ _ _ _ hGg).trans (heap_setCell_other _ _ _ _ hGg)).stays fun _ _ => rfl
          · refine ((Turn.set (a := ⟨g, 0, none⟩) ?_ _).trans (Turn.set (a := ⟨g, 1, none⟩) ?_ _)).trans (Turn.below (Below.refl _ _).drew)
            · simp [Ent.own]
            · simp [Ent.own]
    · obtain ⟨j, hj⟩ : ∃ j, j = ka % q := ⟨_, rfl⟩
      have hjq : j < q := by rw [hj]; exact Nat.mod_lt _ (by omega)
      have hje : (ka : Int) % (q : Int) = (j : Int) := by rw [hj]; simp
      have hje2 : (ka : Int).tmod (q : Int) = (j : Int) := by rw [Int.tmod_eq_emod_of_nonneg (by omega)]; exact hje
      have HJ := Lib.hid hj
      have hjl : s + j < l.length := by omega
      have cj := hcell (s + j) hjl
      have frj := hfz (s + j)
      have hz := hf.bytes.at_ hjl
      obtain ⟨z, hzz⟩ : ∃ z, z = l.getD (s + j) 0 := ⟨_, rfl⟩
      have hzg : l[s + j] = z := by rw [hzz, List.getD_eq_getElem?_getD, List.getElem?_eq_getElem hjl]; rfl
      rw [hzg] at cj hz
      have hx := u8_xor_nat z kf hz hc.f
      have hC0 : decide (C = 0) = false := by simp; omega
      have t1 : decide (0 < q) = true := by simp; omega
      have hgG : g ≠ G := fun e1 => hGg e1.symm
      have hGl : G < w.heap.size := World.block_lt_of_cell? w _ cj
      have HZ := Lib.hid hzz
      have HX := Lib.hid hx
      have HF := Lib.hid hf
      have HKF := Lib.hid hc.f
      have HCM := Lib.hid hCm
      have HKB := Lib.hid hkb
      clear hzg hcell hfz hj hq hT hlT hjl hz hzz hx hown hf hk h hsz hcm hlc hkb hCm hc hsl
      go_enter Try.func42, Try.ntmps42
      go_wp2_with (fail)
      go_quiet (fail)
      obtain ⟨B, hB⟩ : ∃ B, B = w.heap.size := ⟨_, rfl⟩
      have hbx : ∀ i, ((w.alloc (.cells #[.int .u64 (kk : Nat), .int .u64 (ka : Nat), .int .u8 (kf : Nat)] 74)).drewN nq).cell? ⟨B, i, none⟩ = #[Value.int .u64 (kk : Nat), .int .u64 (ka : Nat), .int .u8 (kf : Nat)][i]? := fun i => by
        rw [hB]
        exact cell_of_row _ _ i _ _ _ (heap_alloc_new w _)
      have hBw : Below w.heap.size w ((w.alloc (.cells #[.int .u64 (kk : Nat), .int .u64 (ka : Nat), .int .u8 (kf : Nat)] 74)).drewN nq) := ⟨rfl, rfl, rfl, by simp, fun k hk => Below.heap_alloc _ _ _ hk⟩
      have b0 := hbx 0
      have b1 := hbx 1
      have b2 := hbx 2
      have e0 := (hBw.cell (p := ⟨g, 0, none⟩) hgl).trans f0
      have e1 := (hBw.cell (p := ⟨g, 1, none⟩) hgl).trans f1
      have e2 := (hBw.cell (p := ⟨G, s + j, none⟩) hGl).trans cj
      have g0 := (hBw.frozen (p := ⟨g, 0, none⟩) hgl).trans fr0
      have g1 := (hBw.frozen (p := ⟨g, 1, none⟩) hgl).trans fr1
      have g2 := (hBw.frozen (p := ⟨G, s + j, none⟩) hGl).trans frj
      have HBW := Lib.hid hBw
      rw [← hB]
      generalize (w.alloc (.cells #[.int .u64 (kk : Nat), .int .u64 (ka : Nat), .int .u8 (kf : Nat)] 74)).drewN nq = w1 at *
      have hBg : B ≠ g := by omega
      have hBG : B ≠ G := by omega
      clear hbx hBw f0 f1 cj fr0 fr1 frj hB
      simp only [List.getElem?_toArray, List.getElem?_cons_zero, List.getElem?_cons_succ] at b0 b1 b2
      go_wp2_with (fail)
      go_region
      go_wp2_with (fail)
      go_region
      go_wp2_with (fail)
      go_ret
      have e1 : (T : Int) - (q : Int) = ((T - q : Nat) : Int) := by omega
      refine ⟨?_, ?_⟩
      · rw [← HQ.out, show l.length - s = T by have := HT.out; omega, ← e1]
        rfl
      · have hw1 := H.out.below HBW.out
        have hlen := HT.out
        have hkf : kf < 256 := HKF.out
        have hy : bits .xor .u8 (z : Int) (kf : Int) = ((z ^^^ kf : Nat) : Int) := HX.out
        have hcf : (crashF ⟨kk, ka, kf⟩ ⟨l, s⟩) = ⟨(l.take (s + q)).set (s + j) (z ^^^ kf), s + q⟩ := by
          unfold crashF
          rw [← HQ.out, if_neg hq0, ← HJ.out, ← HZ.out]
        have own1 : Own w1 0 (.slice (some ⟨G, 0, none⟩) l.length (s + C)) l := HF.out.own.below HBW.out
        have own2 := own1.put (s + j) (z ^^^ kf)
        have own3 := own2.first (k := s + q) (by rw [List.length_set]; omega)
        rw [List.take_set] at own3
        have hb := (HF.out.blk.below' HBW.out)
        rw [hy]
        refine ⟨⟨g, .slice (some ⟨G, 0, none⟩) (s + q) (s + C), crashF ⟨kk, ka, kf⟩ ⟨l, s⟩⟩, rfl, rfl, ?_⟩
        rw [show ((s : Int) + (q : Int)) = ((s + q : Nat) : Int) by omega]
        have hu := hw1.upd (w' := ((((w1.setCell ⟨G, s + j, none⟩ (.int .u8 ((z ^^^ kf : Nat) : Int))).setCell ⟨g, 0, none⟩ (.slice (some ⟨G, 0, none⟩) (s + q) (s + C))).setCell ⟨g, 1, none⟩ (.int .i64 ((s + q : Nat) : Int))).drew.drew)) HK.out
          (e' := ⟨g, .slice (some ⟨G, 0, none⟩) (s + q) (s + C), crashF ⟨kk, ka, kf⟩ ⟨l, s⟩⟩) rfl ⟨?_, ?_, crashF_bytes hkf HF.out.bytes, by rw [crashF_length (by simp only; omega)]; exact Nat.le_refl _⟩ (fun _ h => .inl h) ?_
        · exact ⟨hu.1, (Turn.below HBW.out).trans hu.2⟩
        · rw [hcf]
          exact (((hb.stays (heap_setCell_other _ _ _ _ hgG)).set 0 _).set 1 _).stays rfl
        · rw [hcf]
          simp only
          exact (own3.stays fun x hx => by
            have : x = G := (Option.some.inj hx).symm
            subst this
            exact (heap_setCell_other _ _ _ _ hGg).trans (heap_setCell_other _ _ _ _ hGg)).stays fun _ _ => rfl
        · refine ((((Turn.set (a := ⟨G, s + j, none⟩) ?_ _).trans (Turn.set (a := ⟨g, 0, none⟩) ?_ _)).trans (Turn.set (a := ⟨g, 1, none⟩) ?_ _)).trans (Turn.below ((Below.refl _ _).drew.drew)))
          · simp [Ent.own, Value.ownBlock]
          · simp [Ent.own]
          · simp [Ent.own]
end Go.Proofs.Ytpnhgongjfknbaa
