/-
  NodeLooks, walked.
-/
import Derived.Test.YtfmlecjobpdbbaaNodeChecksW
import Derived.Test.YtfmlecjobpdbbaaNdM
namespace Go.Proofs.Ytfmlecjobpdbbaa
open Go.RowKit pxm imm

theorem look_right {k W H : Int} {p : Nat} {iw ih : Int} {l : List Nat} (h : lkC k W H p iw ih l = 0) :
    (k = 0 ∧ W = 0 ∧ H = 0 ∧ p = 0 ∧ iw = 0 ∧ ih = 0 ∧ l = []) ∨ (k = 1 ∧ iw = 0 ∧ ih = 0 ∧ l = []) ∨ (k = 2 ∧ W = 0 ∧ H = 0 ∧ p = 0 ∧ wholeB iw ih l.length = true) := by
  have hF : ∀ b, fmC b = 0 → b = true := fun b hb => by
    cases b with
    | true => rfl
    | false => cases hb
  have hfill : hasF W H p = false → W = 0 ∧ H = 0 ∧ p = 0 := fun h => Decidable.not_not.1 (of_decide_eq_false h)
  have himg : hasI iw ih l = false → iw = 0 ∧ ih = 0 ∧ l = [] := fun h => by
    unfold hasI eqB at h
    simpa using h
  unfold lkC at h
  by_cases k0 : k = 0
  · rw [if_pos k0] at h
    have := hF _ h
    rw [Bool.and_eq_true, Bool.not_eq_true', Bool.not_eq_true'] at this
    obtain ⟨a1, a2, a3⟩ := hfill this.1
    obtain ⟨b1, b2, b3⟩ := himg this.2
    exact .inl ⟨k0, a1, a2, a3, b1, b2, b3⟩
  · rw [if_neg k0] at h
    by_cases k1 : k = 1
    · rw [if_pos k1] at h
      by_cases s : sidesB W H = true
      · rw [if_pos s] at h
        have := hF _ h
        rw [Bool.and_eq_true, Bool.not_eq_true'] at this
        obtain ⟨b1, b2, b3⟩ := himg this.2
        exact .inr (.inl ⟨k1, b1, b2, b3⟩)
      · rw [if_neg s] at h
        cases h
    · rw [if_neg k1] at h
      by_cases k2 : k = 2
      · rw [if_pos k2] at h
        have := hF _ h
        rw [Bool.and_eq_true, Bool.not_eq_true'] at this
        obtain ⟨a1, a2, a3⟩ := hfill this.2
        refine .inr (.inr ⟨k2, a1, a2, a3, ?_⟩)
        have h2 := this.1
        unfold smallB at h2
        rw [Bool.and_eq_true, decide_eq_true_eq, decide_eq_true_eq] at h2
        have h3 := h2.2
        unfold chk at h3
        by_cases s : sidesB iw ih = true
        · rw [if_pos s] at h3
          by_cases t : wholeB iw ih l.length = true
          · exact t
          · rw [if_neg t] at h3
            cases h3
        · rw [if_neg s] at h3
          cases h3
      · rw [if_neg k2] at h
        cases h
theorem look_sz {k W H : Int} {p : Nat} {iw ih : Int} {l : List Nat} (h : lkC k W H p iw ih l = 0) : dszW k W iw = szW k W iw ∧ dszW k H ih = szW k H ih := by
  unfold dszW szW
  rcases look_right h with ⟨rfl, rfl, rfl, -⟩ | ⟨rfl, -⟩ | ⟨rfl, -⟩ <;> exact ⟨rfl, rfl⟩
theorem look_at {k W H : Int} {p : Nat} {iw ih : Int} {l : List Nat} (h : lkC k W H p iw ih l = 0) (x y : Int) : dAt k W H p iw ih l x y = lkAt k W H p iw ih l x y := by
  have hs := look_sz h
  unfold dAt lkAt
  rw [hs.1, hs.2]
  rcases look_right h with ⟨rfl, -⟩ | ⟨rfl, -⟩ | ⟨rfl, -⟩
  · rfl
  · rfl
  · rw [if_pos rfl]
    rfl
theorem look_whole {k W H : Int} {p : Nat} {iw ih : Int} {l : List Nat} (h : lkC k W H p iw ih l = 0) (hk : k = 2) : wholeB iw ih l.length = true := by
  rcases look_right h with ⟨h2, -⟩ | ⟨h2, -⟩ | ⟨-, -, -, -, h2⟩
  · omega
  · omega
  · exact h2
theorem look_eq0 {k W H : Int} {p : Nat} {iw ih : Int} {l : List Nat} (h : lkC k W H p iw ih l = 0) (hk : ¬ k = 1) (hk2 : ¬ k = 2) : eqLk 0 0 0 0 0 0 [] k W H p iw ih l = true := by
  rcases look_right h with ⟨rfl, rfl, rfl, rfl, rfl, rfl, rfl⟩ | ⟨h2, -⟩ | ⟨h2, -⟩
  · decide
  · omega
  · omega
theorem look_eq1 {k W H : Int} {p : Nat} {iw ih : Int} {l : List Nat} (h : lkC k W H p iw ih l = 0) (hk : k = 1) : eqLk 1 W H p 0 0 [] k W H p iw ih l = true := by
  rcases look_right h with ⟨h2, -⟩ | ⟨rfl, rfl, rfl, rfl⟩ | ⟨h2, -⟩
  · omega
  · unfold eqLk eqB; simp
  · omega
theorem look_eq2 {k W H : Int} {p : Nat} {iw ih : Int} {l : List Nat} (h : lkC k W H p iw ih l = 0) (hk : k = 2) : eqLk 2 0 0 0 iw ih l k W H p iw ih l = true := by
  rcases look_right h with ⟨h2, -⟩ | ⟨h2, -⟩ | ⟨rfl, rfl, rfl, rfl, -⟩
  · omega
  · omega
  · unfold eqLk eqB; simp
theorem whole_pos {iw ih : Int} {n : Nat} (h : wholeB iw ih n = true) : 0 < n := by
  obtain ⟨h1, h2⟩ := whole_iff.1 h
  have := (mul_small h1).1
  omega
theorem Row.in_ {w : World} {A : Option Addr} {l : List Nat} (h : Row eW w A l) (hn : 0 < l.length) : ∀ b o, A = some ⟨b, o, none⟩ → b < w.heap.size := fun b o e => by
  obtain ⟨b2, o2, e2, h2⟩ := h hn
  have h3 := World.block_lt_of_cell? w ⟨b2, _, none⟩ (h2 0 hn)
  rw [e] at e2
  injection e2 with e2
  injection e2 with e3 _ _
  rw [e3]
  exact h3
def prC (q : Int × Int) : List Value := [.int .i64 q.1, .int .i64 q.2]
theorem pr_len (q : Int × Int) : (prC q).length = 2 := rfl
abbrev PRow (w : World) (A : Option Addr) (l : List (Int × Int)) : Prop := SRow 2 prC w A l
theorem PRow.at_ {w : World} {A : Option Addr} {l : List (Int × Int)} (h : PRow w A l) {j : Nat} (hj : j < l.length) : ∃ b off, A = some ⟨b, off, none⟩ ∧ w.cell? ⟨b, off + j * 2, none⟩ = some (.int .i64 l[j].1) ∧ w.cell? ⟨b, off + j * 2 + 1, none⟩ = some (.int .i64 l[j].2) := by
  obtain ⟨b, off, e, hc⟩ := h (by omega)
  exact ⟨b, off, e, hc j hj 0 _ rfl, hc j hj 1 _ rfl⟩
set_option maxHeartbeats 8000000 in
set_option maxRecDepth 100000 in
theorem looks_law (m : Mp) (op : Int) (hi cl : Bool) (r : Bx) (k W H : Int) (p : Nat) (iw ih : Int) (A : Option Addr) (l : List Nat) (c : Nat) (x y : Int) (w : World) (hp : p < 4294967296) (hr : Row eW w A l) (hc : l.length ≤ c ∧ c ≤ maxLen) (hz : ∀ z ∈ l, z < 4294967296) :
    Calls Try.prog 4 #[ndV m op hi cl r k W H p iw ih A l.length c, .int .i64 x, .int .i64 y] w fun e w' => e = .returned (.bool true) ∧ Below w.heap.size w w' := by
  have HA := Lib.hid (fun w => awake_any w)
  have hlen : l.length ≤ maxLen := Nat.le_trans hc.1 hc.2
  have hn3 : l.length ≤ 9223372036854775807 := by unfold maxLen at hlen; omega
  by_cases hbig : 1000 < l.length
  · have t : decide (1000 < (l.length : Int)) = true := by simp; omega
    clear hbig hlen hc hz hp hr
    unfold ndV
    go_enter Try.func4, Try.ntmps4
    go_wp2_with (fail)
    refine (HA.out _).mono ?_
    rintro e w1 ⟨rfl, hb⟩
    have HB := Lib.hid (bel1 hb)
    clear hb HA
    go_wp2_with (fail)
    go_ret
    exact ⟨rfl, HB.out⟩
  · have t : decide (1000 < (l.length : Int)) = false := by simp; omega
    have BR := Lib.hid (fun w hr => ref_any m op hi cl r k W H p iw ih A l c w hr (by omega))
    have BC := Lib.hid (fun A9 c9 w hr => dlook_any m op hi cl r k W H p iw ih A9 l c9 hp hz hlen w hr)
    unfold RefQ at BR
    by_cases hY : lkC k W H p iw ih l = 0
    · have BS := Lib.hid (fun w => size_any k W H p iw ih A l.length c w)
      have BD := Lib.hid (fun A9 c9 w => dsize_any m op hi cl r k W H p iw ih A9 l.length c9 w)
      have BA := Lib.hid (fun x y w hr => lkat_any k W H p iw ih A l c x y (look_whole hY) hlen w hr)
      have BE := Lib.hid (fun A9 c9 x y w hr => dat_any m op hi cl r k W H p iw ih A9 l c9 x y (look_whole hY) hlen w hr)
      have BI : Hid (∀ w, Row eW w A l → Calls Try.prog 18 #[.agg #[.int .i64 iw, .int .i64 ih, .slice A l.length c]] w fun e w' => ∃ A8 c8, e = .returned (.agg #[.int .i64 2, .int .i64 0, .int .i64 0, .int .u32 0, .int .i64 iw, .int .i64 ih, .slice A8 l.length c8]) ∧ Pxs w' w.heap.size A8 l c8 ∧ Below w.heap.size w w') := fun w hr => imageof_any iw ih A l c w hr (by omega)
      have BF := Lib.hid (fun w => fillof_any W H p w)
      have BP := Lib.hid aw_P0
      have E0 : Hid (¬ k = 1 → ¬ k = 2 → ∀ w, Row eW w A l → Calls Try.prog 19 #[.agg #[.int .i64 65536, .int .i64 0, .int .i64 0, .int .i64 65536, .int .i64 0, .int .i64 0, .int .i64 255, .bool false, .bool false, .int .i64 0, .int .i64 0, .int .i64 0, .int .i64 0, .int .i64 0, .int .i64 0, .int .i64 0, .int .u32 0, .int .i64 0, .int .i64 0, .slice none 0 0], .agg #[.int .i64 65536, .int .i64 0, .int .i64 0, .int .i64 65536, .int .i64 0, .int .i64 0, .int .i64 255, .bool false, .bool false, .int .i64 0, .int .i64 0, .int .i64 0, .int .i64 0, .int .i64 k, .int .i64 W, .int .i64 H, .int .u32 (p : Nat), .int .i64 iw, .int .i64 ih, .slice A l.length c]] w fun e w' => e = .returned (.bool true) ∧ Below w.heap.size w w') := fun h1 h2 w hr => by
        have h := ndequal_any Mp.one 255 false false Bx.o 0 0 0 0 0 0 none [] 0 Mp.one 255 false false Bx.o k W H p iw ih A l c (by simp) hlen w (Row.none_ rfl) hr
        rw [look_eq0 hY h1 h2] at h
        exact h
      have E1 : Hid (k = 1 → ∀ w, Row eW w A l → Calls Try.prog 19 #[.agg #[.int .i64 65536, .int .i64 0, .int .i64 0, .int .i64 65536, .int .i64 0, .int .i64 0, .int .i64 255, .bool false, .bool false, .int .i64 0, .int .i64 0, .int .i64 0, .int .i64 0, .int .i64 1, .int .i64 W, .int .i64 H, .int .u32 (p : Nat), .int .i64 0, .int .i64 0, .slice none 0 0], .agg #[.int .i64 65536, .int .i64 0, .int .i64 0, .int .i64 65536, .int .i64 0, .int .i64 0, .int .i64 255, .bool false, .bool false, .int .i64 0, .int .i64 0, .int .i64 0, .int .i64 0, .int .i64 k, .int .i64 W, .int .i64 H, .int .u32 (p : Nat), .int .i64 iw, .int .i64 ih, .slice A l.length c]] w fun e w' => e = .returned (.bool true) ∧ Below w.heap.size w w') := fun h1 w hr => by
        have h := ndequal_any Mp.one 255 false false Bx.o 1 W H p 0 0 none [] 0 Mp.one 255 false false Bx.o k W H p iw ih A l c (by simp) hlen w (Row.none_ rfl) hr
        rw [look_eq1 hY h1] at h
        exact h
      have E2 : Hid (∀ A8 c8, k = 2 → ∀ w, Row eW w A8 l → Row eW w A l → Calls Try.prog 19 #[.agg #[.int .i64 65536, .int .i64 0, .int .i64 0, .int .i64 65536, .int .i64 0, .int .i64 0, .int .i64 255, .bool false, .bool false, .int .i64 0, .int .i64 0, .int .i64 0, .int .i64 0, .int .i64 2, .int .i64 0, .int .i64 0, .int .u32 0, .int .i64 iw, .int .i64 ih, .slice A8 l.length c8], .agg #[.int .i64 65536, .int .i64 0, .int .i64 0, .int .i64 65536, .int .i64 0, .int .i64 0, .int .i64 255, .bool false, .bool false, .int .i64 0, .int .i64 0, .int .i64 0, .int .i64 0, .int .i64 k, .int .i64 W, .int .i64 H, .int .u32 (p : Nat), .int .i64 iw, .int .i64 ih, .slice A l.length c]] w fun e w' => e = .returned (.bool true) ∧ Below w.heap.size w w') := fun A8 c8 h1 w hr8 hr => by
        have h := ndequal_any Mp.one 255 false false Bx.o 2 0 0 0 iw ih A8 l c8 Mp.one 255 false false Bx.o k W H p iw ih A l c hlen hlen w hr8 hr
        rw [look_eq2 hY h1] at h
        exact h
      have HW2 : Hid (k = 2 → 0 < l.length) := fun h => whole_pos (look_whole hY h)
      have hat : dAt k W H p iw ih l = lkAt k W H p iw ih l := funext fun x => funext fun y => look_at hY x y
      rw [hat] at BE
      rw [(look_sz hY).1, (look_sz hY).2] at BD
      rw [hY] at BC
      have HR := Lib.hid hr
      clear hbig hlen hc hz hp hr hat hY
      generalize lkAt k W H p iw ih l = Z at *
      generalize szW k W iw = X at *
      generalize szW k H ih = Y at *
      unfold ndV lkV at *
      obtain ⟨ma, mb, mc, md, me, mf⟩ := m
      obtain ⟨x0, y0, x1, y1⟩ := r
      simp only at BR BC BD BE ⊢
      have HB0 : Hid (Below w.heap.size w (w.alloc (.cells #[.int .i64 ma, .int .i64 mb, .int .i64 mc, .int .i64 md, .int .i64 me, .int .i64 mf, .int .i64 op, .bool hi, .bool cl, .int .i64 x0, .int .i64 y0, .int .i64 x1, .int .i64 y1, .int .i64 k, .int .i64 W, .int .i64 H, .int .u32 (p : Nat), .int .i64 iw, .int .i64 ih, .slice A l.length c] 34))) := (Below.refl _ _).alloc (Nat.le_refl _) _
      have HK0 : Hid (Blk (w.alloc (.cells #[.int .i64 ma, .int .i64 mb, .int .i64 mc, .int .i64 md, .int .i64 me, .int .i64 mf, .int .i64 op, .bool hi, .bool cl, .int .i64 x0, .int .i64 y0, .int .i64 x1, .int .i64 y1, .int .i64 k, .int .i64 W, .int .i64 H, .int .u32 (p : Nat), .int .i64 iw, .int .i64 ih, .slice A l.length c] 34)) w.heap.size [.int .i64 ma, .int .i64 mb, .int .i64 mc, .int .i64 md, .int .i64 me, .int .i64 mf, .int .i64 op, .bool hi, .bool cl, .int .i64 x0, .int .i64 y0, .int .i64 x1, .int .i64 y1, .int .i64 k, .int .i64 W, .int .i64 H, .int .u32 (p : Nat), .int .i64 iw, .int .i64 ih, .slice A l.length c]) := blk_new w [.int .i64 ma, .int .i64 mb, .int .i64 mc, .int .i64 md, .int .i64 me, .int .i64 mf, .int .i64 op, .bool hi, .bool cl, .int .i64 x0, .int .i64 y0, .int .i64 x1, .int .i64 y1, .int .i64 k, .int .i64 W, .int .i64 H, .int .u32 (p : Nat), .int .i64 iw, .int .i64 ih, .slice A l.length c] _
      go_enter Try.func4, Try.ntmps4
      go_wp2_with (first | (with_reducible show wpList _ _ _ (Oper.mk _ (Op.load _ _) _ _ _ _ :: _) _ _; first | (refine wpl_take 34 _ rfl rfl _ 0 rfl _ HK0.out [.int .i64 ma, .int .i64 mb, .int .i64 mc, .int .i64 md, .int .i64 me, .int .i64 mf, .int .i64 op, .bool hi, .bool cl, .int .i64 x0, .int .i64 y0, .int .i64 x1, .int .i64 y1, .int .i64 k, .int .i64 W, .int .i64 H, .int .u32 (p : Nat), .int .i64 iw, .int .i64 ih, .slice A l.length c] rfl _ Try.underlying34 rfl (by kernel_rfl) ?_)))
      generalize (w.alloc (.cells #[.int .i64 ma, .int .i64 mb, .int .i64 mc, .int .i64 md, .int .i64 me, .int .i64 mf, .int .i64 op, .bool hi, .bool cl, .int .i64 x0, .int .i64 y0, .int .i64 x1, .int .i64 y1, .int .i64 k, .int .i64 W, .int .i64 H, .int .u32 (p : Nat), .int .i64 iw, .int .i64 ih, .slice A l.length c] 34)) = wz at *
      refine (BR.out _ (HR.out.below HB0.out)).mono ?_
      rintro e w1 ⟨A9, c9, rfl, hx, -, -, hb⟩
      have HB1 := Lib.hid (bel2 HB0.out hb)
      have HK1 := Lib.hid (HK0.out.below' hb)
      have HX1 := Lib.hid hx
      clear hb hx HB0 HK0
      go_wp2_with (fail)
      refine (BC.out A9 c9 _ HX1.out).mono ?_
      rintro e w2 ⟨rfl, hb⟩
      have HB2 := Lib.hid (bel2 HB1.out hb)
      have HK2 := Lib.hid (HK1.out.below' hb)
      clear hb BC HB1 HK1 HX1
      go_wp2_with (first | (with_reducible show wpList _ _ _ (Oper.mk _ (Op.load _ _) _ _ _ _ :: _) _ _; first | (refine wpl_take 32 _ rfl rfl _ 13 rfl _ HK2.out [.int .i64 k, .int .i64 W, .int .i64 H, .int .u32 (p : Nat), .int .i64 iw, .int .i64 ih, .slice A l.length c] rfl _ Try.underlying32 rfl (by kernel_rfl) ?_) | (refine wpl_take 32 _ rfl rfl _ 0 rfl _ HK3.out [.int .i64 k, .int .i64 W, .int .i64 H, .int .u32 (p : Nat), .int .i64 iw, .int .i64 ih, .slice A l.length c] rfl _ Try.underlying32 rfl (by kernel_rfl) ?_)) | (with_reducible show wpList _ _ _ (Oper.mk _ (Op.store _ _ _) _ _ _ _ :: _) _ _; first | (refine wpl_stow 32 _ _ rfl rfl rfl _ 0 rfl [.int .i64 k, .int .i64 W, .int .i64 H, .int .u32 (p : Nat), .int .i64 iw, .int .i64 ih, .slice A l.length c] rfl _ (blk_new w2 [.int .i64 0, .int .i64 0, .int .i64 0, .int .u32 0, .int .i64 0, .int .i64 0, .slice none 0 0] 32) [.int .i64 k, .int .i64 W, .int .i64 H, .int .u32 (p : Nat), .int .i64 iw, .int .i64 ih, .slice A l.length c] rfl (by simp) (by kernel_rfl) rfl ?_; intro w3 HW3 HK3)))
      have HJ3 : Hid (JBs [(w2.heap.size, [.int .i64 k, .int .i64 W, .int .i64 H, .int .u32 (p : Nat), .int .i64 iw, .int .i64 ih, .slice A l.length c]), (w.heap.size, [.int .i64 ma, .int .i64 mb, .int .i64 mc, .int .i64 md, .int .i64 me, .int .i64 mf, .int .i64 op, .bool hi, .bool cl, .int .i64 x0, .int .i64 y0, .int .i64 x1, .int .i64 y1, .int .i64 k, .int .i64 W, .int .i64 H, .int .u32 (p : Nat), .int .i64 iw, .int .i64 ih, .slice A l.length c])] w3) := JBs.made (l := [(w.heap.size, [.int .i64 ma, .int .i64 mb, .int .i64 mc, .int .i64 md, .int .i64 me, .int .i64 mf, .int .i64 op, .bool hi, .bool cl, .int .i64 x0, .int .i64 y0, .int .i64 x1, .int .i64 y1, .int .i64 k, .int .i64 W, .int .i64 H, .int .u32 (p : Nat), .int .i64 iw, .int .i64 ih, .slice A l.length c])]) ⟨HK2.out, trivial⟩ HW3.out HK3.out
      have HB3 := Lib.hid (HW3.out.made HB2.out)
      have HL7 : Hid (w.heap.size < w2.heap.size) := HK2.out.inside
      clear HW3 HK3 HB2 HK2
      generalize w2.heap.size = g7 at *
      refine (BS.out _).mono ?_
      rintro e w4 ⟨rfl, hb⟩
      have HB4 := Lib.hid (bel2 HB3.out hb)
      have HJ4 := Lib.hid (HJ3.out.below hb)
      clear hb BS HB3 HJ3
      have K3 : Hid (Blk w4 w.heap.size [.int .i64 ma, .int .i64 mb, .int .i64 mc, .int .i64 md, .int .i64 me, .int .i64 mf, .int .i64 op, .bool hi, .bool cl, .int .i64 x0, .int .i64 y0, .int .i64 x1, .int .i64 y1, .int .i64 k, .int .i64 W, .int .i64 H, .int .u32 (p : Nat), .int .i64 iw, .int .i64 ih, .slice A l.length c]) := HJ4.out.2.1
      go_wp2_with (first | (with_reducible show wpList _ _ _ (Oper.mk _ (Op.load _ _) _ _ _ _ :: _) _ _; first | (refine wpl_take 34 _ rfl rfl _ 0 rfl _ K3.out [.int .i64 ma, .int .i64 mb, .int .i64 mc, .int .i64 md, .int .i64 me, .int .i64 mf, .int .i64 op, .bool hi, .bool cl, .int .i64 x0, .int .i64 y0, .int .i64 x1, .int .i64 y1, .int .i64 k, .int .i64 W, .int .i64 H, .int .u32 (p : Nat), .int .i64 iw, .int .i64 ih, .slice A l.length c] rfl _ Try.underlying34 rfl (by kernel_rfl) ?_)))
      refine (BR.out _ (HR.out.below HB4.out)).mono ?_
      rintro e w5 ⟨A6, c6, rfl, -, -, -, hb⟩
      have HB5 := Lib.hid (bel2 HB4.out hb)
      have HJ5 := Lib.hid (HJ4.out.below hb)
      clear hb HB4 HJ4 K3
      go_wp2_with (fail)
      refine (BD.out A6 c6 _).mono ?_
      rintro e w6 ⟨rfl, hb⟩
      have HB6 := Lib.hid (bel2 HB5.out hb)
      have HJ6 := Lib.hid (HJ5.out.below hb)
      clear hb BD HB5 HJ5
      have qX : (X != X) = false := by simp
      have qY : (Y != Y) = false := by simp
      go_upto_region 9 with (fail)
      generalize wrap64 (X - 1) = X1
      generalize wrap64 (Y - 1) = Y1
      have HP7 : Hid (PRow (w6.alloc (.cells #[.int .i64 x, .int .i64 y, .int .i64 0, .int .i64 0, .int .i64 X1, .int .i64 Y1, .int .i64 X, .int .i64 0, .int .i64 0, .int .i64 Y, .int .i64 (-1), .int .i64 0] 52)) (some ⟨w6.heap.size, 0, none⟩) [(x, y), (0, 0), (X1, Y1), (X, 0), (0, Y), (-1, 0)]) := srow_new pr_len w6 [(x, y), (0, 0), (X1, Y1), (X, 0), (0, Y), (-1, 0)] _ rfl
      have HB7 : Hid (Below w.heap.size w (w6.alloc (.cells #[.int .i64 x, .int .i64 y, .int .i64 0, .int .i64 0, .int .i64 X1, .int .i64 Y1, .int .i64 X, .int .i64 0, .int .i64 0, .int .i64 Y, .int .i64 (-1), .int .i64 0] 52))) := HB6.out.alloc HB6.out.size _
      have HJ7 : Hid (JPx [(g7, [.int .i64 k, .int .i64 W, .int .i64 H, .int .u32 (p : Nat), .int .i64 iw, .int .i64 ih, .slice A l.length c]), (w.heap.size, [.int .i64 ma, .int .i64 mb, .int .i64 mc, .int .i64 md, .int .i64 me, .int .i64 mf, .int .i64 op, .bool hi, .bool cl, .int .i64 x0, .int .i64 y0, .int .i64 x1, .int .i64 y1, .int .i64 k, .int .i64 W, .int .i64 H, .int .u32 (p : Nat), .int .i64 iw, .int .i64 ih, .slice A l.length c])] A l (w6.alloc (.cells #[.int .i64 x, .int .i64 y, .int .i64 0, .int .i64 0, .int .i64 X1, .int .i64 Y1, .int .i64 X, .int .i64 0, .int .i64 0, .int .i64 Y, .int .i64 (-1), .int .i64 0] 52))) := ⟨HJ6.out.alloc _, HR.out.below HB7.out⟩
      clear HB6 HJ6
      generalize (w6.alloc (.cells #[.int .i64 x, .int .i64 y, .int .i64 0, .int .i64 0, .int .i64 X1, .int .i64 Y1, .int .i64 X, .int .i64 0, .int .i64 0, .int .i64 Y, .int .i64 (-1), .int .i64 0] 52)) = w7 at *
      obtain ⟨AP, hAP⟩ : ∃ AP, (some ⟨w6.heap.size, 0, none⟩ : Option Addr) = AP := ⟨_, rfl⟩
      rw [hAP] at HP7 ⊢
      clear hAP
      obtain ⟨ps, hps⟩ : ∃ q, [(x, y), (0, 0), (X1, Y1), (X, 0), (0, Y), (-1, 0)] = q := ⟨_, rfl⟩
      have hpl : ps.length = 6 := by rw [← hps]; rfl
      rw [hps] at HP7
      clear hps
      go_loopw [66] (fun i wr => ∃ j : Nat, j ≤ 6 ∧ i = .int .i64 j ∧ Hid (JPx [(g7, [.int .i64 k, .int .i64 W, .int .i64 H, .int .u32 (p : Nat), .int .i64 iw, .int .i64 ih, .slice A l.length c]), (w.heap.size, [.int .i64 ma, .int .i64 mb, .int .i64 mc, .int .i64 md, .int .i64 me, .int .i64 mf, .int .i64 op, .bool hi, .bool cl, .int .i64 x0, .int .i64 y0, .int .i64 x1, .int .i64 y1, .int .i64 k, .int .i64 W, .int .i64 H, .int .u32 (p : Nat), .int .i64 iw, .int .i64 ih, .slice A l.length c])] A l wr) ∧ Hid (PRow wr AP ps) ∧ Hid (Below w.heap.size w wr)) (fun i _ => 6 - (intOf i).toNat)
      case atStart => exact ⟨0, Nat.zero_le _, rfl, HJ7.out, HP7.out, HB7.out⟩
      case round =>
        clear HJ7 HP7 HB7
        obtain ⟨j, hj, rfl, HJ, HP, HB⟩ := hrel
        by_cases hlt : j < 6
        · have t6 : decide (j < 6) = true := by simpa using hlt
          obtain ⟨b, off, eA, q0, q1⟩ := HP.out.at_ (j := j) (by omega)
          subst eA
          generalize ps[j]'(by omega) = q at *
          obtain ⟨px, py⟩ := q
          simp only at q0 q1
          have hbw : b < wr.heap.size := World.block_lt_of_cell? wr ⟨b, _, none⟩ q0
          go_upto_region 11 with (first | (with_reducible show wpList _ _ _ (Oper.mk _ (Op.store _ _ _) _ _ _ _ :: _) _ _; first | (refine wpl_stow 52 _ _ rfl rfl rfl _ 0 rfl [.int .i64 px, .int .i64 py] rfl _ (blk_new wr [.int .i64 0, .int .i64 0] 52) [.int .i64 px, .int .i64 py] rfl (by simp) (by kernel_rfl) rfl ?_; intro w8 HW8 HK8)))
          have HBr : Hid (Below wr.heap.size wr w8) := HW8.out.made (Below.refl _ _)
          have HB8 := Lib.hid (bel2 HB.out HBr.out)
          have HJ8 : Hid (JPx [(wr.heap.size, [.int .i64 px, .int .i64 py]), (g7, [.int .i64 k, .int .i64 W, .int .i64 H, .int .u32 (p : Nat), .int .i64 iw, .int .i64 ih, .slice A l.length c]), (w.heap.size, [.int .i64 ma, .int .i64 mb, .int .i64 mc, .int .i64 md, .int .i64 me, .int .i64 mf, .int .i64 op, .bool hi, .bool cl, .int .i64 x0, .int .i64 y0, .int .i64 x1, .int .i64 y1, .int .i64 k, .int .i64 W, .int .i64 H, .int .u32 (p : Nat), .int .i64 iw, .int .i64 ih, .slice A l.length c])] A l w8) := ⟨HJ.out.1.made HW8.out HK8.out, HR.out.below HB8.out⟩
          have HP8 := Lib.hid (HP.out.below HBr.out)
          clear HW8 HK8 HBr HJ HP HB q0 q1 hbw
          generalize wr.heap.size = g13 at *
          refine regs.wp_region_put (regs.bl) (fun _ wx => JPx [(g13, [.int .i64 px, .int .i64 py]), (g7, [.int .i64 k, .int .i64 W, .int .i64 H, .int .u32 (p : Nat), .int .i64 iw, .int .i64 ih, .slice A l.length c]), (w.heap.size, [.int .i64 ma, .int .i64 mb, .int .i64 mc, .int .i64 md, .int .i64 me, .int .i64 mf, .int .i64 op, .bool hi, .bool cl, .int .i64 x0, .int .i64 y0, .int .i64 x1, .int .i64 y1, .int .i64 k, .int .i64 W, .int .i64 H, .int .u32 (p : Nat), .int .i64 iw, .int .i64 ih, .slice A l.length c])] A l wx) [70, 71, 72, 73, 74, 75, 76, 77, 78, 79, 80, 81, 82, 83] (by kernel_rfl) (by kernel_rfl) (fun _ => regs.bl_refl _) (regs.bl_trans) (fun i => (match i with
            | 0 => regs.Say.val _ (.agg #[.int .i64 k, .int .i64 W, .int .i64 H, .int .u32 (p : Nat), .int .i64 iw, .int .i64 ih, .slice A l.length c])
            | 1 => regs.Say.val _ (.pointer (some ⟨g13, 0, none⟩))
            | 2 => regs.Say.val _ (.int .i64 px)
            | 3 => regs.Say.val _ (.pointer (some ⟨g13, 1, none⟩))
            | 4 => regs.Say.val _ (.int .i64 py)
            | 5 => regs.Say.val _ (.int .u32 (Z px py : Nat))
            | 6 => regs.Say.val _ (.agg #[.int .i64 ma, .int .i64 mb, .int .i64 mc, .int .i64 md, .int .i64 me, .int .i64 mf, .int .i64 op, .bool hi, .bool cl, .int .i64 x0, .int .i64 y0, .int .i64 x1, .int .i64 y1, .int .i64 k, .int .i64 W, .int .i64 H, .int .u32 (p : Nat), .int .i64 iw, .int .i64 ih, .slice A l.length c])
            | 7 => sayRef ma mb mc md me mf op hi cl x0 y0 x1 y1 k W H p iw ih l
            | 8 => regs.Say.val _ (.pointer (some ⟨g13, 0, none⟩))
            | 9 => regs.Say.val _ (.int .i64 px)
            | 10 => regs.Say.val _ (.pointer (some ⟨g13, 1, none⟩))
            | 11 => regs.Say.val _ (.int .i64 py)
            | 12 => regs.Say.val _ (.int .u32 (Z px py : Nat))
            | 13 => regs.Say.val _ (.bool false)
            | _ => regs.Say.any _ : regs.Say (regs.bl)).p) (fun _ => regs.Say.mono _) (by kernel_rfl) ((Below.refl _ _).drew) (HJ8.out) ⟨?_, ?_, ?_, ?_, ?_, ?_, ?_, ?_, ?_, ?_, ?_, ?_, ?_, ?_, trivial⟩ ?_
          · refine regs.StepOK.plain rfl fun L a w1 hh => ?_
            have h7 : a.tmps[7]?.getD undef = .pointer (some ⟨g7, 0, none⟩) := by rw [← Array.getD_eq_getD_getElem?]; exact hh.old 7 rfl
            obtain ⟨⟨c0, c1, c2, c3, c4, c5, c6⟩, -, ci⟩ := (hh.st.1.2.1).c7
            have hJ := Lib.hid hh.st
            clear hh
            go_simp
            exact ⟨_, rfl, regs.bl_refl _, rfl, hJ.out⟩
          · refine regs.StepOK.plain rfl fun L a w1 hh => ?_
            have h13 : a.tmps[13]?.getD undef = .pointer (some ⟨g13, 0, none⟩) := by rw [← Array.getD_eq_getD_getElem?]; exact hh.old 13 rfl
            have hJ := Lib.hid hh.st
            clear hh
            go_simp
            exact ⟨_, rfl, regs.bl_refl _, rfl, hJ.out⟩
          · refine regs.StepOK.plain rfl fun L a w1 hh => ?_
            have h71 : a.tmps[71]?.getD undef = .pointer (some ⟨g13, 0, none⟩) := by rw [← Array.getD_eq_getD_getElem?]; exact hh.dep 1 71 (by kernel_rfl) (by kernel_rfl)
            obtain ⟨⟨c0, c1⟩, -, ci⟩ := (hh.st.1.1).c2
            have hJ := Lib.hid hh.st
            clear hh
            go_simp
            exact ⟨_, rfl, regs.bl_refl _, rfl, hJ.out⟩
          · refine regs.StepOK.plain rfl fun L a w1 hh => ?_
            have h13 : a.tmps[13]?.getD undef = .pointer (some ⟨g13, 0, none⟩) := by rw [← Array.getD_eq_getD_getElem?]; exact hh.old 13 rfl
            have hJ := Lib.hid hh.st
            clear hh
            go_simp
            exact ⟨_, rfl, regs.bl_refl _, rfl, hJ.out⟩
          · refine regs.StepOK.plain rfl fun L a w1 hh => ?_
            have h73 : a.tmps[73]?.getD undef = .pointer (some ⟨g13, 1, none⟩) := by rw [← Array.getD_eq_getD_getElem?]; exact hh.dep 3 73 (by kernel_rfl) (by kernel_rfl)
            obtain ⟨⟨c0, c1⟩, -, ci⟩ := (hh.st.1.1).c2
            have hJ := Lib.hid hh.st
            clear hh
            go_simp
            exact ⟨_, rfl, regs.bl_refl _, rfl, hJ.out⟩
          · refine regs.StepOK.plain rfl fun L a w1 hh => ?_
            have h70 : a.tmps[70]?.getD undef = .agg #[.int .i64 k, .int .i64 W, .int .i64 H, .int .u32 (p : Nat), .int .i64 iw, .int .i64 ih, .slice A l.length c] := by rw [← Array.getD_eq_getD_getElem?]; exact hh.dep 0 70 (by kernel_rfl) (by kernel_rfl)
            have h72 : a.tmps[72]?.getD undef = .int .i64 px := by rw [← Array.getD_eq_getD_getElem?]; exact hh.dep 2 72 (by kernel_rfl) (by kernel_rfl)
            have h74 : a.tmps[74]?.getD undef = .int .i64 py := by rw [← Array.getD_eq_getD_getElem?]; exact hh.dep 4 74 (by kernel_rfl) (by kernel_rfl)
            have := True.intro
            have hJ := Lib.hid hh.st
            clear hh
            go_simp
            refine (BA.out px py w1 hJ.out.2).mono ?_
            rintro e w9 ⟨rfl, hb9⟩
            exact ⟨_, rfl, hb9, rfl, JPx.below hJ.out hb9⟩
          · refine regs.StepOK.plain rfl fun L a w1 hh => ?_
            have h3 : a.tmps[3]?.getD undef = .pointer (some ⟨w.heap.size, 0, none⟩) := by rw [← Array.getD_eq_getD_getElem?]; exact hh.old 3 rfl
            have hJ := Lib.hid hh.st
            exact wp_take 34 _ rfl w.heap.size 0 (hh.old 3 rfl) _ (show Blk w1 w.heap.size [.int .i64 ma, .int .i64 mb, .int .i64 mc, .int .i64 md, .int .i64 me, .int .i64 mf, .int .i64 op, .bool hi, .bool cl, .int .i64 x0, .int .i64 y0, .int .i64 x1, .int .i64 y1, .int .i64 k, .int .i64 W, .int .i64 H, .int .u32 (p : Nat), .int .i64 iw, .int .i64 ih, .slice A l.length c] from hJ.out.1.2.2.1) [.int .i64 ma, .int .i64 mb, .int .i64 mc, .int .i64 md, .int .i64 me, .int .i64 mf, .int .i64 op, .bool hi, .bool cl, .int .i64 x0, .int .i64 y0, .int .i64 x1, .int .i64 y1, .int .i64 k, .int .i64 W, .int .i64 H, .int .u32 (p : Nat), .int .i64 iw, .int .i64 ih, .slice A l.length c] rfl _ Try.underlying34 rfl (by kernel_rfl) ⟨_, rfl, regs.bl_refl _, rfl, hJ.out⟩
          · refine regs.StepOK.plain rfl fun L a w1 hh => ?_
            have h76 : a.tmps[76]?.getD undef = .agg #[.int .i64 ma, .int .i64 mb, .int .i64 mc, .int .i64 md, .int .i64 me, .int .i64 mf, .int .i64 op, .bool hi, .bool cl, .int .i64 x0, .int .i64 y0, .int .i64 x1, .int .i64 y1, .int .i64 k, .int .i64 W, .int .i64 H, .int .u32 (p : Nat), .int .i64 iw, .int .i64 ih, .slice A l.length c] := by rw [← Array.getD_eq_getD_getElem?]; exact hh.dep 6 76 (by kernel_rfl) (by kernel_rfl)
            have hJ := Lib.hid hh.st
            clear hh
            go_simp
            refine (BR.out w1 hJ.out.2).mono ?_
            rintro e w9 ⟨A9, c9, rfl, hx9, -, -, hb9⟩
            exact ⟨_, rfl, hb9, ⟨A9, c9, rfl, hx9⟩, JPx.below hJ.out hb9⟩
          · refine regs.StepOK.plain rfl fun L a w1 hh => ?_
            have h13 : a.tmps[13]?.getD undef = .pointer (some ⟨g13, 0, none⟩) := by rw [← Array.getD_eq_getD_getElem?]; exact hh.old 13 rfl
            have hJ := Lib.hid hh.st
            clear hh
            go_simp
            exact ⟨_, rfl, regs.bl_refl _, rfl, hJ.out⟩
          · refine regs.StepOK.plain rfl fun L a w1 hh => ?_
            have h78 : a.tmps[78]?.getD undef = .pointer (some ⟨g13, 0, none⟩) := by rw [← Array.getD_eq_getD_getElem?]; exact hh.dep 8 78 (by kernel_rfl) (by kernel_rfl)
            obtain ⟨⟨c0, c1⟩, -, ci⟩ := (hh.st.1.1).c2
            have hJ := Lib.hid hh.st
            clear hh
            go_simp
            exact ⟨_, rfl, regs.bl_refl _, rfl, hJ.out⟩
          · refine regs.StepOK.plain rfl fun L a w1 hh => ?_
            have h13 : a.tmps[13]?.getD undef = .pointer (some ⟨g13, 0, none⟩) := by rw [← Array.getD_eq_getD_getElem?]; exact hh.old 13 rfl
            have hJ := Lib.hid hh.st
            clear hh
            go_simp
            exact ⟨_, rfl, regs.bl_refl _, rfl, hJ.out⟩
          · refine regs.StepOK.plain rfl fun L a w1 hh => ?_
            have h80 : a.tmps[80]?.getD undef = .pointer (some ⟨g13, 1, none⟩) := by rw [← Array.getD_eq_getD_getElem?]; exact hh.dep 10 80 (by kernel_rfl) (by kernel_rfl)
            obtain ⟨⟨c0, c1⟩, -, ci⟩ := (hh.st.1.1).c2
            have hJ := Lib.hid hh.st
            clear hh
            go_simp
            exact ⟨_, rfl, regs.bl_refl _, rfl, hJ.out⟩
          · refine regs.StepOK.plain rfl fun L a w1 hh => ?_
            have h79 : a.tmps[79]?.getD undef = .int .i64 px := by rw [← Array.getD_eq_getD_getElem?]; exact hh.dep 9 79 (by kernel_rfl) (by kernel_rfl)
            have h81 : a.tmps[81]?.getD undef = .int .i64 py := by rw [← Array.getD_eq_getD_getElem?]; exact hh.dep 11 81 (by kernel_rfl) (by kernel_rfl)
            obtain ⟨A9, c9, h77, hr9⟩ : ∃ A9 c9, a.tmps[77]?.getD undef = .agg #[.int .i64 ma, .int .i64 mb, .int .i64 mc, .int .i64 md, .int .i64 me, .int .i64 mf, .int .i64 op, .bool hi, .bool cl, .int .i64 x0, .int .i64 y0, .int .i64 x1, .int .i64 y1, .int .i64 k, .int .i64 W, .int .i64 H, .int .u32 (p : Nat), .int .i64 iw, .int .i64 ih, .slice A9 l.length c9] ∧ Row eW w1 A9 l := by rw [← Array.getD_eq_getD_getElem?]; exact hh.dep 7 77 (by kernel_rfl) (by kernel_rfl)
            have hJ := Lib.hid hh.st
            clear hh
            go_simp
            refine (BE.out A9 c9 px py w1 hr9).mono ?_
            rintro e w9 ⟨rfl, hb9⟩
            exact ⟨_, rfl, hb9, rfl, JPx.below hJ.out hb9⟩
          · refine regs.StepOK.plain rfl fun L a w1 hh => ?_
            have h75 : a.tmps[75]?.getD undef = .int .u32 (Z px py : Nat) := by rw [← Array.getD_eq_getD_getElem?]; exact hh.dep 5 75 (by kernel_rfl) (by kernel_rfl)
            have h82 : a.tmps[82]?.getD undef = .int .u32 (Z px py : Nat) := by rw [← Array.getD_eq_getD_getElem?]; exact hh.dep 12 82 (by kernel_rfl) (by kernel_rfl)
            have q : (((Z px py : Nat) : Int) != ((Z px py : Nat) : Int)) = false := by simp
            have hJ := Lib.hid hh.st
            clear hh
            go_simp
            exact ⟨_, rfl, regs.bl_refl _, rfl, hJ.out⟩
          intro L w9 val hL hJ hR hv
          have h83 : val 83 = .bool false := hv 13 83 (by kernel_rfl)
          have HK9 := Lib.hid hJ
          have HR9 := Lib.hid hR
          clear hv hL hJ hR
          simp only [regs.putAll, List.map_cons, List.map_nil]
          rw [h83]
          generalize val 70 = v70
          generalize val 71 = v71
          generalize val 72 = v72
          generalize val 73 = v73
          generalize val 74 = v74
          generalize val 75 = v75
          generalize val 76 = v76
          generalize val 77 = v77
          generalize val 78 = v78
          generalize val 79 = v79
          generalize val 80 = v80
          generalize val 81 = v81
          generalize val 82 = v82
          simp only [Act.put, List.setIfInBounds_toArray, List.set_cons_zero, List.set_cons_succ]
          clear h83
          have HB9 : Hid (Below w.heap.size w w9) := HB8.out.trans (HR9.out.mono HB8.out.size)
          have HP9 := Lib.hid (HP8.out.below HR9.out)
          have HJ9 : Hid (JPx [(g7, [.int .i64 k, .int .i64 W, .int .i64 H, .int .u32 (p : Nat), .int .i64 iw, .int .i64 ih, .slice A l.length c]), (w.heap.size, [.int .i64 ma, .int .i64 mb, .int .i64 mc, .int .i64 md, .int .i64 me, .int .i64 mf, .int .i64 op, .bool hi, .bool cl, .int .i64 x0, .int .i64 y0, .int .i64 x1, .int .i64 y1, .int .i64 k, .int .i64 W, .int .i64 H, .int .u32 (p : Nat), .int .i64 iw, .int .i64 ih, .slice A l.length c])] A l w9) := ⟨HK9.out.1.2, HK9.out.2⟩
          clear HR9 HK9 HB8 HP8
          go_wp2_with (fail)
          go_roundw
          case rel => exact ⟨j + 1, by omega, by go_num, HJ9.out, HP9.out, HB9.out⟩
          case measure => simp [intOf]; omega
        · obtain rfl : j = 6 := by omega
          have t6 : decide (6 < 6) = false := by decide
          clear hlt HP
          go_wp2_with (fail)
          refine (BP.out _).mono ?_
          rintro e w10 ⟨rfl, hb⟩
          have HB10 := Lib.hid (bel2 HB.out hb)
          have HJ10 := Lib.hid (HJ.out.1.below hb)
          clear hb HB HJ
          go_upto_region 15 with (first | (with_reducible show wpList _ _ _ (Oper.mk _ (Op.store _ _ _) _ _ _ _ :: _) _ _; first | (refine wpl_stow 34 _ _ rfl rfl rfl _ 0 rfl [.int .i64 65536, .int .i64 0, .int .i64 0, .int .i64 65536, .int .i64 0, .int .i64 0, .int .i64 255, .bool false, .bool false, .int .i64 0, .int .i64 0, .int .i64 0, .int .i64 0, .int .i64 0, .int .i64 0, .int .i64 0, .int .u32 0, .int .i64 0, .int .i64 0, .slice none 0 0] rfl _ (blk_new w10 [.int .i64 0, .int .i64 0, .int .i64 0, .int .i64 0, .int .i64 0, .int .i64 0, .int .i64 0, .bool false, .bool false, .int .i64 0, .int .i64 0, .int .i64 0, .int .i64 0, .int .i64 0, .int .i64 0, .int .i64 0, .int .u32 0, .int .i64 0, .int .i64 0, .slice none 0 0] 34) [.int .i64 65536, .int .i64 0, .int .i64 0, .int .i64 65536, .int .i64 0, .int .i64 0, .int .i64 255, .bool false, .bool false, .int .i64 0, .int .i64 0, .int .i64 0, .int .i64 0, .int .i64 0, .int .i64 0, .int .i64 0, .int .u32 0, .int .i64 0, .int .i64 0, .slice none 0 0] rfl (by simp) (by kernel_rfl) rfl ?_; intro w11 HW11 HK11)))
          have HJ11 : Hid (JBs [(w10.heap.size, [.int .i64 65536, .int .i64 0, .int .i64 0, .int .i64 65536, .int .i64 0, .int .i64 0, .int .i64 255, .bool false, .bool false, .int .i64 0, .int .i64 0, .int .i64 0, .int .i64 0, .int .i64 0, .int .i64 0, .int .i64 0, .int .u32 0, .int .i64 0, .int .i64 0, .slice none 0 0]), (g7, [.int .i64 k, .int .i64 W, .int .i64 H, .int .u32 (p : Nat), .int .i64 iw, .int .i64 ih, .slice A l.length c]), (w.heap.size, [.int .i64 ma, .int .i64 mb, .int .i64 mc, .int .i64 md, .int .i64 me, .int .i64 mf, .int .i64 op, .bool hi, .bool cl, .int .i64 x0, .int .i64 y0, .int .i64 x1, .int .i64 y1, .int .i64 k, .int .i64 W, .int .i64 H, .int .u32 (p : Nat), .int .i64 iw, .int .i64 ih, .slice A l.length c])] w11) := HJ10.out.made HW11.out HK11.out
          have HB11 := Lib.hid (HW11.out.made HB10.out)
          have h7 : g7 ≠ w10.heap.size := Nat.ne_of_lt HJ10.out.1.inside
          have h3 : w.heap.size ≠ w10.heap.size := Nat.ne_of_lt HJ10.out.2.1.inside
          have HL14 : Hid (w.heap.size ≤ w10.heap.size) := HB10.out.size
          clear HW11 HK11 HB10 HJ10
          generalize w10.heap.size = g14 at *
          have K7 : Hid (Blk w11 g7 [.int .i64 k, .int .i64 W, .int .i64 H, .int .u32 (p : Nat), .int .i64 iw, .int .i64 ih, .slice A l.length c]) := HJ11.out.2.1
          have K14 : Hid (Blk w11 g14 [.int .i64 65536, .int .i64 0, .int .i64 0, .int .i64 65536, .int .i64 0, .int .i64 0, .int .i64 255, .bool false, .bool false, .int .i64 0, .int .i64 0, .int .i64 0, .int .i64 0, .int .i64 0, .int .i64 0, .int .i64 0, .int .u32 0, .int .i64 0, .int .i64 0, .slice none 0 0]) := HJ11.out.1
          have HG14 : Hid (g14 < w11.heap.size) := K14.out.inside
          have c0 : w11.cell? ⟨g7, 0, none⟩ = some (.int .i64 k) := K7.out.cell 0
          have i7 := K7.out.inside
          by_cases k1 : k = 1
          · have q1 : (k == 1) = true := by simp; omega
            have HE := Lib.hid (E1.out k1)
            clear k1 E0 E1 E2 BI
            have c1 : w11.cell? ⟨g7, 1, none⟩ = some (.int .i64 W) := K7.out.cell 1
            have c2 : w11.cell? ⟨g7, 2, none⟩ = some (.int .i64 H) := K7.out.cell 2
            have c3 : w11.cell? ⟨g7, 3, none⟩ = some (.int .u32 (p : Nat)) := K7.out.cell 3
            go_wp2_with (fail)
            refine (BF.out _).mono ?_
            rintro e w12 ⟨rfl, hb⟩
            have HB12 := Lib.hid (bel2 HB11.out hb)
            have HJ12 := Lib.hid (HJ11.out.below hb)
            clear hb HB11 HJ11 K7 K14 c0 c1 c2 c3 i7 BF
            have K14 : Hid (Blk w12 g14 [.int .i64 65536, .int .i64 0, .int .i64 0, .int .i64 65536, .int .i64 0, .int .i64 0, .int .i64 255, .bool false, .bool false, .int .i64 0, .int .i64 0, .int .i64 0, .int .i64 0, .int .i64 0, .int .i64 0, .int .i64 0, .int .u32 0, .int .i64 0, .int .i64 0, .slice none 0 0]) := HJ12.out.1
            go_upto_region 20 with (first | (with_reducible show wpList _ _ _ (Oper.mk _ (Op.store _ _ _) _ _ _ _ :: _) _ _; first | (refine wpl_stow 32 _ _ rfl rfl rfl _ 13 rfl [.int .i64 1, .int .i64 W, .int .i64 H, .int .u32 (p : Nat), .int .i64 0, .int .i64 0, .slice none 0 0] rfl _ K14.out [.int .i64 65536, .int .i64 0, .int .i64 0, .int .i64 65536, .int .i64 0, .int .i64 0, .int .i64 255, .bool false, .bool false, .int .i64 0, .int .i64 0, .int .i64 0, .int .i64 0, .int .i64 1, .int .i64 W, .int .i64 H, .int .u32 (p : Nat), .int .i64 0, .int .i64 0, .slice none 0 0] rfl (by simp) (by kernel_rfl) rfl ?_; intro w13 HW13 HK13)))
            have HJ13 : Hid (JBs [(g14, [.int .i64 65536, .int .i64 0, .int .i64 0, .int .i64 65536, .int .i64 0, .int .i64 0, .int .i64 255, .bool false, .bool false, .int .i64 0, .int .i64 0, .int .i64 0, .int .i64 0, .int .i64 1, .int .i64 W, .int .i64 H, .int .u32 (p : Nat), .int .i64 0, .int .i64 0, .slice none 0 0]), (g7, [.int .i64 k, .int .i64 W, .int .i64 H, .int .u32 (p : Nat), .int .i64 iw, .int .i64 ih, .slice A l.length c]), (w.heap.size, [.int .i64 ma, .int .i64 mb, .int .i64 mc, .int .i64 md, .int .i64 me, .int .i64 mf, .int .i64 op, .bool hi, .bool cl, .int .i64 x0, .int .i64 y0, .int .i64 x1, .int .i64 y1, .int .i64 k, .int .i64 W, .int .i64 H, .int .u32 (p : Nat), .int .i64 iw, .int .i64 ih, .slice A l.length c])] w13) := ⟨HK13.out, HW13.out.blk h7 HJ12.out.2.1, HW13.out.blk h3 HJ12.out.2.2.1, trivial⟩
            have HB13 := Lib.hid (HW13.out.below HB12.out HL14.out)
            clear HW13 HK13 HB12 HJ12 K14
            clear q1 HW2 h7 h3 HL14 HG14
            go_wp2_with (fail)
            refine (BP.out _).mono ?_
            rintro e wa ⟨rfl, hb⟩
            have HBa := Lib.hid (bel2 HB13.out hb)
            have HJa := Lib.hid (HJ13.out.below hb)
            skip
            clear hb HB13 HJ13 BP
            go_upto_region 21 with (first | (with_reducible show wpList _ _ _ (Oper.mk _ (Op.store _ _ _) _ _ _ _ :: _) _ _; first | (refine wpl_stow 34 _ _ rfl rfl rfl _ 0 rfl [.int .i64 65536, .int .i64 0, .int .i64 0, .int .i64 65536, .int .i64 0, .int .i64 0, .int .i64 255, .bool false, .bool false, .int .i64 0, .int .i64 0, .int .i64 0, .int .i64 0, .int .i64 0, .int .i64 0, .int .i64 0, .int .u32 0, .int .i64 0, .int .i64 0, .slice none 0 0] rfl _ (blk_new wa [.int .i64 0, .int .i64 0, .int .i64 0, .int .i64 0, .int .i64 0, .int .i64 0, .int .i64 0, .bool false, .bool false, .int .i64 0, .int .i64 0, .int .i64 0, .int .i64 0, .int .i64 0, .int .i64 0, .int .i64 0, .int .u32 0, .int .i64 0, .int .i64 0, .slice none 0 0] 34) [.int .i64 65536, .int .i64 0, .int .i64 0, .int .i64 65536, .int .i64 0, .int .i64 0, .int .i64 255, .bool false, .bool false, .int .i64 0, .int .i64 0, .int .i64 0, .int .i64 0, .int .i64 0, .int .i64 0, .int .i64 0, .int .u32 0, .int .i64 0, .int .i64 0, .slice none 0 0] rfl (by simp) (by kernel_rfl) rfl ?_; intro wb HWb HKb)))
            have HJb : Hid (JBs [(wa.heap.size, [.int .i64 65536, .int .i64 0, .int .i64 0, .int .i64 65536, .int .i64 0, .int .i64 0, .int .i64 255, .bool false, .bool false, .int .i64 0, .int .i64 0, .int .i64 0, .int .i64 0, .int .i64 0, .int .i64 0, .int .i64 0, .int .u32 0, .int .i64 0, .int .i64 0, .slice none 0 0]), (g14, [.int .i64 65536, .int .i64 0, .int .i64 0, .int .i64 65536, .int .i64 0, .int .i64 0, .int .i64 255, .bool false, .bool false, .int .i64 0, .int .i64 0, .int .i64 0, .int .i64 0, .int .i64 1, .int .i64 W, .int .i64 H, .int .u32 (p : Nat), .int .i64 0, .int .i64 0, .slice none 0 0]), (g7, [.int .i64 k, .int .i64 W, .int .i64 H, .int .u32 (p : Nat), .int .i64 iw, .int .i64 ih, .slice A l.length c]), (w.heap.size, [.int .i64 ma, .int .i64 mb, .int .i64 mc, .int .i64 md, .int .i64 me, .int .i64 mf, .int .i64 op, .bool hi, .bool cl, .int .i64 x0, .int .i64 y0, .int .i64 x1, .int .i64 y1, .int .i64 k, .int .i64 W, .int .i64 H, .int .u32 (p : Nat), .int .i64 iw, .int .i64 ih, .slice A l.length c])] wb) := HJa.out.made HWb.out HKb.out
            have HBb := Lib.hid (HWb.out.made HBa.out)
            have h14 : g14 ≠ wa.heap.size := Nat.ne_of_lt HJa.out.1.inside
            have h7 : g7 ≠ wa.heap.size := Nat.ne_of_lt HJa.out.2.1.inside
            have h3 : w.heap.size ≠ wa.heap.size := Nat.ne_of_lt HJa.out.2.2.1.inside
            have HL15 : Hid (w.heap.size ≤ wa.heap.size) := HBa.out.size
            skip
            clear HWb HKb HBa HJa
            generalize wa.heap.size = g15 at *
            have K7 : Hid (Blk wb g7 [.int .i64 k, .int .i64 W, .int .i64 H, .int .u32 (p : Nat), .int .i64 iw, .int .i64 ih, .slice A l.length c]) := HJb.out.2.2.1
            have K15 : Hid (Blk wb g15 [.int .i64 65536, .int .i64 0, .int .i64 0, .int .i64 65536, .int .i64 0, .int .i64 0, .int .i64 255, .bool false, .bool false, .int .i64 0, .int .i64 0, .int .i64 0, .int .i64 0, .int .i64 0, .int .i64 0, .int .i64 0, .int .u32 0, .int .i64 0, .int .i64 0, .slice none 0 0]) := HJb.out.1
            go_upto_region 22 with (first | (with_reducible show wpList _ _ _ (Oper.mk _ (Op.load _ _) _ _ _ _ :: _) _ _; first | (refine wpl_take 32 _ rfl rfl _ 0 rfl _ K7.out [.int .i64 k, .int .i64 W, .int .i64 H, .int .u32 (p : Nat), .int .i64 iw, .int .i64 ih, .slice A l.length c] rfl _ Try.underlying32 rfl (by kernel_rfl) ?_)) | (with_reducible show wpList _ _ _ (Oper.mk _ (Op.store _ _ _) _ _ _ _ :: _) _ _; first | (refine wpl_stow 32 _ _ rfl rfl rfl _ 13 rfl [.int .i64 k, .int .i64 W, .int .i64 H, .int .u32 (p : Nat), .int .i64 iw, .int .i64 ih, .slice A l.length c] rfl _ K15.out [.int .i64 65536, .int .i64 0, .int .i64 0, .int .i64 65536, .int .i64 0, .int .i64 0, .int .i64 255, .bool false, .bool false, .int .i64 0, .int .i64 0, .int .i64 0, .int .i64 0, .int .i64 k, .int .i64 W, .int .i64 H, .int .u32 (p : Nat), .int .i64 iw, .int .i64 ih, .slice A l.length c] rfl (by simp) (by kernel_rfl) rfl ?_; intro wc HWc HKc)))
            have K14 : Hid (Blk wc g14 [.int .i64 65536, .int .i64 0, .int .i64 0, .int .i64 65536, .int .i64 0, .int .i64 0, .int .i64 255, .bool false, .bool false, .int .i64 0, .int .i64 0, .int .i64 0, .int .i64 0, .int .i64 1, .int .i64 W, .int .i64 H, .int .u32 (p : Nat), .int .i64 0, .int .i64 0, .slice none 0 0]) := HWc.out.blk h14 HJb.out.2.1
            have HBc := Lib.hid (HWc.out.below HBb.out HL15.out)
            skip
            clear HWc HBb HJb K7 K15 h14 h7 h3 HL15
            go_wp2_with (first | (with_reducible show wpList _ _ _ (Oper.mk _ (Op.load _ _) _ _ _ _ :: _) _ _; first | (refine wpl_take 34 _ rfl rfl _ 0 rfl _ K14.out [.int .i64 65536, .int .i64 0, .int .i64 0, .int .i64 65536, .int .i64 0, .int .i64 0, .int .i64 255, .bool false, .bool false, .int .i64 0, .int .i64 0, .int .i64 0, .int .i64 0, .int .i64 1, .int .i64 W, .int .i64 H, .int .u32 (p : Nat), .int .i64 0, .int .i64 0, .slice none 0 0] rfl _ Try.underlying34 rfl (by kernel_rfl) ?_) | (refine wpl_take 34 _ rfl rfl _ 0 rfl _ HKc.out [.int .i64 65536, .int .i64 0, .int .i64 0, .int .i64 65536, .int .i64 0, .int .i64 0, .int .i64 255, .bool false, .bool false, .int .i64 0, .int .i64 0, .int .i64 0, .int .i64 0, .int .i64 k, .int .i64 W, .int .i64 H, .int .u32 (p : Nat), .int .i64 iw, .int .i64 ih, .slice A l.length c] rfl _ Try.underlying34 rfl (by kernel_rfl) ?_)))
            refine (HE.out _ (HR.out.below HBc.out)).mono ?_
            rintro e wd ⟨rfl, hb⟩
            have HBd := Lib.hid (bel2 HBc.out hb)
            clear hb HBc HE K14 HKc
            go_wp2_with (fail)
            refine (HA.out _).mono ?_
            rintro e we ⟨rfl, hb⟩
            have HBe := Lib.hid (bel2 HBd.out hb)
            clear hb HBd HA
            go_wp2_with (fail)
            go_ret
            exact ⟨rfl, HBe.out⟩
          · have q1 : (k == 1) = false := by simp; omega
            by_cases k2 : k = 2
            · have q2 : (k == 2) = true := by simp; omega
              have HE := Lib.hid (fun A8 c8 => E2.out A8 c8 k2)
              have HN := Lib.hid (HW2.out k2)
              clear k1 k2 E0 E1 E2 BF HW2
              go_wp2_with (first | (with_reducible show wpList _ _ _ (Oper.mk _ (Op.load _ _) _ _ _ _ :: _) _ _; first | (refine wpl_take 30 _ rfl rfl _ 4 rfl _ K7.out [.int .i64 iw, .int .i64 ih, .slice A l.length c] rfl _ Try.underlying30 rfl (by kernel_rfl) ?_)))
              refine (BI.out _ (HR.out.below HB11.out)).mono ?_
              rintro e w12 ⟨A8, c8, rfl, hx, hb⟩
              have HB12 := Lib.hid (bel2 HB11.out hb)
              have HJ12 := Lib.hid (HJ11.out.below hb)
              have HX12 := Lib.hid hx.1
              have HA12 : Hid (∀ b o, A8 = some ⟨b, o, none⟩ → b ≠ g14 ∧ b < w12.heap.size) := fun b o e => ⟨by have h1 := hx.2.1 b o e; have h2 := HG14.out; omega, hx.1.in_ HN.out b o e⟩
              clear hb hx HB11 HJ11 K7 K14 c0 i7 BI HN
              have K14 : Hid (Blk w12 g14 [.int .i64 65536, .int .i64 0, .int .i64 0, .int .i64 65536, .int .i64 0, .int .i64 0, .int .i64 255, .bool false, .bool false, .int .i64 0, .int .i64 0, .int .i64 0, .int .i64 0, .int .i64 0, .int .i64 0, .int .i64 0, .int .u32 0, .int .i64 0, .int .i64 0, .slice none 0 0]) := HJ12.out.1
              go_upto_region 20 with (first | (with_reducible show wpList _ _ _ (Oper.mk _ (Op.store _ _ _) _ _ _ _ :: _) _ _; first | (refine wpl_stow 32 _ _ rfl rfl rfl _ 13 rfl [.int .i64 2, .int .i64 0, .int .i64 0, .int .u32 0, .int .i64 iw, .int .i64 ih, .slice A8 l.length c8] rfl _ K14.out [.int .i64 65536, .int .i64 0, .int .i64 0, .int .i64 65536, .int .i64 0, .int .i64 0, .int .i64 255, .bool false, .bool false, .int .i64 0, .int .i64 0, .int .i64 0, .int .i64 0, .int .i64 2, .int .i64 0, .int .i64 0, .int .u32 0, .int .i64 iw, .int .i64 ih, .slice A8 l.length c8] rfl (by simp) (by kernel_rfl) rfl ?_; intro w13 HW13 HK13)))
              have HJ13 : Hid (JBs [(g14, [.int .i64 65536, .int .i64 0, .int .i64 0, .int .i64 65536, .int .i64 0, .int .i64 0, .int .i64 255, .bool false, .bool false, .int .i64 0, .int .i64 0, .int .i64 0, .int .i64 0, .int .i64 2, .int .i64 0, .int .i64 0, .int .u32 0, .int .i64 iw, .int .i64 ih, .slice A8 l.length c8]), (g7, [.int .i64 k, .int .i64 W, .int .i64 H, .int .u32 (p : Nat), .int .i64 iw, .int .i64 ih, .slice A l.length c]), (w.heap.size, [.int .i64 ma, .int .i64 mb, .int .i64 mc, .int .i64 md, .int .i64 me, .int .i64 mf, .int .i64 op, .bool hi, .bool cl, .int .i64 x0, .int .i64 y0, .int .i64 x1, .int .i64 y1, .int .i64 k, .int .i64 W, .int .i64 H, .int .u32 (p : Nat), .int .i64 iw, .int .i64 ih, .slice A l.length c])] w13) := ⟨HK13.out, HW13.out.blk h7 HJ12.out.2.1, HW13.out.blk h3 HJ12.out.2.2.1, trivial⟩
              have HB13 := Lib.hid (HW13.out.below HB12.out HL14.out)
              have HX13 : Hid (Row eW w13 A8 l) := HX12.out.by_block fun b o e => HW13.out.far (HA12.out b o e).1
              have HA13 : Hid (∀ b o, A8 = some ⟨b, o, none⟩ → b < w13.heap.size) := fun b o e => by rw [HW13.out.size]; exact (HA12.out b o e).2
              clear HW13 HK13 HB12 HJ12 K14 HX12 HA12
              clear q1 q2 h7 h3 HL14 HG14
              go_wp2_with (fail)
              refine (BP.out _).mono ?_
              rintro e wa ⟨rfl, hb⟩
              have HBa := Lib.hid (bel2 HB13.out hb)
              have HJa := Lib.hid (HJ13.out.below hb)
              have HXa := Lib.hid (HX13.out.below hb)
              have HAa : Hid (∀ b o, A8 = some ⟨b, o, none⟩ → b ≠ wa.heap.size) := fun b o e => by have h1 := HA13.out b o e; have h2 := hb.size; omega
              clear HX13 HA13
              clear hb HB13 HJ13 BP
              go_upto_region 21 with (first | (with_reducible show wpList _ _ _ (Oper.mk _ (Op.store _ _ _) _ _ _ _ :: _) _ _; first | (refine wpl_stow 34 _ _ rfl rfl rfl _ 0 rfl [.int .i64 65536, .int .i64 0, .int .i64 0, .int .i64 65536, .int .i64 0, .int .i64 0, .int .i64 255, .bool false, .bool false, .int .i64 0, .int .i64 0, .int .i64 0, .int .i64 0, .int .i64 0, .int .i64 0, .int .i64 0, .int .u32 0, .int .i64 0, .int .i64 0, .slice none 0 0] rfl _ (blk_new wa [.int .i64 0, .int .i64 0, .int .i64 0, .int .i64 0, .int .i64 0, .int .i64 0, .int .i64 0, .bool false, .bool false, .int .i64 0, .int .i64 0, .int .i64 0, .int .i64 0, .int .i64 0, .int .i64 0, .int .i64 0, .int .u32 0, .int .i64 0, .int .i64 0, .slice none 0 0] 34) [.int .i64 65536, .int .i64 0, .int .i64 0, .int .i64 65536, .int .i64 0, .int .i64 0, .int .i64 255, .bool false, .bool false, .int .i64 0, .int .i64 0, .int .i64 0, .int .i64 0, .int .i64 0, .int .i64 0, .int .i64 0, .int .u32 0, .int .i64 0, .int .i64 0, .slice none 0 0] rfl (by simp) (by kernel_rfl) rfl ?_; intro wb HWb HKb)))
              have HJb : Hid (JBs [(wa.heap.size, [.int .i64 65536, .int .i64 0, .int .i64 0, .int .i64 65536, .int .i64 0, .int .i64 0, .int .i64 255, .bool false, .bool false, .int .i64 0, .int .i64 0, .int .i64 0, .int .i64 0, .int .i64 0, .int .i64 0, .int .i64 0, .int .u32 0, .int .i64 0, .int .i64 0, .slice none 0 0]), (g14, [.int .i64 65536, .int .i64 0, .int .i64 0, .int .i64 65536, .int .i64 0, .int .i64 0, .int .i64 255, .bool false, .bool false, .int .i64 0, .int .i64 0, .int .i64 0, .int .i64 0, .int .i64 2, .int .i64 0, .int .i64 0, .int .u32 0, .int .i64 iw, .int .i64 ih, .slice A8 l.length c8]), (g7, [.int .i64 k, .int .i64 W, .int .i64 H, .int .u32 (p : Nat), .int .i64 iw, .int .i64 ih, .slice A l.length c]), (w.heap.size, [.int .i64 ma, .int .i64 mb, .int .i64 mc, .int .i64 md, .int .i64 me, .int .i64 mf, .int .i64 op, .bool hi, .bool cl, .int .i64 x0, .int .i64 y0, .int .i64 x1, .int .i64 y1, .int .i64 k, .int .i64 W, .int .i64 H, .int .u32 (p : Nat), .int .i64 iw, .int .i64 ih, .slice A l.length c])] wb) := HJa.out.made HWb.out HKb.out
              have HBb := Lib.hid (HWb.out.made HBa.out)
              have h14 : g14 ≠ wa.heap.size := Nat.ne_of_lt HJa.out.1.inside
              have h7 : g7 ≠ wa.heap.size := Nat.ne_of_lt HJa.out.2.1.inside
              have h3 : w.heap.size ≠ wa.heap.size := Nat.ne_of_lt HJa.out.2.2.1.inside
              have HL15 : Hid (w.heap.size ≤ wa.heap.size) := HBa.out.size
              have HXb : Hid (Row eW wb A8 l) := (HXa.out.alloc _).by_block fun b o e => HWb.out.far (HAa.out b o e)
              clear HXa
              clear HWb HKb HBa HJa
              generalize wa.heap.size = g15 at *
              have K7 : Hid (Blk wb g7 [.int .i64 k, .int .i64 W, .int .i64 H, .int .u32 (p : Nat), .int .i64 iw, .int .i64 ih, .slice A l.length c]) := HJb.out.2.2.1
              have K15 : Hid (Blk wb g15 [.int .i64 65536, .int .i64 0, .int .i64 0, .int .i64 65536, .int .i64 0, .int .i64 0, .int .i64 255, .bool false, .bool false, .int .i64 0, .int .i64 0, .int .i64 0, .int .i64 0, .int .i64 0, .int .i64 0, .int .i64 0, .int .u32 0, .int .i64 0, .int .i64 0, .slice none 0 0]) := HJb.out.1
              go_upto_region 22 with (first | (with_reducible show wpList _ _ _ (Oper.mk _ (Op.load _ _) _ _ _ _ :: _) _ _; first | (refine wpl_take 32 _ rfl rfl _ 0 rfl _ K7.out [.int .i64 k, .int .i64 W, .int .i64 H, .int .u32 (p : Nat), .int .i64 iw, .int .i64 ih, .slice A l.length c] rfl _ Try.underlying32 rfl (by kernel_rfl) ?_)) | (with_reducible show wpList _ _ _ (Oper.mk _ (Op.store _ _ _) _ _ _ _ :: _) _ _; first | (refine wpl_stow 32 _ _ rfl rfl rfl _ 13 rfl [.int .i64 k, .int .i64 W, .int .i64 H, .int .u32 (p : Nat), .int .i64 iw, .int .i64 ih, .slice A l.length c] rfl _ K15.out [.int .i64 65536, .int .i64 0, .int .i64 0, .int .i64 65536, .int .i64 0, .int .i64 0, .int .i64 255, .bool false, .bool false, .int .i64 0, .int .i64 0, .int .i64 0, .int .i64 0, .int .i64 k, .int .i64 W, .int .i64 H, .int .u32 (p : Nat), .int .i64 iw, .int .i64 ih, .slice A l.length c] rfl (by simp) (by kernel_rfl) rfl ?_; intro wc HWc HKc)))
              have K14 : Hid (Blk wc g14 [.int .i64 65536, .int .i64 0, .int .i64 0, .int .i64 65536, .int .i64 0, .int .i64 0, .int .i64 255, .bool false, .bool false, .int .i64 0, .int .i64 0, .int .i64 0, .int .i64 0, .int .i64 2, .int .i64 0, .int .i64 0, .int .u32 0, .int .i64 iw, .int .i64 ih, .slice A8 l.length c8]) := HWc.out.blk h14 HJb.out.2.1
              have HBc := Lib.hid (HWc.out.below HBb.out HL15.out)
              have HXc : Hid (Row eW wc A8 l) := HXb.out.by_block fun b o e => HWc.out.far (HAa.out b o e)
              clear HXb HAa
              clear HWc HBb HJb K7 K15 h14 h7 h3 HL15
              go_wp2_with (first | (with_reducible show wpList _ _ _ (Oper.mk _ (Op.load _ _) _ _ _ _ :: _) _ _; first | (refine wpl_take 34 _ rfl rfl _ 0 rfl _ K14.out [.int .i64 65536, .int .i64 0, .int .i64 0, .int .i64 65536, .int .i64 0, .int .i64 0, .int .i64 255, .bool false, .bool false, .int .i64 0, .int .i64 0, .int .i64 0, .int .i64 0, .int .i64 2, .int .i64 0, .int .i64 0, .int .u32 0, .int .i64 iw, .int .i64 ih, .slice A8 l.length c8] rfl _ Try.underlying34 rfl (by kernel_rfl) ?_) | (refine wpl_take 34 _ rfl rfl _ 0 rfl _ HKc.out [.int .i64 65536, .int .i64 0, .int .i64 0, .int .i64 65536, .int .i64 0, .int .i64 0, .int .i64 255, .bool false, .bool false, .int .i64 0, .int .i64 0, .int .i64 0, .int .i64 0, .int .i64 k, .int .i64 W, .int .i64 H, .int .u32 (p : Nat), .int .i64 iw, .int .i64 ih, .slice A l.length c] rfl _ Try.underlying34 rfl (by kernel_rfl) ?_)))
              refine (HE.out A8 c8 _ HXc.out (HR.out.below HBc.out)).mono ?_
              rintro e wd ⟨rfl, hb⟩
              have HBd := Lib.hid (bel2 HBc.out hb)
              clear hb HBc HE K14 HKc
              go_wp2_with (fail)
              refine (HA.out _).mono ?_
              rintro e we ⟨rfl, hb⟩
              have HBe := Lib.hid (bel2 HBd.out hb)
              clear hb HBd HA
              go_wp2_with (fail)
              go_ret
              exact ⟨rfl, HBe.out⟩
            · have q2 : (k == 2) = false := by simp; omega
              have HE := Lib.hid (E0.out k1 k2)
              clear k1 k2 E0 E1 E2 BF BI HW2
              go_upto_region 20 with (fail)
              have HJ13 : Hid (JBs [(g14, [.int .i64 65536, .int .i64 0, .int .i64 0, .int .i64 65536, .int .i64 0, .int .i64 0, .int .i64 255, .bool false, .bool false, .int .i64 0, .int .i64 0, .int .i64 0, .int .i64 0, .int .i64 0, .int .i64 0, .int .i64 0, .int .u32 0, .int .i64 0, .int .i64 0, .slice none 0 0]), (g7, [.int .i64 k, .int .i64 W, .int .i64 H, .int .u32 (p : Nat), .int .i64 iw, .int .i64 ih, .slice A l.length c]), (w.heap.size, [.int .i64 ma, .int .i64 mb, .int .i64 mc, .int .i64 md, .int .i64 me, .int .i64 mf, .int .i64 op, .bool hi, .bool cl, .int .i64 x0, .int .i64 y0, .int .i64 x1, .int .i64 y1, .int .i64 k, .int .i64 W, .int .i64 H, .int .u32 (p : Nat), .int .i64 iw, .int .i64 ih, .slice A l.length c])] w11) := HJ11.out
              have HB13 : Hid (Below w.heap.size w w11) := HB11.out
              clear HJ11 HB11 K7 K14 c0 i7
              generalize w11 = w13 at *
              clear q1 q2 h7 h3 HL14 HG14
              go_wp2_with (fail)
              refine (BP.out _).mono ?_
              rintro e wa ⟨rfl, hb⟩
              have HBa := Lib.hid (bel2 HB13.out hb)
              have HJa := Lib.hid (HJ13.out.below hb)
              skip
              clear hb HB13 HJ13 BP
              go_upto_region 21 with (first | (with_reducible show wpList _ _ _ (Oper.mk _ (Op.store _ _ _) _ _ _ _ :: _) _ _; first | (refine wpl_stow 34 _ _ rfl rfl rfl _ 0 rfl [.int .i64 65536, .int .i64 0, .int .i64 0, .int .i64 65536, .int .i64 0, .int .i64 0, .int .i64 255, .bool false, .bool false, .int .i64 0, .int .i64 0, .int .i64 0, .int .i64 0, .int .i64 0, .int .i64 0, .int .i64 0, .int .u32 0, .int .i64 0, .int .i64 0, .slice none 0 0] rfl _ (blk_new wa [.int .i64 0, .int .i64 0, .int .i64 0, .int .i64 0, .int .i64 0, .int .i64 0, .int .i64 0, .bool false, .bool false, .int .i64 0, .int .i64 0, .int .i64 0, .int .i64 0, .int .i64 0, .int .i64 0, .int .i64 0, .int .u32 0, .int .i64 0, .int .i64 0, .slice none 0 0] 34) [.int .i64 65536, .int .i64 0, .int .i64 0, .int .i64 65536, .int .i64 0, .int .i64 0, .int .i64 255, .bool false, .bool false, .int .i64 0, .int .i64 0, .int .i64 0, .int .i64 0, .int .i64 0, .int .i64 0, .int .i64 0, .int .u32 0, .int .i64 0, .int .i64 0, .slice none 0 0] rfl (by simp) (by kernel_rfl) rfl ?_; intro wb HWb HKb)))
              have HJb : Hid (JBs [(wa.heap.size, [.int .i64 65536, .int .i64 0, .int .i64 0, .int .i64 65536, .int .i64 0, .int .i64 0, .int .i64 255, .bool false, .bool false, .int .i64 0, .int .i64 0, .int .i64 0, .int .i64 0, .int .i64 0, .int .i64 0, .int .i64 0, .int .u32 0, .int .i64 0, .int .i64 0, .slice none 0 0]), (g14, [.int .i64 65536, .int .i64 0, .int .i64 0, .int .i64 65536, .int .i64 0, .int .i64 0, .int .i64 255, .bool false, .bool false, .int .i64 0, .int .i64 0, .int .i64 0, .int .i64 0, .int .i64 0, .int .i64 0, .int .i64 0, .int .u32 0, .int .i64 0, .int .i64 0, .slice none 0 0]), (g7, [.int .i64 k, .int .i64 W, .int .i64 H, .int .u32 (p : Nat), .int .i64 iw, .int .i64 ih, .slice A l.length c]), (w.heap.size, [.int .i64 ma, .int .i64 mb, .int .i64 mc, .int .i64 md, .int .i64 me, .int .i64 mf, .int .i64 op, .bool hi, .bool cl, .int .i64 x0, .int .i64 y0, .int .i64 x1, .int .i64 y1, .int .i64 k, .int .i64 W, .int .i64 H, .int .u32 (p : Nat), .int .i64 iw, .int .i64 ih, .slice A l.length c])] wb) := HJa.out.made HWb.out HKb.out
              have HBb := Lib.hid (HWb.out.made HBa.out)
              have h14 : g14 ≠ wa.heap.size := Nat.ne_of_lt HJa.out.1.inside
              have h7 : g7 ≠ wa.heap.size := Nat.ne_of_lt HJa.out.2.1.inside
              have h3 : w.heap.size ≠ wa.heap.size := Nat.ne_of_lt HJa.out.2.2.1.inside
              have HL15 : Hid (w.heap.size ≤ wa.heap.size) := HBa.out.size
              skip
              clear HWb HKb HBa HJa
              generalize wa.heap.size = g15 at *
              have K7 : Hid (Blk wb g7 [.int .i64 k, .int .i64 W, .int .i64 H, .int .u32 (p : Nat), .int .i64 iw, .int .i64 ih, .slice A l.length c]) := HJb.out.2.2.1
              have K15 : Hid (Blk wb g15 [.int .i64 65536, .int .i64 0, .int .i64 0, .int .i64 65536, .int .i64 0, .int .i64 0, .int .i64 255, .bool false, .bool false, .int .i64 0, .int .i64 0, .int .i64 0, .int .i64 0, .int .i64 0, .int .i64 0, .int .i64 0, .int .u32 0, .int .i64 0, .int .i64 0, .slice none 0 0]) := HJb.out.1
              go_upto_region 22 with (first | (with_reducible show wpList _ _ _ (Oper.mk _ (Op.load _ _) _ _ _ _ :: _) _ _; first | (refine wpl_take 32 _ rfl rfl _ 0 rfl _ K7.out [.int .i64 k, .int .i64 W, .int .i64 H, .int .u32 (p : Nat), .int .i64 iw, .int .i64 ih, .slice A l.length c] rfl _ Try.underlying32 rfl (by kernel_rfl) ?_)) | (with_reducible show wpList _ _ _ (Oper.mk _ (Op.store _ _ _) _ _ _ _ :: _) _ _; first | (refine wpl_stow 32 _ _ rfl rfl rfl _ 13 rfl [.int .i64 k, .int .i64 W, .int .i64 H, .int .u32 (p : Nat), .int .i64 iw, .int .i64 ih, .slice A l.length c] rfl _ K15.out [.int .i64 65536, .int .i64 0, .int .i64 0, .int .i64 65536, .int .i64 0, .int .i64 0, .int .i64 255, .bool false, .bool false, .int .i64 0, .int .i64 0, .int .i64 0, .int .i64 0, .int .i64 k, .int .i64 W, .int .i64 H, .int .u32 (p : Nat), .int .i64 iw, .int .i64 ih, .slice A l.length c] rfl (by simp) (by kernel_rfl) rfl ?_; intro wc HWc HKc)))
              have K14 : Hid (Blk wc g14 [.int .i64 65536, .int .i64 0, .int .i64 0, .int .i64 65536, .int .i64 0, .int .i64 0, .int .i64 255, .bool false, .bool false, .int .i64 0, .int .i64 0, .int .i64 0, .int .i64 0, .int .i64 0, .int .i64 0, .int .i64 0, .int .u32 0, .int .i64 0, .int .i64 0, .slice none 0 0]) := HWc.out.blk h14 HJb.out.2.1
              have HBc := Lib.hid (HWc.out.below HBb.out HL15.out)
              skip
              clear HWc HBb HJb K7 K15 h14 h7 h3 HL15
              go_wp2_with (first | (with_reducible show wpList _ _ _ (Oper.mk _ (Op.load _ _) _ _ _ _ :: _) _ _; first | (refine wpl_take 34 _ rfl rfl _ 0 rfl _ K14.out [.int .i64 65536, .int .i64 0, .int .i64 0, .int .i64 65536, .int .i64 0, .int .i64 0, .int .i64 255, .bool false, .bool false, .int .i64 0, .int .i64 0, .int .i64 0, .int .i64 0, .int .i64 0, .int .i64 0, .int .i64 0, .int .u32 0, .int .i64 0, .int .i64 0, .slice none 0 0] rfl _ Try.underlying34 rfl (by kernel_rfl) ?_) | (refine wpl_take 34 _ rfl rfl _ 0 rfl _ HKc.out [.int .i64 65536, .int .i64 0, .int .i64 0, .int .i64 65536, .int .i64 0, .int .i64 0, .int .i64 255, .bool false, .bool false, .int .i64 0, .int .i64 0, .int .i64 0, .int .i64 0, .int .i64 k, .int .i64 W, .int .i64 H, .int .u32 (p : Nat), .int .i64 iw, .int .i64 ih, .slice A l.length c] rfl _ Try.underlying34 rfl (by kernel_rfl) ?_)))
              refine (HE.out _ (HR.out.below HBc.out)).mono ?_
              rintro e wd ⟨rfl, hb⟩
              have HBd := Lib.hid (bel2 HBc.out hb)
              clear hb HBc HE K14 HKc
              go_wp2_with (fail)
              refine (HA.out _).mono ?_
              rintro e we ⟨rfl, hb⟩
              have HBe := Lib.hid (bel2 HBd.out hb)
              clear hb HBd HA
              go_wp2_with (fail)
              go_ret
              exact ⟨rfl, HBe.out⟩
    · have HR := Lib.hid hr
      clear hbig hlen hc hz hp hr
      generalize lkC k W H p iw ih l = V at *
      have qV : (V != 0) = true := by simp; omega
      clear hY
      unfold ndV at *
      obtain ⟨ma, mb, mc, md, me, mf⟩ := m
      obtain ⟨x0, y0, x1, y1⟩ := r
      simp only at BR BC ⊢
      have HB0 : Hid (Below w.heap.size w (w.alloc (.cells #[.int .i64 ma, .int .i64 mb, .int .i64 mc, .int .i64 md, .int .i64 me, .int .i64 mf, .int .i64 op, .bool hi, .bool cl, .int .i64 x0, .int .i64 y0, .int .i64 x1, .int .i64 y1, .int .i64 k, .int .i64 W, .int .i64 H, .int .u32 (p : Nat), .int .i64 iw, .int .i64 ih, .slice A l.length c] 34))) := (Below.refl _ _).alloc (Nat.le_refl _) _
      have HK0 : Hid (Blk (w.alloc (.cells #[.int .i64 ma, .int .i64 mb, .int .i64 mc, .int .i64 md, .int .i64 me, .int .i64 mf, .int .i64 op, .bool hi, .bool cl, .int .i64 x0, .int .i64 y0, .int .i64 x1, .int .i64 y1, .int .i64 k, .int .i64 W, .int .i64 H, .int .u32 (p : Nat), .int .i64 iw, .int .i64 ih, .slice A l.length c] 34)) w.heap.size [.int .i64 ma, .int .i64 mb, .int .i64 mc, .int .i64 md, .int .i64 me, .int .i64 mf, .int .i64 op, .bool hi, .bool cl, .int .i64 x0, .int .i64 y0, .int .i64 x1, .int .i64 y1, .int .i64 k, .int .i64 W, .int .i64 H, .int .u32 (p : Nat), .int .i64 iw, .int .i64 ih, .slice A l.length c]) := blk_new w [.int .i64 ma, .int .i64 mb, .int .i64 mc, .int .i64 md, .int .i64 me, .int .i64 mf, .int .i64 op, .bool hi, .bool cl, .int .i64 x0, .int .i64 y0, .int .i64 x1, .int .i64 y1, .int .i64 k, .int .i64 W, .int .i64 H, .int .u32 (p : Nat), .int .i64 iw, .int .i64 ih, .slice A l.length c] _
      go_enter Try.func4, Try.ntmps4
      go_wp2_with (first | (with_reducible show wpList _ _ _ (Oper.mk _ (Op.load _ _) _ _ _ _ :: _) _ _; first | (refine wpl_take 34 _ rfl rfl _ 0 rfl _ HK0.out [.int .i64 ma, .int .i64 mb, .int .i64 mc, .int .i64 md, .int .i64 me, .int .i64 mf, .int .i64 op, .bool hi, .bool cl, .int .i64 x0, .int .i64 y0, .int .i64 x1, .int .i64 y1, .int .i64 k, .int .i64 W, .int .i64 H, .int .u32 (p : Nat), .int .i64 iw, .int .i64 ih, .slice A l.length c] rfl _ Try.underlying34 rfl (by kernel_rfl) ?_)))
      generalize (w.alloc (.cells #[.int .i64 ma, .int .i64 mb, .int .i64 mc, .int .i64 md, .int .i64 me, .int .i64 mf, .int .i64 op, .bool hi, .bool cl, .int .i64 x0, .int .i64 y0, .int .i64 x1, .int .i64 y1, .int .i64 k, .int .i64 W, .int .i64 H, .int .u32 (p : Nat), .int .i64 iw, .int .i64 ih, .slice A l.length c] 34)) = wz at *
      refine (BR.out _ (HR.out.below HB0.out)).mono ?_
      rintro e w1 ⟨A9, c9, rfl, hx, -, -, hb⟩
      have HB1 := Lib.hid (bel2 HB0.out hb)
      have HX1 := Lib.hid hx
      clear hb hx HB0 HK0
      go_wp2_with (fail)
      refine (BC.out A9 c9 _ HX1.out).mono ?_
      rintro e w2 ⟨rfl, hb⟩
      have HB2 := Lib.hid (bel2 HB1.out hb)
      clear hb BC HB1 HX1
      go_wp2_with (fail)
      refine (HA.out _).mono ?_
      rintro e w3 ⟨rfl, hb⟩
      have HB3 := Lib.hid (bel2 HB2.out hb)
      clear hb HA HB2
      go_wp2_with (fail)
      go_ret
      exact ⟨rfl, HB3.out⟩
end Go.Proofs.Ytfmlecjobpdbbaa
