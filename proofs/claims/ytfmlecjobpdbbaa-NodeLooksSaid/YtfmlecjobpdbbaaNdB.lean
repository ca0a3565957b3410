/-
  Layer 11: slices of pixels compared and copied, of any length; images compared and copied.
-/
import Derived.Test.YtfmlecjobpdbbaaNdA
import Derived.Test.YtfmlecjobpdbbaaImB
import Derived.Deep.RegionHeld3
import Derived.Laws.Cover3
namespace Go.Proofs.Ytfmlecjobpdbbaa
open Go.RowKit pxm imm

theorem take_eq_snoc {a b : List Nat} {k : Nat} (h : a.take k = b.take k) (ha : k < a.length) (hb : k < b.length) (e : a[k] = b[k]) : a.take (k + 1) = b.take (k + 1) := by
  rw [List.take_succ_eq_append_getElem ha, List.take_succ_eq_append_getElem hb, h, e]
theorem ne_of_at {a b : List Nat} {k : Nat} (ha : k < a.length) (hb : k < b.length) (e : ¬ a[k] = b[k]) : decide (a = b) = false :=
  decide_eq_false fun h => e (by subst h; rfl)
set_option maxHeartbeats 1000000 in
theorem eqs_any (A1 A2 : Option Addr) (l1 l2 : List Nat) (c1 c2 : Nat) (w : World) (h1 : Row eW w A1 l1) (h2 : Row eW w A2 l2) (m1 : l1.length ≤ maxLen) (m2 : l2.length ≤ maxLen) :
    Calls Try.prog 49 #[.slice A1 l1.length c1, .slice A2 l2.length c2] w fun e w' => e = .returned (.bool (decide (l1 = l2))) ∧ Below w.heap.size w w' := by
  have HR := Lib.hid (And.intro h1 h2)
  have m1 : l1.length ≤ 9223372036854775807 := by unfold maxLen at m1; omega
  have m2 : l2.length ≤ 9223372036854775807 := by unfold maxLen at m2; omega
  clear h1 h2
  by_cases hn : l1.length = l2.length
  · have q : ((l1.length : Int) != (l2.length : Int)) = false := by simp; omega
    have HN := Lib.hid hn
    clear hn
    go_enter Try.func49, Try.ntmps49
    go_wp2_with (fail)
    clear q
    go_loopw [13] (fun i wr => ∃ k : Nat, k ≤ l1.length ∧ i = .int .i64 k ∧ Hid (l1.take k = l2.take k) ∧ Hid (Drew w wr)) (fun i _ => l1.length - (intOf i).toNat)
    case atStart => exact ⟨0, Nat.zero_le _, rfl, rfl, Drew.refl _⟩
    case round =>
      obtain ⟨k, hk, rfl, HK, HD⟩ := hrel
      by_cases hlt : k < l1.length
      · have t : decide (k < l1.length) = true := by simpa using hlt
        have hlt2 : k < l2.length := by rw [← HN.out]; exact hlt
        obtain ⟨b1, o1, rfl, k1⟩ := (HR.out.1.below (HD.out.below _)).at_ hlt
        obtain ⟨b2, o2, rfl, k2⟩ := (HR.out.2.below (HD.out.below _)).at_ hlt2
        have HS := Lib.hid (fun e => take_eq_snoc HK.out hlt hlt2 e)
        have HO := Lib.hid (fun e => ne_of_at hlt hlt2 e)
        generalize l1[k] = x at *
        generalize l2[k] = y at *
        unfold eW at k1 k2
        by_cases e : x = y
        · have HS2 := Lib.hid (HS.out e)
          have q : ((x : Int) != (y : Int)) = false := by simp; omega
          clear HS HO e HN
          go_wp2_with (fail)
          go_quiet (fail)
          go_wp2_with (fail)
          go_roundw
          case rel => exact ⟨k + 1, by omega, by go_num, HS2, HD.out.trans ⟨_, rfl⟩⟩
          case measure => simp [intOf]; omega
        · have HO2 := Lib.hid (HO.out e)
          have q : ((x : Int) != (y : Int)) = true := by simp; omega
          clear HS HO e HN
          go_wp2_with (fail)
          go_quiet (fail)
          go_wp2_with (fail)
          go_ret
          exact ⟨ret_bool HO2.out.symm, (HD.out.trans ⟨_, rfl⟩).below _⟩
      · obtain rfl : k = l1.length := by omega
        have HF : Hid (decide (l1 = l2) = true) := decide_eq_true (by have := HK.out; rw [List.take_length, HN.out, List.take_length] at this; exact this)
        have t : decide (l1.length < l1.length) = false := by simp
        go_wp2_with (fail)
        go_ret
        exact ⟨ret_bool HF.out.symm, HD.out.below _⟩
  · have q : ((l1.length : Int) != (l2.length : Int)) = true := by simp; omega
    have HF : Hid (decide (l1 = l2) = false) := decide_eq_false fun e => hn (by rw [e])
    clear hn
    go_enter Try.func49, Try.ntmps49
    go_wp2_with (fail)
    go_ret
    exact ⟨ret_bool HF.out.symm, Below.refl _ _⟩
def eqB (W1 H1 : Int) (l1 : List Nat) (W2 H2 : Int) (l2 : List Nat) : Bool := decide (W1 = W2) && (decide (H1 = H2) && decide (l1 = l2))
set_option maxHeartbeats 1000000 in
theorem equal_any (W1 H1 : Int) (A1 : Option Addr) (l1 : List Nat) (c1 : Nat) (W2 H2 : Int) (A2 : Option Addr) (l2 : List Nat) (c2 : Nat) (w : World) (h1 : Row eW w A1 l1) (h2 : Row eW w A2 l2) (m1 : l1.length ≤ maxLen) (m2 : l2.length ≤ maxLen) :
    Calls Try.prog 43 #[imV W1 H1 A1 l1.length c1, imV W2 H2 A2 l2.length c2] w fun e w' => e = .returned (.bool (eqB W1 H1 l1 W2 H2 l2)) ∧ Below w.heap.size w w' := by
  have HR := Lib.hid (And.intro h1 h2)
  have HE := Lib.hid (fun w h1 h2 => eqs_any A1 A2 l1 l2 c1 c2 w h1 h2 m1 m2)
  have HQ : Hid (eqB W1 H1 l1 W2 H2 l2 = (decide (W1 = W2) && (decide (H1 = H2) && decide (l1 = l2)))) := rfl
  clear h1 h2 m1 m2
  generalize eqB W1 H1 l1 W2 H2 l2 = R at *
  generalize decide (l1 = l2) = y at *
  unfold imV
  by_cases t1 : W1 = W2
  · have q1 : (W1 == W2) = true := by simpa using t1
    rw [decide_eq_true t1, Bool.true_and] at HQ
    clear t1
    by_cases t2 : H1 = H2
    · have q2 : (H1 == H2) = true := by simpa using t2
      rw [decide_eq_true t2, Bool.true_and] at HQ
      clear t2
      go_enter Try.func43, Try.ntmps43
      go_wp2_with (fail)
      have HB : Hid (Below w.heap.size w ((w.alloc (.cells #[.int .i64 W1, .int .i64 H1, .slice A1 l1.length c1] 30)).alloc (.cells #[.int .i64 W2, .int .i64 H2, .slice A2 l2.length c2] 30))) := ((Below.refl _ _).alloc (Nat.le_refl _) _).alloc (by simp) _
      refine (HE.out _ (HR.out.1.below HB.out) (HR.out.2.below HB.out)).mono ?_
      rintro e w2 ⟨rfl, hb⟩
      have HB2 : Hid (Below w.heap.size w w2) := HB.out.trans (hb.mono HB.out.size)
      clear hb HE
      go_wp2_with (fail)
      go_ret
      exact ⟨ret_bool HQ.out.symm, HB2.out⟩
    · have q2 : (H1 == H2) = false := by simpa using t2
      rw [decide_eq_false t2, Bool.false_and] at HQ
      clear t2 HE
      go_enter Try.func43, Try.ntmps43
      go_wp2_with (fail)
      go_ret
      exact ⟨ret_bool HQ.out.symm, ((Below.refl _ _).alloc (Nat.le_refl _) _).alloc (by simp) _⟩
  · have q1 : (W1 == W2) = false := by simpa using t1
    rw [decide_eq_false t1, Bool.false_and] at HQ
    clear t1 HE
    go_enter Try.func43, Try.ntmps43
    go_wp2_with (fail)
    go_ret
    exact ⟨ret_bool HQ.out.symm, ((Below.refl _ _).alloc (Nat.le_refl _) _).alloc (by simp) _⟩
theorem info_px : (Try.prog.info? 27).map (fun i => (i.zero, i.size, i.bytes)) = some (some (.int .u32 0), 1, 4) := by kernel_rfl
theorem slice_nil (A : Option Addr) (n c : Nat) (w : World) : (binOp .eql 28 (.slice A n c) (.slice none 0 0)).run Try.prog w = .ok (.bool A.isNone) w := by
  have h := run_equal_slice_nil (P := Try.prog) w 28 _ A n c Try.underlying28
  unfold binOp
  simp [h, go_sem]
def eWs (z : Nat) : List Value := [eW z]
theorem eWs_len (z : Nat) : (eWs z).length = 1 := rfl
theorem flat_eWs (l : List Nat) : l.flatMap eWs = l.map eW := by
  induction l with
  | nil => rfl
  | cons x l ih => rw [List.flatMap_cons, ih, List.map_cons]; rfl
theorem SRow.row1 {w : World} {A : Option Addr} {l : List Nat} (h : SRow 1 eWs w A l) : Row eW w A l := fun hn => by
  obtain ⟨b, off, e, hc⟩ := h hn
  refine ⟨b, off, e, fun j hj => ?_⟩
  have := hc j hj 0 (eW l[j]) rfl
  rwa [Nat.mul_one, Nat.add_zero] at this
theorem Row.by_block {w w' : World} {A : Option Addr} {l : List Nat} (h : Row eW w A l) (hb : ∀ b o, A = some ⟨b, o, none⟩ → w'.heap[b]? = w.heap[b]?) : Row eW w' A l := fun hn => by
  obtain ⟨b, off, e, hc⟩ := h hn
  refine ⟨b, off, e, fun j hj => ?_⟩
  rw [← hc j hj]
  simp only [World.cell?, hb b off e]
/-- pixels, and where they lie -/
def Pxs (w : World) (base : Nat) (A : Option Addr) (l : List Nat) (c : Nat) : Prop := Row eW w A l ∧ (∀ b o, A = some ⟨b, o, none⟩ → base ≤ b) ∧ (A = none → c = 0) ∧ l.length ≤ c ∧ c ≤ maxLen
def CloneQ (l : List Nat) (w : World) (e : Ending) (w' : World) : Prop := ∃ A9 cap, e = .returned (.slice A9 l.length cap) ∧ Pxs w' w.heap.size A9 l cap ∧ Below w.heap.size w w'
set_option maxHeartbeats 1000000 in
theorem clone_any (A : Option Addr) (l : List Nat) (c : Nat) (w : World) (hr : Row eW w A l) (hn2 : l.length ≤ 20000000) : Calls Try.prog 48 #[.slice A l.length c] w (CloneQ l w) := by
  unfold CloneQ
  cases A with
  | none =>
    obtain rfl : l = [] := by
      by_cases h : 0 < l.length
      · obtain ⟨b, o, e, _⟩ := hr h
        cases e
      · exact List.eq_nil_of_length_eq_zero (by omega)
    clear hr hn2
    have hq : ∀ w, (binOp .eql 28 (.slice none 0 c) (.slice none 0 0)).run Try.prog w = .ok (.bool true) w := fun w => slice_nil none 0 c w
    simp only [List.length_nil]
    go_enter Try.func48, Try.ntmps48
    go_wp2_with (fail)
    go_ret
    exact ⟨none, 0, rfl, ⟨Row.none_ rfl, (fun _ _ h => nomatch h), (fun _ => rfl), Nat.le_refl _, by unfold maxLen; omega⟩, Below.refl _ _⟩
  | some a =>
    have hl : SOwn 27 1 eWs (w.alloc (.cells #[] 27)) w.heap.size (.slice (some ⟨w.heap.size, 0, none⟩) 0 0) [] := SOwn.lit eWs_len w [] (Nat.le_refl _) (by simp)
    obtain ⟨i, hi, hz, hsize, hby⟩ := info_parts info_px
    obtain ⟨v', w', hrun, ho, hg, hnil, -⟩ := run_append_own_at (P := Try.prog) (w.alloc (.cells #[] 27)) w.heap.size 28 28 27 i (.int .u32 0) 1 4 Try.underlying28 hi hz hsize hby rfl (by decide) _ 0 [] hl a l.length c (l.map eW) (by simp) (by
        intro j u hj
        obtain ⟨h1, h2⟩ := List.getElem?_eq_some_iff.1 hj
        rw [List.length_map] at h1
        obtain ⟨b, off, e, hc⟩ := (hr.alloc (.cells #[] 27)) (by omega)
        obtain rfl := Option.some.inj e
        have e2 : (⟨b, off, none⟩ : Addr).add j = ⟨b, off + j, none⟩ := by unfold Addr.add; split <;> simp_all
        rw [e2, hc j h1, ← h2, List.getElem_map]) (by
        intro u hu
        obtain ⟨z, _, rfl⟩ := List.mem_map.1 hu
        rfl) (by unfold maxLen; omega) (by omega) (by simp)
    have HO : Hid (SOwn 27 1 eWs w' w.heap.size v' l) := by
      rw [Nat.zero_add, List.nil_append, ← flat_eWs] at ho
      exact ho
    have HB : Hid (Below w.heap.size w w') := by
      have h1 : Below w.heap.size w (w.alloc (.cells #[] 27)) := (Below.refl _ _).alloc (Nat.le_refl _) _
      exact h1.grown hg (by simp) (fun j hj => by cases hj; exact Nat.le_refl _)
    have hn3 : l.length ≤ 9223372036854775807 := by omega
    have HNI := Lib.hid hnil
    clear hr hl ho hg hn2 hnil hi hz hsize hby
    have hq : ∀ w, (binOp .eql 28 (.slice (some a) l.length c) (.slice none 0 0)).run Try.prog w = .ok (.bool false) w := fun w => slice_nil _ _ _ w
    go_enter Try.func48, Try.ntmps48
    go_wp2_with (at_builtin; refine wpl_append rfl _ _ 28 28 28 rfl rfl _ _ _ _ rfl rfl hrun ?_; clear hrun)
    go_ret
    obtain ⟨A9, c9, rfl, h1, h2, h3⟩ := HO.out.row eWs_len
    refine ⟨A9, c9, rfl, ⟨h3.row1, (fun b o e => ?_), (fun e => ?_), h1, h2⟩, HB.out⟩
    · subst e
      exact (HO.out.block rfl).1
    · subst e
      rcases HO.out.2 with ⟨h, _⟩ | ⟨g, cap, cur, h, _⟩
      · injection h
      · injection h with h _ _; cases h
def CopyQ (W H : Int) (l : List Nat) (w : World) (e : Ending) (w' : World) : Prop := ∃ A9 cap, e = .returned (imV W H A9 l.length cap) ∧ Pxs w' w.heap.size A9 l cap ∧ Below w.heap.size w w'
set_option maxHeartbeats 2000000 in
set_option maxRecDepth 100000 in
theorem copy_any (W H : Int) (A : Option Addr) (l : List Nat) (c : Nat) (w : World) (hr : Row eW w A l) (hn2 : l.length ≤ 20000000) : Calls Try.prog 37 #[imV W H A l.length c] w (CopyQ W H l w) := by
  have HR := Lib.hid hr
  have HC := Lib.hid (fun w hr => clone_any A l c w hr hn2)
  unfold CloneQ at HC
  unfold CopyQ
  have hn3 : l.length ≤ 9223372036854775807 := by omega
  clear hr hn2
  unfold imV
  go_enter Try.func37, Try.ntmps37
  go_wp2_with (fail)
  obtain ⟨w1, hw1⟩ : ∃ w1, ((w.alloc (.cells #[.int .i64 W, .int .i64 H, .slice A l.length c] 30)).alloc (.cells #[.int .i64 0, .int .i64 0, .slice none 0 0] 30)) = w1 := ⟨_, rfl⟩
  have HB1 : Hid (Below w.heap.size w w1) := by rw [← hw1]; exact ((Below.refl _ _).alloc (Nat.le_refl _) _).alloc (by simp) _
  have KM : Hid (Blk w1 w.heap.size [.int .i64 W, .int .i64 H, .slice A l.length c]) := by rw [← hw1]; exact (blk_new w [.int .i64 W, .int .i64 H, .slice A l.length c] _).alloc _
  have KR : Hid (Blk w1 (w.heap.size + 1) [.int .i64 0, .int .i64 0, .slice none 0 0]) := by rw [← hw1]; exact blk_at (w.alloc _) _ (by simp) [.int .i64 0, .int .i64 0, .slice none 0 0] _
  rw [hw1]
  clear hw1
  obtain ⟨⟨c0, c1, c2⟩, -, ci⟩ := KM.out.c3
  have HB1d : Hid (Below w.heap.size w w1.drew) := HB1.out.drew
  have KMd : Hid (Blk w1.drew w.heap.size [.int .i64 W, .int .i64 H, .slice A l.length c]) := KM.out
  have KRd : Hid (Blk w1.drew (w.heap.size + 1) [.int .i64 0, .int .i64 0, .slice none 0 0]) := KR.out
  go_region_held3 (fun w' => w'.cell? ⟨w.heap.size, 0, none⟩ = some (.int .i64 W) ∧ w'.cell? ⟨w.heap.size, 1, none⟩ = some (.int .i64 H) ∧ w'.cell? ⟨w.heap.size, 2, none⟩ = some (.slice A l.length c))
    (first | exact ⟨KMd.out.c3.1.1, KMd.out.c3.1.2.1, KMd.out.c3.1.2.2⟩ | exact ⟨x0, x1, x2⟩ | go_keep)
    ((first | (go_at_call 48; refine (HC.out _ (HR.out.below HB1d.out)).mono ?_; rintro e w2 ⟨A9, cap9, rfl, hx9, hb9⟩; have k2 : Blk w2 w.heap.size [.int .i64 W, .int .i64 H, .slice A l.length c] := KMd.out.below' hb9; have k3 : Blk w2 (w.heap.size + 1) [.int .i64 0, .int .i64 0, .slice none 0 0] := KRd.out.below' hb9; have x0 : w2.cell? ⟨w.heap.size, 0, none⟩ = some (.int .i64 W) := k2.c3.1.1; have x1 : w2.cell? ⟨w.heap.size, 1, none⟩ = some (.int .i64 H) := k2.c3.1.2.1; have x2 : w2.cell? ⟨w.heap.size, 2, none⟩ = some (.slice A l.length c) := k2.c3.1.2.2; have y0 : w2.cell? ⟨w.heap.size + 1, 0, none⟩ = some (.int .i64 0) := k3.c3.1.1; have y1 : w2.cell? ⟨w.heap.size + 1, 1, none⟩ = some (.int .i64 0) := k3.c3.1.2.1; have y2 : w2.cell? ⟨w.heap.size + 1, 2, none⟩ = some (.slice none 0 0) := k3.c3.1.2.2; have z0 : w2.frozen? ⟨w.heap.size + 1, 0, none⟩ = false := k3.c3.2.1.1; have z1 : w2.frozen? ⟨w.heap.size + 1, 1, none⟩ = false := k3.c3.2.1.2.1; have z2 : w2.frozen? ⟨w.heap.size + 1, 2, none⟩ = false := k3.c3.2.1.2.2; have hlt2 : w.heap.size + 1 < w2.heap.size := k3.c3.2.2)))
  have hz1 : w1.drew.heap.size = w1.heap.size := rfl
  have HX : Hid (Pxs (((w2.setCell ⟨w.heap.size + 1, 0, none⟩ (.int .i64 W)).setCell ⟨w.heap.size + 1, 1, none⟩ (.int .i64 H)).setCell ⟨w.heap.size + 1, 2, none⟩ (.slice A9 l.length cap9)) w.heap.size A9 l cap9) := by
    refine ⟨hx9.1.by_block fun b o e => ?_, fun b o e => Nat.le_trans HB1d.out.size (hx9.2.1 b o e), hx9.2.2⟩
    have hne : b ≠ w.heap.size + 1 := by have := hx9.2.1 b o e; have := KR.out.inside; have : w1.drew.heap.size = w1.heap.size := rfl; omega
    rw [Below.heap_setCell _ _ _ _ hne, Below.heap_setCell _ _ _ _ hne, Below.heap_setCell _ _ _ _ hne]
  have HB2 : Hid (Below w.heap.size w (((w2.setCell ⟨w.heap.size + 1, 0, none⟩ (.int .i64 W)).setCell ⟨w.heap.size + 1, 1, none⟩ (.int .i64 H)).setCell ⟨w.heap.size + 1, 2, none⟩ (.slice A9 l.length cap9))) :=
    below_set (below_set (below_set (HB1d.out.trans (hb9.mono HB1d.out.size)) (by omega)) (by omega)) (by omega)
  have HK := Lib.hid (((k3.set 0 (.int .i64 W)).set 1 (.int .i64 H)).set 2 (.slice A9 l.length cap9))
  clear hx9 hb9 k2 k3 x0 x1 x2 y0 y1 y2 z0 z1 z2 hlt2 c0 c1 c2 ci
  generalize (((w2.setCell ⟨w.heap.size + 1, 0, none⟩ (.int .i64 W)).setCell ⟨w.heap.size + 1, 1, none⟩ (.int .i64 H)).setCell ⟨w.heap.size + 1, 2, none⟩ (.slice A9 l.length cap9)) = w5 at *
  go_wp2_with (fail)
  exact blk_ret rfl rfl HK.out Try.underlying30 rfl (by kernel_rfl) ⟨A9, cap9, rfl, HX.out, HB2.out⟩
end Go.Proofs.Ytfmlecjobpdbbaa
