/-
  Nodes.
-/
import Derived.Test.YtgadheamldianaaEvB
import Derived.Test.YtgadheamldianaaEvC
import Derived.Deep.RegionHeld3
import Derived.Laws.Cover3
import Derived.Test.YtgadheamldianaaEvA
import Derived.ChangeKeysEq
import Derived.Deep.Grids
import Derived.Deep.DeepCutAuto
import Derived.Deep.CutBlock

set_option maxRecDepth 100000
namespace Go.Proofs.Ytgadheamldianaa
open Go.RowKit

end Go.Proofs.Ytgadheamldianaa

namespace Go.Proofs.Ytgadheamldianaa
open Go.RowKit pxm imm

theorem take_eq_snocI {a b : List Nat} {k : Nat} (h : a.take k = b.take k) (ha : k < a.length) (hb : k < b.length) (e : a[k] = b[k]) : a.take (k + 1) = b.take (k + 1) := by
  rw [List.take_succ_eq_append_getElem ha, List.take_succ_eq_append_getElem hb, h, e]
theorem ne_of_atI {a b : List Nat} {k : Nat} (ha : k < a.length) (hb : k < b.length) (e : ¬ a[k] = b[k]) : decide (a = b) = false :=
  decide_eq_false fun h => e (by subst h; rfl)
set_option maxHeartbeats 1000000 in
theorem eqs_any (A1 A2 : Option Addr) (l1 l2 : List Nat) (c1 c2 : Nat) (w : World) (h1 : Row eW w A1 l1) (h2 : Row eW w A2 l2) (m1 : l1.length ≤ maxLen) (m2 : l2.length ≤ maxLen) :
    Calls Try.prog 34 #[.slice A1 l1.length c1, .slice A2 l2.length c2] w fun e w' => e = .returned (.bool (decide (l1 = l2))) ∧ Below w.heap.size w w' := by
  have HR := Lib.hid (And.intro h1 h2)
  have m1 : l1.length ≤ 9223372036854775807 := by unfold maxLen at m1; omega
  have m2 : l2.length ≤ 9223372036854775807 := by unfold maxLen at m2; omega
  clear h1 h2
  by_cases hn : l1.length = l2.length
  · have q : ((l1.length : Int) != (l2.length : Int)) = false := by simp; omega
    have HN := Lib.hid hn
    clear hn
    go_enter Try.func34, Try.ntmps34
    go_wp2_with (fail)
    clear q
    go_loopw [13] (fun i wr => ∃ k : Nat, k ≤ l1.length ∧ i = .int .i64 k ∧ Hid (l1.take k = l2.take k) ∧ Hid (Drew w wr)) (fun i _ => l1.length - (intOf i).toNat)
    case atStart => exact ⟨0, Nat.zero_le _, rfl, rfl, Drew.refl _⟩
    case round =>
      obtain ⟨k, hk, rfl, HK, HD⟩ := hrel
      by_cases hlt : k < l1.length
      · have t : decide (k < l1.length) = true := by simpa using hlt
        have hlt2 : k < l2.length := by rw [← HN.out]; exact hlt
        obtain ⟨b1, o1, rfl, k1⟩ := (HR.out.1.below (HD.out.below _)).at_ hlt
        obtain ⟨b2, o2, rfl, k2⟩ := (HR.out.2.below (HD.out.below _)).at_ hlt2
        have HS := Lib.hid (fun e => take_eq_snocI HK.out hlt hlt2 e)
        have HO := Lib.hid (fun e => ne_of_atI hlt hlt2 e)
        generalize l1[k] = x at *
        generalize l2[k] = y at *
        unfold eW at k1 k2
        by_cases e : x = y
        · have HS2 := Lib.hid (HS.out e)
          have q : ((x : Int) != (y : Int)) = false := by simp; omega
          clear HS HO e HN
          go_wp2_with (fail)
          go_quiet (fail)
          go_wp2_with (fail)
          go_roundw
          case rel => exact ⟨k + 1, by omega, by go_num, HS2, HD.out.trans ⟨_, rfl⟩⟩
          case measure => simp [intOf]; omega
        · have HO2 := Lib.hid (HO.out e)
          have q : ((x : Int) != (y : Int)) = true := by simp; omega
          clear HS HO e HN
          go_wp2_with (fail)
          go_quiet (fail)
          go_wp2_with (fail)
          go_ret
          exact ⟨ret_bool HO2.out.symm, (HD.out.trans ⟨_, rfl⟩).below _⟩
      · obtain rfl : k = l1.length := by omega
        have HF : Hid (decide (l1 = l2) = true) := decide_eq_true (by have := HK.out; rw [List.take_length, HN.out, List.take_length] at this; exact this)
        have t : decide (l1.length < l1.length) = false := by simp
        go_wp2_with (fail)
        go_ret
        exact ⟨ret_bool HF.out.symm, HD.out.below _⟩
  · have q : ((l1.length : Int) != (l2.length : Int)) = true := by simp; omega
    have HF : Hid (decide (l1 = l2) = false) := decide_eq_false fun e => hn (by rw [e])
    clear hn
    go_enter Try.func34, Try.ntmps34
    go_wp2_with (fail)
    go_ret
    exact ⟨ret_bool HF.out.symm, Below.refl _ _⟩
def eqB (W1 H1 : Int) (l1 : List Nat) (W2 H2 : Int) (l2 : List Nat) : Bool := decide (W1 = W2) && (decide (H1 = H2) && decide (l1 = l2))
set_option maxHeartbeats 1000000 in
theorem equal_any (W1 H1 : Int) (A1 : Option Addr) (l1 : List Nat) (c1 : Nat) (W2 H2 : Int) (A2 : Option Addr) (l2 : List Nat) (c2 : Nat) (w : World) (h1 : Row eW w A1 l1) (h2 : Row eW w A2 l2) (m1 : l1.length ≤ maxLen) (m2 : l2.length ≤ maxLen) :
    Calls Try.prog 32 #[imV W1 H1 A1 l1.length c1, imV W2 H2 A2 l2.length c2] w fun e w' => e = .returned (.bool (eqB W1 H1 l1 W2 H2 l2)) ∧ Below w.heap.size w w' := by
  have HR := Lib.hid (And.intro h1 h2)
  have HE := Lib.hid (fun w h1 h2 => eqs_any A1 A2 l1 l2 c1 c2 w h1 h2 m1 m2)
  have HQ : Hid (eqB W1 H1 l1 W2 H2 l2 = (decide (W1 = W2) && (decide (H1 = H2) && decide (l1 = l2)))) := rfl
  clear h1 h2 m1 m2
  generalize eqB W1 H1 l1 W2 H2 l2 = R at *
  generalize decide (l1 = l2) = y at *
  unfold imV
  by_cases t1 : W1 = W2
  · have q1 : (W1 == W2) = true := by simpa using t1
    rw [decide_eq_true t1, Bool.true_and] at HQ
    clear t1
    by_cases t2 : H1 = H2
    · have q2 : (H1 == H2) = true := by simpa using t2
      rw [decide_eq_true t2, Bool.true_and] at HQ
      clear t2
      go_enter Try.func32, Try.ntmps32
      go_wp2_with (fail)
      have HB : Hid (Below w.heap.size w ((w.alloc (.cells #[.int .i64 W1, .int .i64 H1, .slice A1 l1.length c1] 48)).alloc (.cells #[.int .i64 W2, .int .i64 H2, .slice A2 l2.length c2] 48))) := ((Below.refl _ _).alloc (Nat.le_refl _) _).alloc (by simp) _
      refine (HE.out _ (HR.out.1.below HB.out) (HR.out.2.below HB.out)).mono ?_
      rintro e w2 ⟨rfl, hb⟩
      have HB2 : Hid (Below w.heap.size w w2) := HB.out.trans (hb.mono HB.out.size)
      clear hb HE
      go_wp2_with (fail)
      go_ret
      exact ⟨ret_bool HQ.out.symm, HB2.out⟩
    · have q2 : (H1 == H2) = false := by simpa using t2
      rw [decide_eq_false t2, Bool.false_and] at HQ
      clear t2 HE
      go_enter Try.func32, Try.ntmps32
      go_wp2_with (fail)
      go_ret
      exact ⟨ret_bool HQ.out.symm, ((Below.refl _ _).alloc (Nat.le_refl _) _).alloc (by simp) _⟩
  · have q1 : (W1 == W2) = false := by simpa using t1
    rw [decide_eq_false t1, Bool.false_and] at HQ
    clear t1 HE
    go_enter Try.func32, Try.ntmps32
    go_wp2_with (fail)
    go_ret
    exact ⟨ret_bool HQ.out.symm, ((Below.refl _ _).alloc (Nat.le_refl _) _).alloc (by simp) _⟩
theorem info_px : (Try.prog.info? 45).map (fun i => (i.zero, i.size, i.bytes)) = some (some (.int .u32 0), 1, 4) := by kernel_rfl
theorem slice_nil (A : Option Addr) (n c : Nat) (w : World) : (binOp .eql 46 (.slice A n c) (.slice none 0 0)).run Try.prog w = .ok (.bool A.isNone) w := by
  have h := run_equal_slice_nil (P := Try.prog) w 46 _ A n c Try.underlying46
  unfold binOp
  simp [h, go_sem]
def eWs (z : Nat) : List Value := [eW z]
theorem eWs_len (z : Nat) : (eWs z).length = 1 := rfl
theorem flat_eWs (l : List Nat) : l.flatMap eWs = l.map eW := by
  induction l with
  | nil => rfl
  | cons x l ih => rw [List.flatMap_cons, ih, List.map_cons]; rfl
theorem SRow.row1 {w : World} {A : Option Addr} {l : List Nat} (h : SRow 1 eWs w A l) : Row eW w A l := fun hn => by
  obtain ⟨b, off, e, hc⟩ := h hn
  refine ⟨b, off, e, fun j hj => ?_⟩
  have := hc j hj 0 (eW l[j]) rfl
  rwa [Nat.mul_one, Nat.add_zero] at this
theorem Row.by_block {w w' : World} {A : Option Addr} {l : List Nat} (h : Row eW w A l) (hb : ∀ b o, A = some ⟨b, o, none⟩ → w'.heap[b]? = w.heap[b]?) : Row eW w' A l := fun hn => by
  obtain ⟨b, off, e, hc⟩ := h hn
  refine ⟨b, off, e, fun j hj => ?_⟩
  rw [← hc j hj]
  simp only [World.cell?, hb b off e]
/-- pixels, and where they lie -/
def Pxs (w : World) (base : Nat) (A : Option Addr) (l : List Nat) (c : Nat) : Prop := Row eW w A l ∧ (∀ b o, A = some ⟨b, o, none⟩ → base ≤ b ∧ ∀ j, w.frozen? ⟨b, j, none⟩ = false) ∧ (A = none → c = 0) ∧ l.length ≤ c ∧ c ≤ maxLen
def CloneQI (l : List Nat) (w : World) (e : Ending) (w' : World) : Prop := ∃ A9 cap, e = .returned (.slice A9 l.length cap) ∧ Pxs w' w.heap.size A9 l cap ∧ Below w.heap.size w w'
set_option maxHeartbeats 1000000 in
theorem clone_any (A : Option Addr) (l : List Nat) (c : Nat) (w : World) (hr : Row eW w A l) (hn2 : l.length ≤ 20000000) : Calls Try.prog 33 #[.slice A l.length c] w (CloneQI l w) := by
  unfold CloneQI
  cases A with
  | none =>
    obtain rfl : l = [] := by
      by_cases h : 0 < l.length
      · obtain ⟨b, o, e, _⟩ := hr h
        cases e
      · exact List.eq_nil_of_length_eq_zero (by omega)
    clear hr hn2
    have hq : ∀ w, (binOp .eql 46 (.slice none 0 c) (.slice none 0 0)).run Try.prog w = .ok (.bool true) w := fun w => slice_nil none 0 c w
    simp only [List.length_nil]
    go_enter Try.func33, Try.ntmps33
    go_wp2_with (fail)
    go_ret
    exact ⟨none, 0, rfl, ⟨Row.none_ rfl, (fun _ _ h => nomatch h), (fun _ => rfl), Nat.le_refl _, by unfold maxLen; omega⟩, Below.refl _ _⟩
  | some a =>
    have hl : SOwn 45 1 eWs (w.alloc (.cells #[] 45)) w.heap.size (.slice (some ⟨w.heap.size, 0, none⟩) 0 0) [] := SOwn.lit eWs_len w [] (Nat.le_refl _) (by simp)
    obtain ⟨i, hi, hz, hsize, hby⟩ := info_parts info_px
    obtain ⟨v', w', hrun, ho, hg, hnil, -⟩ := run_append_own_at (P := Try.prog) (w.alloc (.cells #[] 45)) w.heap.size 46 46 45 i (.int .u32 0) 1 4 Try.underlying46 hi hz hsize hby rfl (by decide) _ 0 [] hl a l.length c (l.map eW) (by simp) (by
        intro j u hj
        obtain ⟨h1, h2⟩ := List.getElem?_eq_some_iff.1 hj
        rw [List.length_map] at h1
        obtain ⟨b, off, e, hc⟩ := (hr.alloc (.cells #[] 45)) (by omega)
        obtain rfl := Option.some.inj e
        have e2 : (⟨b, off, none⟩ : Addr).add j = ⟨b, off + j, none⟩ := by unfold Addr.add; split <;> simp_all
        rw [e2, hc j h1, ← h2, List.getElem_map]) (by
        intro u hu
        obtain ⟨z, _, rfl⟩ := List.mem_map.1 hu
        rfl) (by unfold maxLen; omega) (by omega) (by simp)
    have HO : Hid (SOwn 45 1 eWs w' w.heap.size v' l) := by
      rw [Nat.zero_add, List.nil_append, ← flat_eWs] at ho
      exact ho
    have HB : Hid (Below w.heap.size w w') := by
      have h1 : Below w.heap.size w (w.alloc (.cells #[] 45)) := (Below.refl _ _).alloc (Nat.le_refl _) _
      exact h1.grown hg (by simp) (fun j hj => by cases hj; exact Nat.le_refl _)
    have hn3 : l.length ≤ 9223372036854775807 := by omega
    have HNI := Lib.hid hnil
    clear hr hl ho hg hn2 hnil hi hz hsize hby
    have hq : ∀ w, (binOp .eql 46 (.slice (some a) l.length c) (.slice none 0 0)).run Try.prog w = .ok (.bool false) w := fun w => slice_nil _ _ _ w
    go_enter Try.func33, Try.ntmps33
    go_wp2_with (at_builtin; refine wpl_append rfl _ _ 46 46 46 rfl rfl _ _ _ _ rfl rfl hrun ?_; clear hrun)
    go_ret
    obtain ⟨A9, c9, rfl, h1, h2, h3⟩ := HO.out.row eWs_len
    refine ⟨A9, c9, rfl, ⟨h3.row1, (fun b o e => ?_), (fun e => ?_), h1, h2⟩, HB.out⟩
    · subst e
      refine ⟨(HO.out.block rfl).1, fun j => ?_⟩
      rcases HO.out.2 with ⟨h, _⟩ | ⟨g, cap, cur, h, hg, hgg, _⟩
      · injection h with h _ _; cases h
      · injection h with h _ _
        cases h
        exact frozen_of_row _ _ _ _ _ hgg
    · subst e
      rcases HO.out.2 with ⟨h, _⟩ | ⟨g, cap, cur, h, _⟩
      · injection h
      · injection h with h _ _; cases h
def CopyQ (W H : Int) (l : List Nat) (w : World) (e : Ending) (w' : World) : Prop := ∃ A9 cap, e = .returned (imV W H A9 l.length cap) ∧ Pxs w' w.heap.size A9 l cap ∧ Below w.heap.size w w'
set_option maxHeartbeats 2000000 in
set_option maxRecDepth 100000 in
theorem copy_any (W H : Int) (A : Option Addr) (l : List Nat) (c : Nat) (w : World) (hr : Row eW w A l) (hn2 : l.length ≤ 20000000) : Calls Try.prog 31 #[imV W H A l.length c] w (CopyQ W H l w) := by
  have HR := Lib.hid hr
  have HC := Lib.hid (fun w hr => clone_any A l c w hr hn2)
  unfold CloneQI at HC
  unfold CopyQ
  have hn3 : l.length ≤ 9223372036854775807 := by omega
  clear hr hn2
  unfold imV
  go_enter Try.func31, Try.ntmps31
  go_wp2_with (fail)
  obtain ⟨w1, hw1⟩ : ∃ w1, ((w.alloc (.cells #[.int .i64 W, .int .i64 H, .slice A l.length c] 48)).alloc (.cells #[.int .i64 0, .int .i64 0, .slice none 0 0] 48)) = w1 := ⟨_, rfl⟩
  have HB1 : Hid (Below w.heap.size w w1) := by rw [← hw1]; exact ((Below.refl _ _).alloc (Nat.le_refl _) _).alloc (by simp) _
  have KM : Hid (Blk w1 w.heap.size [.int .i64 W, .int .i64 H, .slice A l.length c]) := by rw [← hw1]; exact (blk_new w [.int .i64 W, .int .i64 H, .slice A l.length c] _).alloc _
  have KR : Hid (Blk w1 (w.heap.size + 1) [.int .i64 0, .int .i64 0, .slice none 0 0]) := by rw [← hw1]; exact blk_at (w.alloc _) _ (by simp) [.int .i64 0, .int .i64 0, .slice none 0 0] _
  rw [hw1]
  clear hw1
  obtain ⟨⟨c0, c1, c2⟩, -, ci⟩ := KM.out.c3
  have HB1d : Hid (Below w.heap.size w w1.drew) := HB1.out.drew
  have KMd : Hid (Blk w1.drew w.heap.size [.int .i64 W, .int .i64 H, .slice A l.length c]) := KM.out
  have KRd : Hid (Blk w1.drew (w.heap.size + 1) [.int .i64 0, .int .i64 0, .slice none 0 0]) := KR.out
  go_region_held3 (fun w' => w'.cell? ⟨w.heap.size, 0, none⟩ = some (.int .i64 W) ∧ w'.cell? ⟨w.heap.size, 1, none⟩ = some (.int .i64 H) ∧ w'.cell? ⟨w.heap.size, 2, none⟩ = some (.slice A l.length c))
    (first | exact ⟨KMd.out.c3.1.1, KMd.out.c3.1.2.1, KMd.out.c3.1.2.2⟩ | exact ⟨x0, x1, x2⟩ | go_keep)
    ((first | (go_at_call 33; refine (HC.out _ (HR.out.below HB1d.out)).mono ?_; rintro e w2 ⟨A9, cap9, rfl, hx9, hb9⟩; have k2 : Blk w2 w.heap.size [.int .i64 W, .int .i64 H, .slice A l.length c] := KMd.out.below' hb9; have k3 : Blk w2 (w.heap.size + 1) [.int .i64 0, .int .i64 0, .slice none 0 0] := KRd.out.below' hb9; have x0 : w2.cell? ⟨w.heap.size, 0, none⟩ = some (.int .i64 W) := k2.c3.1.1; have x1 : w2.cell? ⟨w.heap.size, 1, none⟩ = some (.int .i64 H) := k2.c3.1.2.1; have x2 : w2.cell? ⟨w.heap.size, 2, none⟩ = some (.slice A l.length c) := k2.c3.1.2.2; have y0 : w2.cell? ⟨w.heap.size + 1, 0, none⟩ = some (.int .i64 0) := k3.c3.1.1; have y1 : w2.cell? ⟨w.heap.size + 1, 1, none⟩ = some (.int .i64 0) := k3.c3.1.2.1; have y2 : w2.cell? ⟨w.heap.size + 1, 2, none⟩ = some (.slice none 0 0) := k3.c3.1.2.2; have z0 : w2.frozen? ⟨w.heap.size + 1, 0, none⟩ = false := k3.c3.2.1.1; have z1 : w2.frozen? ⟨w.heap.size + 1, 1, none⟩ = false := k3.c3.2.1.2.1; have z2 : w2.frozen? ⟨w.heap.size + 1, 2, none⟩ = false := k3.c3.2.1.2.2; have hlt2 : w.heap.size + 1 < w2.heap.size := k3.c3.2.2)))
  have hz1 : w1.drew.heap.size = w1.heap.size := rfl
  have HX : Hid (Pxs (((w2.setCell ⟨w.heap.size + 1, 0, none⟩ (.int .i64 W)).setCell ⟨w.heap.size + 1, 1, none⟩ (.int .i64 H)).setCell ⟨w.heap.size + 1, 2, none⟩ (.slice A9 l.length cap9)) w.heap.size A9 l cap9) := by
    refine ⟨hx9.1.by_block fun b o e => ?_, fun b o e => ⟨Nat.le_trans HB1d.out.size (hx9.2.1 b o e).1, fun j => ?_⟩, hx9.2.2⟩
    · have hne : b ≠ w.heap.size + 1 := by have := hx9.2.1 b o e; have := KR.out.inside; have : w1.drew.heap.size = w1.heap.size := rfl; omega
      rw [Below.heap_setCell _ _ _ _ hne, Below.heap_setCell _ _ _ _ hne, Below.heap_setCell _ _ _ _ hne]
    · refine (World.frozen?_of_block ?_).trans ((hx9.2.1 b o e).2 j)
      have hne : b ≠ w.heap.size + 1 := by have := hx9.2.1 b o e; have := KR.out.inside; have : w1.drew.heap.size = w1.heap.size := rfl; omega
      rw [Below.heap_setCell _ _ _ _ hne, Below.heap_setCell _ _ _ _ hne, Below.heap_setCell _ _ _ _ hne]
  have HB2 : Hid (Below w.heap.size w (((w2.setCell ⟨w.heap.size + 1, 0, none⟩ (.int .i64 W)).setCell ⟨w.heap.size + 1, 1, none⟩ (.int .i64 H)).setCell ⟨w.heap.size + 1, 2, none⟩ (.slice A9 l.length cap9))) :=
    below_set (below_set (below_set (HB1d.out.trans (hb9.mono HB1d.out.size)) (by omega)) (by omega)) (by omega)
  have HK := Lib.hid (((k3.set 0 (.int .i64 W)).set 1 (.int .i64 H)).set 2 (.slice A9 l.length cap9))
  clear hx9 hb9 k2 k3 x0 x1 x2 y0 y1 y2 z0 z1 z2 hlt2 c0 c1 c2 ci
  generalize (((w2.setCell ⟨w.heap.size + 1, 0, none⟩ (.int .i64 W)).setCell ⟨w.heap.size + 1, 1, none⟩ (.int .i64 H)).setCell ⟨w.heap.size + 1, 2, none⟩ (.slice A9 l.length cap9)) = w5 at *
  go_wp2_with (fail)
  exact blk_ret rfl rfl HK.out Try.underlying48 rfl (by kernel_rfl) ⟨A9, cap9, rfl, HX.out, HB2.out⟩
end Go.Proofs.Ytgadheamldianaa

namespace Go.Proofs.Ytgadheamldianaa
open Go.RowKit pxm imm

/-- a look's value -/
def lkV (k W H : Int) (p : Nat) (iw ih : Int) (A : Option Addr) (n c : Nat) : Value := .agg #[.int .i64 k, .int .i64 W, .int .i64 H, .int .u32 (p : Nat), .int .i64 iw, .int .i64 ih, .slice A n c]
theorem blk7 (w : World) (k W H : Int) (p : Nat) (iw ih : Int) (A : Option Addr) (n c : Nat) (T : TypeId) : Blk (w.alloc (.cells #[.int .i64 k, .int .i64 W, .int .i64 H, .int .u32 (p : Nat), .int .i64 iw, .int .i64 ih, .slice A n c] T)) w.heap.size [.int .i64 k, .int .i64 W, .int .i64 H, .int .u32 (p : Nat), .int .i64 iw, .int .i64 ih, .slice A n c] :=
  blk_new w [.int .i64 k, .int .i64 W, .int .i64 H, .int .u32 (p : Nat), .int .i64 iw, .int .i64 ih, .slice A n c] T
theorem Blk.c7 {w : World} {g : Nat} {a b c d e f h : Value} (hB : Blk w g [a, b, c, d, e, f, h]) : (w.cell? ⟨g, 0, none⟩ = some a ∧ w.cell? ⟨g, 1, none⟩ = some b ∧ w.cell? ⟨g, 2, none⟩ = some c ∧ w.cell? ⟨g, 3, none⟩ = some d ∧ w.cell? ⟨g, 4, none⟩ = some e ∧ w.cell? ⟨g, 5, none⟩ = some f ∧ w.cell? ⟨g, 6, none⟩ = some h) ∧
    (w.frozen? ⟨g, 0, none⟩ = false ∧ w.frozen? ⟨g, 1, none⟩ = false ∧ w.frozen? ⟨g, 2, none⟩ = false ∧ w.frozen? ⟨g, 3, none⟩ = false ∧ w.frozen? ⟨g, 4, none⟩ = false ∧ w.frozen? ⟨g, 5, none⟩ = false ∧ w.frozen? ⟨g, 6, none⟩ = false) ∧ g < w.heap.size :=
  ⟨⟨hB.cell 0, hB.cell 1, hB.cell 2, hB.cell 3, hB.cell 4, hB.cell 5, hB.cell 6⟩, ⟨hB.free 0, hB.free 1, hB.free 2, hB.free 3, hB.free 4, hB.free 5, hB.free 6⟩, hB.inside⟩
def fmC (b : Bool) : Int := if b = true then 0 else 10
def hasF (W H : Int) (p : Nat) : Bool := decide (¬ (W = 0 ∧ H = 0 ∧ p = 0))
def hasI (iw ih : Int) (l : List Nat) : Bool := !eqB iw ih l 0 0 []
end Go.Proofs.Ytgadheamldianaa

namespace Go.Proofs.Ytgadheamldianaa
open Go.RowKit pxm imm

def lkC (k W H : Int) (p : Nat) (iw ih : Int) (l : List Nat) : Int :=
  if k = 0 then fmC (!hasF W H p && !hasI iw ih l) else if k = 1 then (if sidesB W H = true then fmC (rb p && !hasI iw ih l) else 11) else if k = 2 then fmC (smallB iw ih l && !hasF W H p) else 11
theorem bel2 {w w1 w2 : World} (h : Below w.heap.size w w1) (hb : Below w1.heap.size w1 w2) : Below w.heap.size w w2 := h.trans (hb.mono h.size)
end Go.Proofs.Ytgadheamldianaa

namespace Go.Proofs.Ytgadheamldianaa
open Go.RowKit pxm imm

def szW (k W iw : Int) : Int := if k = 1 then W else if k = 2 then iw else 0
def atB (X Y x y : Int) : Bool := (Bx.nrm ⟨0, 0, X, Y⟩).has x y
theorem atB_eq (X Y x y : Int) : atB X Y x y = inB X Y x y := by
  unfold atB Bx.nrm inB
  by_cases h : Bx.emp ⟨0, 0, X, Y⟩ = true
  · rw [if_pos h]
    unfold Bx.emp at h
    simp only [Bool.or_eq_true, decide_eq_true_eq] at h
    unfold Bx.has Bx.o
    rw [Bool.eq_iff_iff]
    simp only [Bool.and_eq_true, decide_eq_true_eq]
    omega
  · rw [if_neg h]
def lkAt (k W H : Int) (p : Nat) (iw ih : Int) (l : List Nat) (x y : Int) : Nat := if k = 2 then pixAt iw ih l x y else if inB (szW k W iw) (szW k H ih) x y = true then p else 0
theorem putBlk_at {g b : Nat} (hb : b ≠ g) : ∀ (l : List Value) (i : Nat) (w : World), (putBlk g w i l).heap[b]? = w.heap[b]?
  | [], _, _ => rfl
  | _ :: l, i, _ => (putBlk_at hb l (i + 1) _).trans (Below.heap_setCell _ _ _ _ hb)
theorem chain7_0 (w : World) (g : Nat) (v0 v1 v2 v3 v4 v5 v6 : Value) : ((((((w.setCell ⟨g, 0, none⟩ v0).setCell ⟨g, 1, none⟩ v1).setCell ⟨g, 2, none⟩ v2).setCell ⟨g, 3, none⟩ v3).setCell ⟨g, 4, none⟩ v4).setCell ⟨g, 5, none⟩ v5).setCell ⟨g, 6, none⟩ v6 = putBlk g w 0 [v0, v1, v2, v3, v4, v5, v6] := rfl
def ImageOfQ (iw ih : Int) (l : List Nat) (w : World) (e : Ending) (w' : World) : Prop := ∃ A9 cap, e = .returned (lkV 2 0 0 0 iw ih A9 l.length cap) ∧ Pxs w' w.heap.size A9 l cap ∧ Below w.heap.size w w'
end Go.Proofs.Ytgadheamldianaa

namespace Go.Proofs.Ytgadheamldianaa
open Go.RowKit pxm imm

theorem max4 (x y z u : Int) : ∃ M : Int, (∀ (P : Program) (w : World) (ts : Array TypeId) (t : TypeId), (Builtin.max_ ts t #[.int .i64 x, .int .i64 y, .int .i64 z, .int .i64 u]).run P w = .ok (.int .i64 M) w) ∧ (∀ a, M ≤ a ↔ x ≤ a ∧ y ≤ a ∧ z ≤ a ∧ u ≤ a) := by
  refine ⟨if u > (if z > (if y > x then y else x) then z else (if y > x then y else x)) then u else (if z > (if y > x then y else x) then z else (if y > x then y else x)), fun P w ts t => by simp [Builtin.max_, Builtin.max2], fun a => ?_⟩
  split <;> split <;> split <;> omega
theorem min4 (x y z u : Int) : ∃ M : Int, (∀ (P : Program) (w : World) (ts : Array TypeId) (t : TypeId), (Builtin.min_ ts t #[.int .i64 x, .int .i64 y, .int .i64 z, .int .i64 u]).run P w = .ok (.int .i64 M) w) ∧ (∀ a, a ≤ M ↔ a ≤ x ∧ a ≤ y ∧ a ≤ z ∧ a ≤ u) := by
  refine ⟨if u < (if z < (if y < x then y else x) then z else (if y < x then y else x)) then u else (if z < (if y < x then y else x) then z else (if y < x then y else x)), fun P w ts t => by simp [Builtin.min_, Builtin.min2], fun a => ?_⟩
  split <;> split <;> split <;> omega
def clB (r : Bx) : Bool := decide ((-16384 ≤ r.a ∧ -16384 ≤ r.b ∧ -16384 ≤ r.c ∧ -16384 ≤ r.d) ∧ (r.a ≤ 16384 ∧ r.b ≤ 16384 ∧ r.c ≤ 16384 ∧ r.d ≤ 16384))
/-- a node's value -/
def ndV (m : Mp) (op : Int) (hi cl : Bool) (r : Bx) (k W H : Int) (p : Nat) (iw ih : Int) (A : Option Addr) (n c : Nat) : Value :=
  .agg #[.int .i64 m.a, .int .i64 m.b, .int .i64 m.c, .int .i64 m.d, .int .i64 m.e, .int .i64 m.f, .int .i64 op, .bool hi, .bool cl, .int .i64 r.a, .int .i64 r.b, .int .i64 r.c, .int .i64 r.d, .int .i64 k, .int .i64 W, .int .i64 H, .int .u32 (p : Nat), .int .i64 iw, .int .i64 ih, .slice A n c]
def ndC (m : Mp) (op : Int) (cl : Bool) (r : Bx) (lk : Int) : Int := if (m.right && decide (0 ≤ op ∧ op ≤ 255)) = true then (if cl = true then (if clB r = true then lk else 11) else (if r = Bx.o then lk else 10)) else 11
end Go.Proofs.Ytgadheamldianaa

namespace Go.Proofs.Ytgadheamldianaa
open Go.RowKit pxm imm

end Go.Proofs.Ytgadheamldianaa

namespace Go.Proofs.Ytgadheamldianaa
open Go.RowKit pxm imm

def CopiedQ (k W H : Int) (p : Nat) (iw ih : Int) (l : List Nat) (w : World) (e : Ending) (w' : World) : Prop := ∃ A9 cap, e = .returned (lkV k W H p iw ih A9 l.length cap) ∧ Pxs w' w.heap.size A9 l cap ∧ Below w.heap.size w w'
set_option maxHeartbeats 2000000 in
theorem copied_any (k W H : Int) (p : Nat) (iw ih : Int) (A : Option Addr) (l : List Nat) (c : Nat) (w : World) (hr : Row eW w A l) (hn : l.length ≤ 20000000) : Calls Try.prog 29 #[lkV k W H p iw ih A l.length c] w (CopiedQ k W H p iw ih l w) := by
  have HR := Lib.hid hr
  have HC := Lib.hid (fun w hr => copy_any iw ih A l c w hr hn)
  unfold CopyQ at HC
  unfold CopiedQ
  have hn3 : l.length ≤ 9223372036854775807 := by omega
  clear hr hn
  unfold lkV at *
  unfold imV at HC
  have HB0 : Hid (Below w.heap.size w ((w.alloc (.cells #[.int .i64 k, .int .i64 W, .int .i64 H, .int .u32 (p : Nat), .int .i64 iw, .int .i64 ih, .slice A l.length c] 50)).alloc (.cells #[.int .i64 0, .int .i64 0, .int .i64 0, .int .u32 0, .int .i64 0, .int .i64 0, .slice none 0 0] 50))) := ((Below.refl _ _).alloc (Nat.le_refl _) _).alloc (by simp) _
  have HK0 : Hid (Blk ((w.alloc (.cells #[.int .i64 k, .int .i64 W, .int .i64 H, .int .u32 (p : Nat), .int .i64 iw, .int .i64 ih, .slice A l.length c] 50)).alloc (.cells #[.int .i64 0, .int .i64 0, .int .i64 0, .int .u32 0, .int .i64 0, .int .i64 0, .slice none 0 0] 50)) w.heap.size [.int .i64 k, .int .i64 W, .int .i64 H, .int .u32 (p : Nat), .int .i64 iw, .int .i64 ih, .slice A l.length c]) := (blk_new w [.int .i64 k, .int .i64 W, .int .i64 H, .int .u32 (p : Nat), .int .i64 iw, .int .i64 ih, .slice A l.length c] _).alloc _
  have HKr0 : Hid (Blk ((w.alloc (.cells #[.int .i64 k, .int .i64 W, .int .i64 H, .int .u32 (p : Nat), .int .i64 iw, .int .i64 ih, .slice A l.length c] 50)).alloc (.cells #[.int .i64 0, .int .i64 0, .int .i64 0, .int .u32 0, .int .i64 0, .int .i64 0, .slice none 0 0] 50)) (w.heap.size + 1) [.int .i64 0, .int .i64 0, .int .i64 0, .int .u32 0, .int .i64 0, .int .i64 0, .slice none 0 0]) := blk_at (w.alloc _) _ (by simp) [.int .i64 0, .int .i64 0, .int .i64 0, .int .u32 0, .int .i64 0, .int .i64 0, .slice none 0 0] _
  have HSZ : Hid (w.heap.size + 2 ≤ ((w.alloc (.cells #[.int .i64 k, .int .i64 W, .int .i64 H, .int .u32 (p : Nat), .int .i64 iw, .int .i64 ih, .slice A l.length c] 50)).alloc (.cells #[.int .i64 0, .int .i64 0, .int .i64 0, .int .u32 0, .int .i64 0, .int .i64 0, .slice none 0 0] 50)).heap.size) := by simp [Hid]
  go_enter Try.func29, Try.ntmps29
  go_wp2_with (refine wpl_take 48 _ rfl rfl _ 4 rfl _ HK0.out [.int .i64 iw, .int .i64 ih, .slice A l.length c] rfl _ Try.underlying48 rfl (by kernel_rfl) ?_)
  refine (HC.out _ (HR.out.below HB0.out)).mono ?_
  rintro e w1 ⟨A9, c9, rfl, hx, hb⟩
  have HX := Lib.hid hx
  have HB : Hid (Below w.heap.size w w1) := bel2 HB0.out hb
  have HK := Lib.hid (HK0.out.below' hb)
  have HKr := Lib.hid (HKr0.out.below' hb)
  generalize ((w.alloc (.cells #[.int .i64 k, .int .i64 W, .int .i64 H, .int .u32 (p : Nat), .int .i64 iw, .int .i64 ih, .slice A l.length c] 50)).alloc (.cells #[.int .i64 0, .int .i64 0, .int .i64 0, .int .u32 0, .int .i64 0, .int .i64 0, .slice none 0 0] 50)) = wz at *
  clear hb hx HC HB0 HK0 HKr0
  go_wp2_with (first | (refine wpl_stow 48 _ _ rfl rfl rfl _ 4 rfl [.int .i64 iw, .int .i64 ih, .slice A9 l.length c9] rfl _ HK.out [.int .i64 k, .int .i64 W, .int .i64 H, .int .u32 (p : Nat), .int .i64 iw, .int .i64 ih, .slice A9 l.length c9] rfl (by simp) (by kernel_rfl) rfl ?_; intro w2 HW2 HK2; have HR2 := Lib.hid (HW2.out.blk (by omega) HKr.out)) | (refine wpl_take 50 _ rfl rfl _ 0 rfl _ HK2.out [.int .i64 k, .int .i64 W, .int .i64 H, .int .u32 (p : Nat), .int .i64 iw, .int .i64 ih, .slice A9 l.length c9] rfl _ Try.underlying50 rfl (by kernel_rfl) ?_) | (refine wpl_stow 50 _ _ rfl rfl rfl _ 0 rfl [.int .i64 k, .int .i64 W, .int .i64 H, .int .u32 (p : Nat), .int .i64 iw, .int .i64 ih, .slice A9 l.length c9] rfl _ HR2.out [.int .i64 k, .int .i64 W, .int .i64 H, .int .u32 (p : Nat), .int .i64 iw, .int .i64 ih, .slice A9 l.length c9] rfl (by simp) (by kernel_rfl) rfl ?_; intro w3 HW3 HK3))
  refine blk_ret rfl rfl HK3.out Try.underlying50 rfl (by kernel_rfl) ⟨A9, c9, rfl, ⟨HX.out.1.by_block fun b o e => ?_, fun b o e => ?_, HX.out.2.2⟩, HW3.out.below (HW2.out.below HB.out (Nat.le_refl _)) (by omega)⟩
  · have h1 : b ≠ w.heap.size ∧ b ≠ w.heap.size + 1 := by have := HX.out.2.1 b o e; have := HSZ.out; omega
    exact (HW3.out.far h1.2).trans (HW2.out.far h1.1)
  · have h1 : b ≠ w.heap.size ∧ b ≠ w.heap.size + 1 := by have := HX.out.2.1 b o e; have := HSZ.out; omega
    exact ⟨by have := HX.out.2.1 b o e; have := HSZ.out; omega, fun j => (World.frozen?_of_block ((HW3.out.far h1.2).trans (HW2.out.far h1.1))).trans ((HX.out.2.1 b o e).2 j)⟩
def NdCopyQ (m : Mp) (op : Int) (hi cl : Bool) (r : Bx) (k W H : Int) (p : Nat) (iw ih : Int) (l : List Nat) (w : World) (e : Ending) (w' : World) : Prop := ∃ A9 cap, e = .returned (ndV m op hi cl r k W H p iw ih A9 l.length cap) ∧ Pxs w' w.heap.size A9 l cap ∧ Below w.heap.size w w'
set_option maxHeartbeats 2000000 in
theorem ndcopy_any (m : Mp) (op : Int) (hi cl : Bool) (r : Bx) (k W H : Int) (p : Nat) (iw ih : Int) (A : Option Addr) (l : List Nat) (c : Nat) (w : World) (hr : Row eW w A l) (hn : l.length ≤ 20000000) : Calls Try.prog 27 #[ndV m op hi cl r k W H p iw ih A l.length c] w (NdCopyQ m op hi cl r k W H p iw ih l w) := by
  have HR := Lib.hid hr
  have HC := Lib.hid (fun w hr => copied_any k W H p iw ih A l c w hr hn)
  unfold CopiedQ at HC
  unfold NdCopyQ
  have hn3 : l.length ≤ 9223372036854775807 := by omega
  clear hr hn
  unfold ndV at *
  unfold lkV at HC
  obtain ⟨ma, mb, mc, md, me, mf⟩ := m
  obtain ⟨x0, y0, x1, y1⟩ := r
  simp only at HC ⊢
  have HB0 : Hid (Below w.heap.size w ((w.alloc (.cells #[.int .i64 ma, .int .i64 mb, .int .i64 mc, .int .i64 md, .int .i64 me, .int .i64 mf, .int .i64 op, .bool hi, .bool cl, .int .i64 x0, .int .i64 y0, .int .i64 x1, .int .i64 y1, .int .i64 k, .int .i64 W, .int .i64 H, .int .u32 (p : Nat), .int .i64 iw, .int .i64 ih, .slice A l.length c] 68)).alloc (.cells #[.int .i64 0, .int .i64 0, .int .i64 0, .int .i64 0, .int .i64 0, .int .i64 0, .int .i64 0, .bool false, .bool false, .int .i64 0, .int .i64 0, .int .i64 0, .int .i64 0, .int .i64 0, .int .i64 0, .int .i64 0, .int .u32 0, .int .i64 0, .int .i64 0, .slice none 0 0] 68))) := ((Below.refl _ _).alloc (Nat.le_refl _) _).alloc (by simp) _
  have HK0 : Hid (Blk ((w.alloc (.cells #[.int .i64 ma, .int .i64 mb, .int .i64 mc, .int .i64 md, .int .i64 me, .int .i64 mf, .int .i64 op, .bool hi, .bool cl, .int .i64 x0, .int .i64 y0, .int .i64 x1, .int .i64 y1, .int .i64 k, .int .i64 W, .int .i64 H, .int .u32 (p : Nat), .int .i64 iw, .int .i64 ih, .slice A l.length c] 68)).alloc (.cells #[.int .i64 0, .int .i64 0, .int .i64 0, .int .i64 0, .int .i64 0, .int .i64 0, .int .i64 0, .bool false, .bool false, .int .i64 0, .int .i64 0, .int .i64 0, .int .i64 0, .int .i64 0, .int .i64 0, .int .i64 0, .int .u32 0, .int .i64 0, .int .i64 0, .slice none 0 0] 68)) w.heap.size [.int .i64 ma, .int .i64 mb, .int .i64 mc, .int .i64 md, .int .i64 me, .int .i64 mf, .int .i64 op, .bool hi, .bool cl, .int .i64 x0, .int .i64 y0, .int .i64 x1, .int .i64 y1, .int .i64 k, .int .i64 W, .int .i64 H, .int .u32 (p : Nat), .int .i64 iw, .int .i64 ih, .slice A l.length c]) := (blk_new w [.int .i64 ma, .int .i64 mb, .int .i64 mc, .int .i64 md, .int .i64 me, .int .i64 mf, .int .i64 op, .bool hi, .bool cl, .int .i64 x0, .int .i64 y0, .int .i64 x1, .int .i64 y1, .int .i64 k, .int .i64 W, .int .i64 H, .int .u32 (p : Nat), .int .i64 iw, .int .i64 ih, .slice A l.length c] _).alloc _
  have HKr0 : Hid (Blk ((w.alloc (.cells #[.int .i64 ma, .int .i64 mb, .int .i64 mc, .int .i64 md, .int .i64 me, .int .i64 mf, .int .i64 op, .bool hi, .bool cl, .int .i64 x0, .int .i64 y0, .int .i64 x1, .int .i64 y1, .int .i64 k, .int .i64 W, .int .i64 H, .int .u32 (p : Nat), .int .i64 iw, .int .i64 ih, .slice A l.length c] 68)).alloc (.cells #[.int .i64 0, .int .i64 0, .int .i64 0, .int .i64 0, .int .i64 0, .int .i64 0, .int .i64 0, .bool false, .bool false, .int .i64 0, .int .i64 0, .int .i64 0, .int .i64 0, .int .i64 0, .int .i64 0, .int .i64 0, .int .u32 0, .int .i64 0, .int .i64 0, .slice none 0 0] 68)) (w.heap.size + 1) [.int .i64 0, .int .i64 0, .int .i64 0, .int .i64 0, .int .i64 0, .int .i64 0, .int .i64 0, .bool false, .bool false, .int .i64 0, .int .i64 0, .int .i64 0, .int .i64 0, .int .i64 0, .int .i64 0, .int .i64 0, .int .u32 0, .int .i64 0, .int .i64 0, .slice none 0 0]) := blk_at (w.alloc _) _ (by simp) [.int .i64 0, .int .i64 0, .int .i64 0, .int .i64 0, .int .i64 0, .int .i64 0, .int .i64 0, .bool false, .bool false, .int .i64 0, .int .i64 0, .int .i64 0, .int .i64 0, .int .i64 0, .int .i64 0, .int .i64 0, .int .u32 0, .int .i64 0, .int .i64 0, .slice none 0 0] _
  have HSZ : Hid (w.heap.size + 2 ≤ ((w.alloc (.cells #[.int .i64 ma, .int .i64 mb, .int .i64 mc, .int .i64 md, .int .i64 me, .int .i64 mf, .int .i64 op, .bool hi, .bool cl, .int .i64 x0, .int .i64 y0, .int .i64 x1, .int .i64 y1, .int .i64 k, .int .i64 W, .int .i64 H, .int .u32 (p : Nat), .int .i64 iw, .int .i64 ih, .slice A l.length c] 68)).alloc (.cells #[.int .i64 0, .int .i64 0, .int .i64 0, .int .i64 0, .int .i64 0, .int .i64 0, .int .i64 0, .bool false, .bool false, .int .i64 0, .int .i64 0, .int .i64 0, .int .i64 0, .int .i64 0, .int .i64 0, .int .i64 0, .int .u32 0, .int .i64 0, .int .i64 0, .slice none 0 0] 68)).heap.size) := by simp [Hid]
  go_enter Try.func27, Try.ntmps27
  go_wp2_with (refine wpl_take 50 _ rfl rfl _ 13 rfl _ HK0.out [.int .i64 k, .int .i64 W, .int .i64 H, .int .u32 (p : Nat), .int .i64 iw, .int .i64 ih, .slice A l.length c] rfl _ Try.underlying50 rfl (by kernel_rfl) ?_)
  refine (HC.out _ (HR.out.below HB0.out)).mono ?_
  rintro e w1 ⟨A9, c9, rfl, hx, hb⟩
  have HX := Lib.hid hx
  have HB : Hid (Below w.heap.size w w1) := bel2 HB0.out hb
  have HK := Lib.hid (HK0.out.below' hb)
  have HKr := Lib.hid (HKr0.out.below' hb)
  generalize ((w.alloc (.cells #[.int .i64 ma, .int .i64 mb, .int .i64 mc, .int .i64 md, .int .i64 me, .int .i64 mf, .int .i64 op, .bool hi, .bool cl, .int .i64 x0, .int .i64 y0, .int .i64 x1, .int .i64 y1, .int .i64 k, .int .i64 W, .int .i64 H, .int .u32 (p : Nat), .int .i64 iw, .int .i64 ih, .slice A l.length c] 68)).alloc (.cells #[.int .i64 0, .int .i64 0, .int .i64 0, .int .i64 0, .int .i64 0, .int .i64 0, .int .i64 0, .bool false, .bool false, .int .i64 0, .int .i64 0, .int .i64 0, .int .i64 0, .int .i64 0, .int .i64 0, .int .i64 0, .int .u32 0, .int .i64 0, .int .i64 0, .slice none 0 0] 68)) = wz at *
  clear hb hx HC HB0 HK0 HKr0
  go_wp2_with (first | (refine wpl_stow 50 _ _ rfl rfl rfl _ 13 rfl [.int .i64 k, .int .i64 W, .int .i64 H, .int .u32 (p : Nat), .int .i64 iw, .int .i64 ih, .slice A9 l.length c9] rfl _ HK.out [.int .i64 ma, .int .i64 mb, .int .i64 mc, .int .i64 md, .int .i64 me, .int .i64 mf, .int .i64 op, .bool hi, .bool cl, .int .i64 x0, .int .i64 y0, .int .i64 x1, .int .i64 y1, .int .i64 k, .int .i64 W, .int .i64 H, .int .u32 (p : Nat), .int .i64 iw, .int .i64 ih, .slice A9 l.length c9] rfl (by simp) (by kernel_rfl) rfl ?_; intro w2 HW2 HK2; have HR2 := Lib.hid (HW2.out.blk (by omega) HKr.out)) | (refine wpl_take 68 _ rfl rfl _ 0 rfl _ HK2.out [.int .i64 ma, .int .i64 mb, .int .i64 mc, .int .i64 md, .int .i64 me, .int .i64 mf, .int .i64 op, .bool hi, .bool cl, .int .i64 x0, .int .i64 y0, .int .i64 x1, .int .i64 y1, .int .i64 k, .int .i64 W, .int .i64 H, .int .u32 (p : Nat), .int .i64 iw, .int .i64 ih, .slice A9 l.length c9] rfl _ Try.underlying68 rfl (by kernel_rfl) ?_) | (refine wpl_stow 68 _ _ rfl rfl rfl _ 0 rfl [.int .i64 ma, .int .i64 mb, .int .i64 mc, .int .i64 md, .int .i64 me, .int .i64 mf, .int .i64 op, .bool hi, .bool cl, .int .i64 x0, .int .i64 y0, .int .i64 x1, .int .i64 y1, .int .i64 k, .int .i64 W, .int .i64 H, .int .u32 (p : Nat), .int .i64 iw, .int .i64 ih, .slice A9 l.length c9] rfl _ HR2.out [.int .i64 ma, .int .i64 mb, .int .i64 mc, .int .i64 md, .int .i64 me, .int .i64 mf, .int .i64 op, .bool hi, .bool cl, .int .i64 x0, .int .i64 y0, .int .i64 x1, .int .i64 y1, .int .i64 k, .int .i64 W, .int .i64 H, .int .u32 (p : Nat), .int .i64 iw, .int .i64 ih, .slice A9 l.length c9] rfl (by simp) (by kernel_rfl) rfl ?_; intro w3 HW3 HK3))
  refine blk_ret rfl rfl HK3.out Try.underlying68 rfl (by kernel_rfl) ⟨A9, c9, rfl, ⟨HX.out.1.by_block fun b o e => ?_, fun b o e => ?_, HX.out.2.2⟩, HW3.out.below (HW2.out.below HB.out (Nat.le_refl _)) (by omega)⟩
  · have h1 : b ≠ w.heap.size ∧ b ≠ w.heap.size + 1 := by have := HX.out.2.1 b o e; have := HSZ.out; omega
    exact (HW3.out.far h1.2).trans (HW2.out.far h1.1)
  · have h1 : b ≠ w.heap.size ∧ b ≠ w.heap.size + 1 := by have := HX.out.2.1 b o e; have := HSZ.out; omega
    exact ⟨by have := HX.out.2.1 b o e; have := HSZ.out; omega, fun j => (World.frozen?_of_block ((HW3.out.far h1.2).trans (HW2.out.far h1.1))).trans ((HX.out.2.1 b o e).2 j)⟩
end Go.Proofs.Ytgadheamldianaa

namespace Go.Proofs.Ytgadheamldianaa
open Go.RowKit pxm imm

def eqLk (k1 W1 H1 : Int) (p1 : Nat) (iw1 ih1 : Int) (l1 : List Nat) (k2 W2 H2 : Int) (p2 : Nat) (iw2 ih2 : Int) (l2 : List Nat) : Bool := (k1 == k2) && ((W1 == W2) && ((H1 == H2) && (((p1 : Int) == (p2 : Int)) && eqB iw1 ih1 l1 iw2 ih2 l2)))
set_option maxHeartbeats 2000000 in
theorem eqlooks_any (k1 W1 H1 : Int) (p1 : Nat) (iw1 ih1 : Int) (A1 : Option Addr) (l1 : List Nat) (c1 : Nat) (k2 W2 H2 : Int) (p2 : Nat) (iw2 ih2 : Int) (A2 : Option Addr) (l2 : List Nat) (c2 : Nat) (m1 : l1.length ≤ maxLen) (m2 : l2.length ≤ maxLen) (w : World) (h1 : Row eW w A1 l1) (h2 : Row eW w A2 l2) :
    Calls Try.prog 30 #[lkV k1 W1 H1 p1 iw1 ih1 A1 l1.length c1, lkV k2 W2 H2 p2 iw2 ih2 A2 l2.length c2] w fun e w' => e = .returned (.bool (eqLk k1 W1 H1 p1 iw1 ih1 l1 k2 W2 H2 p2 iw2 ih2 l2)) ∧ Below w.heap.size w w' := by
  have HR := Lib.hid (And.intro h1 h2)
  have HE := Lib.hid (fun w h1 h2 => equal_any iw1 ih1 A1 l1 c1 iw2 ih2 A2 l2 c2 w h1 h2 m1 m2)
  have HQ : Hid (eqLk k1 W1 H1 p1 iw1 ih1 l1 k2 W2 H2 p2 iw2 ih2 l2 = ((k1 == k2) && ((W1 == W2) && ((H1 == H2) && (((p1 : Int) == (p2 : Int)) && eqB iw1 ih1 l1 iw2 ih2 l2))))) := rfl
  clear h1 h2 m1 m2
  generalize eqLk k1 W1 H1 p1 iw1 ih1 l1 k2 W2 H2 p2 iw2 ih2 l2 = R at *
  generalize eqB iw1 ih1 l1 iw2 ih2 l2 = y at *
  unfold imV at HE
  unfold lkV
  generalize hb1 : (k1 == k2) = b1 at *
  generalize hb2 : (W1 == W2) = b2 at *
  generalize hb3 : (H1 == H2) = b3 at *
  generalize hb4 : ((p1 : Int) == (p2 : Int)) = b4 at *
  have HB : Hid (Below w.heap.size w ((w.alloc (.cells #[.int .i64 k1, .int .i64 W1, .int .i64 H1, .int .u32 (p1 : Nat), .int .i64 iw1, .int .i64 ih1, .slice A1 l1.length c1] 50)).alloc (.cells #[.int .i64 k2, .int .i64 W2, .int .i64 H2, .int .u32 (p2 : Nat), .int .i64 iw2, .int .i64 ih2, .slice A2 l2.length c2] 50))) := ((Below.refl _ _).alloc (Nat.le_refl _) _).alloc (by simp) _
  cases b1 with
  | false =>
    go_enter Try.func30, Try.ntmps30
    go_wp2_with (fail)
    go_ret
    exact ⟨ret_bool HQ.out.symm, HB.out⟩
  | true =>
    cases b2 with
    | false =>
      go_enter Try.func30, Try.ntmps30
      go_wp2_with (fail)
      go_ret
      exact ⟨ret_bool HQ.out.symm, HB.out⟩
    | true =>
      cases b3 with
      | false =>
        go_enter Try.func30, Try.ntmps30
        go_wp2_with (fail)
        go_ret
        exact ⟨ret_bool HQ.out.symm, HB.out⟩
      | true =>
        cases b4 with
        | false =>
          go_enter Try.func30, Try.ntmps30
          go_wp2_with (fail)
          go_ret
          exact ⟨ret_bool HQ.out.symm, HB.out⟩
        | true =>
          go_enter Try.func30, Try.ntmps30
          go_wp2_with (fail)
          refine (HE.out _ (HR.out.1.below HB.out) (HR.out.2.below HB.out)).mono ?_
          rintro e w2 ⟨rfl, hb⟩
          have HB2 : Hid (Below w.heap.size w w2) := bel2 HB.out hb
          clear hb HE
          go_wp2_with (fail)
          go_ret
          exact ⟨ret_bool HQ.out.symm, HB2.out⟩
def eqNd (m1 : Mp) (op1 : Int) (hi1 cl1 : Bool) (r1 : Bx) (m2 : Mp) (op2 : Int) (hi2 cl2 : Bool) (r2 : Bx) (lk : Bool) : Bool := decide (m1 = m2) && (decide (r1 = r2) && ((op1 == op2) && ((hi1 == hi2) && ((cl1 == cl2) && lk))))
theorem mp_eq (r s : Mp) (w : World) : (binOp .eql 41 r.v s.v).run Try.prog w = .ok (.bool (decide (r = s))) w := by
  obtain ⟨a0, a1, a2, a3, a4, a5⟩ := r
  obtain ⟨b0, b1, b2, b3, b4, b5⟩ := s
  unfold Mp.v
  simp only
  by_cases h0 : ¬ a0 = b0
  · rw [decide_eq_false (by simp [h0])]
    have t : (a0 == b0) = false := by simpa using h0
    go_simp
  obtain rfl := Decidable.not_not.1 h0
  clear h0
  by_cases h1 : ¬ a1 = b1
  · rw [decide_eq_false (by simp [h1])]
    have t : (a1 == b1) = false := by simpa using h1
    go_simp
  obtain rfl := Decidable.not_not.1 h1
  clear h1
  by_cases h2 : ¬ a2 = b2
  · rw [decide_eq_false (by simp [h2])]
    have t : (a2 == b2) = false := by simpa using h2
    go_simp
  obtain rfl := Decidable.not_not.1 h2
  clear h2
  by_cases h3 : ¬ a3 = b3
  · rw [decide_eq_false (by simp [h3])]
    have t : (a3 == b3) = false := by simpa using h3
    go_simp
  obtain rfl := Decidable.not_not.1 h3
  clear h3
  by_cases h4 : ¬ a4 = b4
  · rw [decide_eq_false (by simp [h4])]
    have t : (a4 == b4) = false := by simpa using h4
    go_simp
  obtain rfl := Decidable.not_not.1 h4
  clear h4
  by_cases h5 : ¬ a5 = b5
  · rw [decide_eq_false (by simp [h5])]
    have t : (a5 == b5) = false := by simpa using h5
    go_simp
  obtain rfl := Decidable.not_not.1 h5
  clear h5
  simp only [decide_true]
  go_simp
set_option maxHeartbeats 2000000 in
theorem ndequal_any (m1 : Mp) (op1 : Int) (hi1 cl1 : Bool) (r1 : Bx) (k1 W1 H1 : Int) (p1 : Nat) (iw1 ih1 : Int) (A1 : Option Addr) (l1 : List Nat) (c1 : Nat) (m2 : Mp) (op2 : Int) (hi2 cl2 : Bool) (r2 : Bx) (k2 W2 H2 : Int) (p2 : Nat) (iw2 ih2 : Int) (A2 : Option Addr) (l2 : List Nat) (c2 : Nat) (n1 : l1.length ≤ maxLen) (n2 : l2.length ≤ maxLen) (w : World) (h1 : Row eW w A1 l1) (h2 : Row eW w A2 l2) :
    Calls Try.prog 28 #[ndV m1 op1 hi1 cl1 r1 k1 W1 H1 p1 iw1 ih1 A1 l1.length c1, ndV m2 op2 hi2 cl2 r2 k2 W2 H2 p2 iw2 ih2 A2 l2.length c2] w fun e w' => e = .returned (.bool (eqNd m1 op1 hi1 cl1 r1 m2 op2 hi2 cl2 r2 (eqLk k1 W1 H1 p1 iw1 ih1 l1 k2 W2 H2 p2 iw2 ih2 l2))) ∧ Below w.heap.size w w' := by
  have HR := Lib.hid (And.intro h1 h2)
  have HE := Lib.hid (fun w h1 h2 => eqlooks_any k1 W1 H1 p1 iw1 ih1 A1 l1 c1 k2 W2 H2 p2 iw2 ih2 A2 l2 c2 n1 n2 w h1 h2)
  have HQ : Hid (eqNd m1 op1 hi1 cl1 r1 m2 op2 hi2 cl2 r2 (eqLk k1 W1 H1 p1 iw1 ih1 l1 k2 W2 H2 p2 iw2 ih2 l2) = (decide (m1 = m2) && (decide (r1 = r2) && ((op1 == op2) && ((hi1 == hi2) && ((cl1 == cl2) && eqLk k1 W1 H1 p1 iw1 ih1 l1 k2 W2 H2 p2 iw2 ih2 l2)))))) := rfl
  have q1 := fun w => mp_eq m1 m2 w
  have q2 := fun w => bx_eq r1 r2 w
  clear h1 h2 n1 n2
  generalize eqNd m1 op1 hi1 cl1 r1 m2 op2 hi2 cl2 r2 (eqLk k1 W1 H1 p1 iw1 ih1 l1 k2 W2 H2 p2 iw2 ih2 l2) = R at *
  generalize eqLk k1 W1 H1 p1 iw1 ih1 l1 k2 W2 H2 p2 iw2 ih2 l2 = y at *
  unfold lkV at HE
  unfold ndV
  generalize decide (m1 = m2) = b1 at *
  generalize decide (r1 = r2) = b2 at *
  generalize hb3 : (op1 == op2) = b3 at *
  generalize hb4 : (hi1 == hi2) = b4 at *
  generalize hb5 : (cl1 == cl2) = b5 at *
  obtain ⟨ma1, mb1, mc1, md1, me1, mf1⟩ := m1
  obtain ⟨x01, y01, x11, y11⟩ := r1
  obtain ⟨ma2, mb2, mc2, md2, me2, mf2⟩ := m2
  obtain ⟨x02, y02, x12, y12⟩ := r2
  unfold Mp.v at q1
  unfold Bx.v at q2
  simp only at q1 q2 ⊢
  have HB : Hid (Below w.heap.size w ((w.alloc (.cells #[.int .i64 ma1, .int .i64 mb1, .int .i64 mc1, .int .i64 md1, .int .i64 me1, .int .i64 mf1, .int .i64 op1, .bool hi1, .bool cl1, .int .i64 x01, .int .i64 y01, .int .i64 x11, .int .i64 y11, .int .i64 k1, .int .i64 W1, .int .i64 H1, .int .u32 (p1 : Nat), .int .i64 iw1, .int .i64 ih1, .slice A1 l1.length c1] 68)).alloc (.cells #[.int .i64 ma2, .int .i64 mb2, .int .i64 mc2, .int .i64 md2, .int .i64 me2, .int .i64 mf2, .int .i64 op2, .bool hi2, .bool cl2, .int .i64 x02, .int .i64 y02, .int .i64 x12, .int .i64 y12, .int .i64 k2, .int .i64 W2, .int .i64 H2, .int .u32 (p2 : Nat), .int .i64 iw2, .int .i64 ih2, .slice A2 l2.length c2] 68))) := ((Below.refl _ _).alloc (Nat.le_refl _) _).alloc (by simp) _
  have HK1 : Hid (Blk ((w.alloc (.cells #[.int .i64 ma1, .int .i64 mb1, .int .i64 mc1, .int .i64 md1, .int .i64 me1, .int .i64 mf1, .int .i64 op1, .bool hi1, .bool cl1, .int .i64 x01, .int .i64 y01, .int .i64 x11, .int .i64 y11, .int .i64 k1, .int .i64 W1, .int .i64 H1, .int .u32 (p1 : Nat), .int .i64 iw1, .int .i64 ih1, .slice A1 l1.length c1] 68)).alloc (.cells #[.int .i64 ma2, .int .i64 mb2, .int .i64 mc2, .int .i64 md2, .int .i64 me2, .int .i64 mf2, .int .i64 op2, .bool hi2, .bool cl2, .int .i64 x02, .int .i64 y02, .int .i64 x12, .int .i64 y12, .int .i64 k2, .int .i64 W2, .int .i64 H2, .int .u32 (p2 : Nat), .int .i64 iw2, .int .i64 ih2, .slice A2 l2.length c2] 68)) w.heap.size [.int .i64 ma1, .int .i64 mb1, .int .i64 mc1, .int .i64 md1, .int .i64 me1, .int .i64 mf1, .int .i64 op1, .bool hi1, .bool cl1, .int .i64 x01, .int .i64 y01, .int .i64 x11, .int .i64 y11, .int .i64 k1, .int .i64 W1, .int .i64 H1, .int .u32 (p1 : Nat), .int .i64 iw1, .int .i64 ih1, .slice A1 l1.length c1]) := (blk_new w [.int .i64 ma1, .int .i64 mb1, .int .i64 mc1, .int .i64 md1, .int .i64 me1, .int .i64 mf1, .int .i64 op1, .bool hi1, .bool cl1, .int .i64 x01, .int .i64 y01, .int .i64 x11, .int .i64 y11, .int .i64 k1, .int .i64 W1, .int .i64 H1, .int .u32 (p1 : Nat), .int .i64 iw1, .int .i64 ih1, .slice A1 l1.length c1] _).alloc _
  have HK2 : Hid (Blk ((w.alloc (.cells #[.int .i64 ma1, .int .i64 mb1, .int .i64 mc1, .int .i64 md1, .int .i64 me1, .int .i64 mf1, .int .i64 op1, .bool hi1, .bool cl1, .int .i64 x01, .int .i64 y01, .int .i64 x11, .int .i64 y11, .int .i64 k1, .int .i64 W1, .int .i64 H1, .int .u32 (p1 : Nat), .int .i64 iw1, .int .i64 ih1, .slice A1 l1.length c1] 68)).alloc (.cells #[.int .i64 ma2, .int .i64 mb2, .int .i64 mc2, .int .i64 md2, .int .i64 me2, .int .i64 mf2, .int .i64 op2, .bool hi2, .bool cl2, .int .i64 x02, .int .i64 y02, .int .i64 x12, .int .i64 y12, .int .i64 k2, .int .i64 W2, .int .i64 H2, .int .u32 (p2 : Nat), .int .i64 iw2, .int .i64 ih2, .slice A2 l2.length c2] 68)) (w.heap.size + 1) [.int .i64 ma2, .int .i64 mb2, .int .i64 mc2, .int .i64 md2, .int .i64 me2, .int .i64 mf2, .int .i64 op2, .bool hi2, .bool cl2, .int .i64 x02, .int .i64 y02, .int .i64 x12, .int .i64 y12, .int .i64 k2, .int .i64 W2, .int .i64 H2, .int .u32 (p2 : Nat), .int .i64 iw2, .int .i64 ih2, .slice A2 l2.length c2]) := blk_at (w.alloc _) _ (by simp) [.int .i64 ma2, .int .i64 mb2, .int .i64 mc2, .int .i64 md2, .int .i64 me2, .int .i64 mf2, .int .i64 op2, .bool hi2, .bool cl2, .int .i64 x02, .int .i64 y02, .int .i64 x12, .int .i64 y12, .int .i64 k2, .int .i64 W2, .int .i64 H2, .int .u32 (p2 : Nat), .int .i64 iw2, .int .i64 ih2, .slice A2 l2.length c2] _
  cases b1 with
  | false =>
    go_enter Try.func28, Try.ntmps28
    go_upto_region 1 with (fail)
    generalize ((w.alloc (.cells #[.int .i64 ma1, .int .i64 mb1, .int .i64 mc1, .int .i64 md1, .int .i64 me1, .int .i64 mf1, .int .i64 op1, .bool hi1, .bool cl1, .int .i64 x01, .int .i64 y01, .int .i64 x11, .int .i64 y11, .int .i64 k1, .int .i64 W1, .int .i64 H1, .int .u32 (p1 : Nat), .int .i64 iw1, .int .i64 ih1, .slice A1 l1.length c1] 68)).alloc (.cells #[.int .i64 ma2, .int .i64 mb2, .int .i64 mc2, .int .i64 md2, .int .i64 me2, .int .i64 mf2, .int .i64 op2, .bool hi2, .bool cl2, .int .i64 x02, .int .i64 y02, .int .i64 x12, .int .i64 y12, .int .i64 k2, .int .i64 W2, .int .i64 H2, .int .u32 (p2 : Nat), .int .i64 iw2, .int .i64 ih2, .slice A2 l2.length c2] 68)) = wz at *
    have c6 : wz.cell? ⟨w.heap.size, 6, none⟩ = some (.int .i64 op1) := HK1.out.cell 6
    have c7 : wz.cell? ⟨w.heap.size, 7, none⟩ = some (.bool hi1) := HK1.out.cell 7
    have c8 : wz.cell? ⟨w.heap.size, 8, none⟩ = some (.bool cl1) := HK1.out.cell 8
    have d6 : wz.cell? ⟨w.heap.size + 1, 6, none⟩ = some (.int .i64 op2) := HK2.out.cell 6
    have d7 : wz.cell? ⟨w.heap.size + 1, 7, none⟩ = some (.bool hi2) := HK2.out.cell 7
    have d8 : wz.cell? ⟨w.heap.size + 1, 8, none⟩ = some (.bool cl2) := HK2.out.cell 8
    have i1 := HK1.out.inside
    have i2 := HK2.out.inside
    go_wp2_with (first | (with_reducible show wpList _ _ _ (Oper.mk _ (Op.load _ _) _ _ _ _ :: _) _ _; first | (refine wpl_take 41 _ rfl rfl _ 0 rfl _ HK1.out [.int .i64 ma1, .int .i64 mb1, .int .i64 mc1, .int .i64 md1, .int .i64 me1, .int .i64 mf1] rfl _ Try.underlying41 rfl (by kernel_rfl) ?_) | (refine wpl_take 41 _ rfl rfl _ 0 rfl _ HK2.out [.int .i64 ma2, .int .i64 mb2, .int .i64 mc2, .int .i64 md2, .int .i64 me2, .int .i64 mf2] rfl _ Try.underlying41 rfl (by kernel_rfl) ?_) | (refine wpl_take 43 _ rfl rfl _ 9 rfl _ HK1.out [.int .i64 x01, .int .i64 y01, .int .i64 x11, .int .i64 y11] rfl _ Try.underlying43 rfl (by kernel_rfl) ?_) | (refine wpl_take 43 _ rfl rfl _ 9 rfl _ HK2.out [.int .i64 x02, .int .i64 y02, .int .i64 x12, .int .i64 y12] rfl _ Try.underlying43 rfl (by kernel_rfl) ?_) | (refine wpl_take 50 _ rfl rfl _ 13 rfl _ HK1.out [.int .i64 k1, .int .i64 W1, .int .i64 H1, .int .u32 (p1 : Nat), .int .i64 iw1, .int .i64 ih1, .slice A1 l1.length c1] rfl _ Try.underlying50 rfl (by kernel_rfl) ?_) | (refine wpl_take 50 _ rfl rfl _ 13 rfl _ HK2.out [.int .i64 k2, .int .i64 W2, .int .i64 H2, .int .u32 (p2 : Nat), .int .i64 iw2, .int .i64 ih2, .slice A2 l2.length c2] rfl _ Try.underlying50 rfl (by kernel_rfl) ?_)))
    go_ret
    exact ⟨ret_bool HQ.out.symm, HB.out⟩
  | true =>
    cases b2 with
    | false =>
      go_enter Try.func28, Try.ntmps28
      go_upto_region 1 with (fail)
      generalize ((w.alloc (.cells #[.int .i64 ma1, .int .i64 mb1, .int .i64 mc1, .int .i64 md1, .int .i64 me1, .int .i64 mf1, .int .i64 op1, .bool hi1, .bool cl1, .int .i64 x01, .int .i64 y01, .int .i64 x11, .int .i64 y11, .int .i64 k1, .int .i64 W1, .int .i64 H1, .int .u32 (p1 : Nat), .int .i64 iw1, .int .i64 ih1, .slice A1 l1.length c1] 68)).alloc (.cells #[.int .i64 ma2, .int .i64 mb2, .int .i64 mc2, .int .i64 md2, .int .i64 me2, .int .i64 mf2, .int .i64 op2, .bool hi2, .bool cl2, .int .i64 x02, .int .i64 y02, .int .i64 x12, .int .i64 y12, .int .i64 k2, .int .i64 W2, .int .i64 H2, .int .u32 (p2 : Nat), .int .i64 iw2, .int .i64 ih2, .slice A2 l2.length c2] 68)) = wz at *
      have c6 : wz.cell? ⟨w.heap.size, 6, none⟩ = some (.int .i64 op1) := HK1.out.cell 6
      have c7 : wz.cell? ⟨w.heap.size, 7, none⟩ = some (.bool hi1) := HK1.out.cell 7
      have c8 : wz.cell? ⟨w.heap.size, 8, none⟩ = some (.bool cl1) := HK1.out.cell 8
      have d6 : wz.cell? ⟨w.heap.size + 1, 6, none⟩ = some (.int .i64 op2) := HK2.out.cell 6
      have d7 : wz.cell? ⟨w.heap.size + 1, 7, none⟩ = some (.bool hi2) := HK2.out.cell 7
      have d8 : wz.cell? ⟨w.heap.size + 1, 8, none⟩ = some (.bool cl2) := HK2.out.cell 8
      have i1 := HK1.out.inside
      have i2 := HK2.out.inside
      go_wp2_with (first | (with_reducible show wpList _ _ _ (Oper.mk _ (Op.load _ _) _ _ _ _ :: _) _ _; first | (refine wpl_take 41 _ rfl rfl _ 0 rfl _ HK1.out [.int .i64 ma1, .int .i64 mb1, .int .i64 mc1, .int .i64 md1, .int .i64 me1, .int .i64 mf1] rfl _ Try.underlying41 rfl (by kernel_rfl) ?_) | (refine wpl_take 41 _ rfl rfl _ 0 rfl _ HK2.out [.int .i64 ma2, .int .i64 mb2, .int .i64 mc2, .int .i64 md2, .int .i64 me2, .int .i64 mf2] rfl _ Try.underlying41 rfl (by kernel_rfl) ?_) | (refine wpl_take 43 _ rfl rfl _ 9 rfl _ HK1.out [.int .i64 x01, .int .i64 y01, .int .i64 x11, .int .i64 y11] rfl _ Try.underlying43 rfl (by kernel_rfl) ?_) | (refine wpl_take 43 _ rfl rfl _ 9 rfl _ HK2.out [.int .i64 x02, .int .i64 y02, .int .i64 x12, .int .i64 y12] rfl _ Try.underlying43 rfl (by kernel_rfl) ?_) | (refine wpl_take 50 _ rfl rfl _ 13 rfl _ HK1.out [.int .i64 k1, .int .i64 W1, .int .i64 H1, .int .u32 (p1 : Nat), .int .i64 iw1, .int .i64 ih1, .slice A1 l1.length c1] rfl _ Try.underlying50 rfl (by kernel_rfl) ?_) | (refine wpl_take 50 _ rfl rfl _ 13 rfl _ HK2.out [.int .i64 k2, .int .i64 W2, .int .i64 H2, .int .u32 (p2 : Nat), .int .i64 iw2, .int .i64 ih2, .slice A2 l2.length c2] rfl _ Try.underlying50 rfl (by kernel_rfl) ?_)))
      go_ret
      exact ⟨ret_bool HQ.out.symm, HB.out⟩
    | true =>
      cases b3 with
      | false =>
        go_enter Try.func28, Try.ntmps28
        go_upto_region 1 with (fail)
        generalize ((w.alloc (.cells #[.int .i64 ma1, .int .i64 mb1, .int .i64 mc1, .int .i64 md1, .int .i64 me1, .int .i64 mf1, .int .i64 op1, .bool hi1, .bool cl1, .int .i64 x01, .int .i64 y01, .int .i64 x11, .int .i64 y11, .int .i64 k1, .int .i64 W1, .int .i64 H1, .int .u32 (p1 : Nat), .int .i64 iw1, .int .i64 ih1, .slice A1 l1.length c1] 68)).alloc (.cells #[.int .i64 ma2, .int .i64 mb2, .int .i64 mc2, .int .i64 md2, .int .i64 me2, .int .i64 mf2, .int .i64 op2, .bool hi2, .bool cl2, .int .i64 x02, .int .i64 y02, .int .i64 x12, .int .i64 y12, .int .i64 k2, .int .i64 W2, .int .i64 H2, .int .u32 (p2 : Nat), .int .i64 iw2, .int .i64 ih2, .slice A2 l2.length c2] 68)) = wz at *
        have c6 : wz.cell? ⟨w.heap.size, 6, none⟩ = some (.int .i64 op1) := HK1.out.cell 6
        have c7 : wz.cell? ⟨w.heap.size, 7, none⟩ = some (.bool hi1) := HK1.out.cell 7
        have c8 : wz.cell? ⟨w.heap.size, 8, none⟩ = some (.bool cl1) := HK1.out.cell 8
        have d6 : wz.cell? ⟨w.heap.size + 1, 6, none⟩ = some (.int .i64 op2) := HK2.out.cell 6
        have d7 : wz.cell? ⟨w.heap.size + 1, 7, none⟩ = some (.bool hi2) := HK2.out.cell 7
        have d8 : wz.cell? ⟨w.heap.size + 1, 8, none⟩ = some (.bool cl2) := HK2.out.cell 8
        have i1 := HK1.out.inside
        have i2 := HK2.out.inside
        go_wp2_with (first | (with_reducible show wpList _ _ _ (Oper.mk _ (Op.load _ _) _ _ _ _ :: _) _ _; first | (refine wpl_take 41 _ rfl rfl _ 0 rfl _ HK1.out [.int .i64 ma1, .int .i64 mb1, .int .i64 mc1, .int .i64 md1, .int .i64 me1, .int .i64 mf1] rfl _ Try.underlying41 rfl (by kernel_rfl) ?_) | (refine wpl_take 41 _ rfl rfl _ 0 rfl _ HK2.out [.int .i64 ma2, .int .i64 mb2, .int .i64 mc2, .int .i64 md2, .int .i64 me2, .int .i64 mf2] rfl _ Try.underlying41 rfl (by kernel_rfl) ?_) | (refine wpl_take 43 _ rfl rfl _ 9 rfl _ HK1.out [.int .i64 x01, .int .i64 y01, .int .i64 x11, .int .i64 y11] rfl _ Try.underlying43 rfl (by kernel_rfl) ?_) | (refine wpl_take 43 _ rfl rfl _ 9 rfl _ HK2.out [.int .i64 x02, .int .i64 y02, .int .i64 x12, .int .i64 y12] rfl _ Try.underlying43 rfl (by kernel_rfl) ?_) | (refine wpl_take 50 _ rfl rfl _ 13 rfl _ HK1.out [.int .i64 k1, .int .i64 W1, .int .i64 H1, .int .u32 (p1 : Nat), .int .i64 iw1, .int .i64 ih1, .slice A1 l1.length c1] rfl _ Try.underlying50 rfl (by kernel_rfl) ?_) | (refine wpl_take 50 _ rfl rfl _ 13 rfl _ HK2.out [.int .i64 k2, .int .i64 W2, .int .i64 H2, .int .u32 (p2 : Nat), .int .i64 iw2, .int .i64 ih2, .slice A2 l2.length c2] rfl _ Try.underlying50 rfl (by kernel_rfl) ?_)))
        go_ret
        exact ⟨ret_bool HQ.out.symm, HB.out⟩
      | true =>
        cases b4 with
        | false =>
          go_enter Try.func28, Try.ntmps28
          go_upto_region 1 with (fail)
          generalize ((w.alloc (.cells #[.int .i64 ma1, .int .i64 mb1, .int .i64 mc1, .int .i64 md1, .int .i64 me1, .int .i64 mf1, .int .i64 op1, .bool hi1, .bool cl1, .int .i64 x01, .int .i64 y01, .int .i64 x11, .int .i64 y11, .int .i64 k1, .int .i64 W1, .int .i64 H1, .int .u32 (p1 : Nat), .int .i64 iw1, .int .i64 ih1, .slice A1 l1.length c1] 68)).alloc (.cells #[.int .i64 ma2, .int .i64 mb2, .int .i64 mc2, .int .i64 md2, .int .i64 me2, .int .i64 mf2, .int .i64 op2, .bool hi2, .bool cl2, .int .i64 x02, .int .i64 y02, .int .i64 x12, .int .i64 y12, .int .i64 k2, .int .i64 W2, .int .i64 H2, .int .u32 (p2 : Nat), .int .i64 iw2, .int .i64 ih2, .slice A2 l2.length c2] 68)) = wz at *
          have c6 : wz.cell? ⟨w.heap.size, 6, none⟩ = some (.int .i64 op1) := HK1.out.cell 6
          have c7 : wz.cell? ⟨w.heap.size, 7, none⟩ = some (.bool hi1) := HK1.out.cell 7
          have c8 : wz.cell? ⟨w.heap.size, 8, none⟩ = some (.bool cl1) := HK1.out.cell 8
          have d6 : wz.cell? ⟨w.heap.size + 1, 6, none⟩ = some (.int .i64 op2) := HK2.out.cell 6
          have d7 : wz.cell? ⟨w.heap.size + 1, 7, none⟩ = some (.bool hi2) := HK2.out.cell 7
          have d8 : wz.cell? ⟨w.heap.size + 1, 8, none⟩ = some (.bool cl2) := HK2.out.cell 8
          have i1 := HK1.out.inside
          have i2 := HK2.out.inside
          go_wp2_with (first | (with_reducible show wpList _ _ _ (Oper.mk _ (Op.load _ _) _ _ _ _ :: _) _ _; first | (refine wpl_take 41 _ rfl rfl _ 0 rfl _ HK1.out [.int .i64 ma1, .int .i64 mb1, .int .i64 mc1, .int .i64 md1, .int .i64 me1, .int .i64 mf1] rfl _ Try.underlying41 rfl (by kernel_rfl) ?_) | (refine wpl_take 41 _ rfl rfl _ 0 rfl _ HK2.out [.int .i64 ma2, .int .i64 mb2, .int .i64 mc2, .int .i64 md2, .int .i64 me2, .int .i64 mf2] rfl _ Try.underlying41 rfl (by kernel_rfl) ?_) | (refine wpl_take 43 _ rfl rfl _ 9 rfl _ HK1.out [.int .i64 x01, .int .i64 y01, .int .i64 x11, .int .i64 y11] rfl _ Try.underlying43 rfl (by kernel_rfl) ?_) | (refine wpl_take 43 _ rfl rfl _ 9 rfl _ HK2.out [.int .i64 x02, .int .i64 y02, .int .i64 x12, .int .i64 y12] rfl _ Try.underlying43 rfl (by kernel_rfl) ?_) | (refine wpl_take 50 _ rfl rfl _ 13 rfl _ HK1.out [.int .i64 k1, .int .i64 W1, .int .i64 H1, .int .u32 (p1 : Nat), .int .i64 iw1, .int .i64 ih1, .slice A1 l1.length c1] rfl _ Try.underlying50 rfl (by kernel_rfl) ?_) | (refine wpl_take 50 _ rfl rfl _ 13 rfl _ HK2.out [.int .i64 k2, .int .i64 W2, .int .i64 H2, .int .u32 (p2 : Nat), .int .i64 iw2, .int .i64 ih2, .slice A2 l2.length c2] rfl _ Try.underlying50 rfl (by kernel_rfl) ?_)))
          go_ret
          exact ⟨ret_bool HQ.out.symm, HB.out⟩
        | true =>
          cases b5 with
          | false =>
            go_enter Try.func28, Try.ntmps28
            go_upto_region 1 with (fail)
            generalize ((w.alloc (.cells #[.int .i64 ma1, .int .i64 mb1, .int .i64 mc1, .int .i64 md1, .int .i64 me1, .int .i64 mf1, .int .i64 op1, .bool hi1, .bool cl1, .int .i64 x01, .int .i64 y01, .int .i64 x11, .int .i64 y11, .int .i64 k1, .int .i64 W1, .int .i64 H1, .int .u32 (p1 : Nat), .int .i64 iw1, .int .i64 ih1, .slice A1 l1.length c1] 68)).alloc (.cells #[.int .i64 ma2, .int .i64 mb2, .int .i64 mc2, .int .i64 md2, .int .i64 me2, .int .i64 mf2, .int .i64 op2, .bool hi2, .bool cl2, .int .i64 x02, .int .i64 y02, .int .i64 x12, .int .i64 y12, .int .i64 k2, .int .i64 W2, .int .i64 H2, .int .u32 (p2 : Nat), .int .i64 iw2, .int .i64 ih2, .slice A2 l2.length c2] 68)) = wz at *
            have c6 : wz.cell? ⟨w.heap.size, 6, none⟩ = some (.int .i64 op1) := HK1.out.cell 6
            have c7 : wz.cell? ⟨w.heap.size, 7, none⟩ = some (.bool hi1) := HK1.out.cell 7
            have c8 : wz.cell? ⟨w.heap.size, 8, none⟩ = some (.bool cl1) := HK1.out.cell 8
            have d6 : wz.cell? ⟨w.heap.size + 1, 6, none⟩ = some (.int .i64 op2) := HK2.out.cell 6
            have d7 : wz.cell? ⟨w.heap.size + 1, 7, none⟩ = some (.bool hi2) := HK2.out.cell 7
            have d8 : wz.cell? ⟨w.heap.size + 1, 8, none⟩ = some (.bool cl2) := HK2.out.cell 8
            have i1 := HK1.out.inside
            have i2 := HK2.out.inside
            go_wp2_with (first | (with_reducible show wpList _ _ _ (Oper.mk _ (Op.load _ _) _ _ _ _ :: _) _ _; first | (refine wpl_take 41 _ rfl rfl _ 0 rfl _ HK1.out [.int .i64 ma1, .int .i64 mb1, .int .i64 mc1, .int .i64 md1, .int .i64 me1, .int .i64 mf1] rfl _ Try.underlying41 rfl (by kernel_rfl) ?_) | (refine wpl_take 41 _ rfl rfl _ 0 rfl _ HK2.out [.int .i64 ma2, .int .i64 mb2, .int .i64 mc2, .int .i64 md2, .int .i64 me2, .int .i64 mf2] rfl _ Try.underlying41 rfl (by kernel_rfl) ?_) | (refine wpl_take 43 _ rfl rfl _ 9 rfl _ HK1.out [.int .i64 x01, .int .i64 y01, .int .i64 x11, .int .i64 y11] rfl _ Try.underlying43 rfl (by kernel_rfl) ?_) | (refine wpl_take 43 _ rfl rfl _ 9 rfl _ HK2.out [.int .i64 x02, .int .i64 y02, .int .i64 x12, .int .i64 y12] rfl _ Try.underlying43 rfl (by kernel_rfl) ?_) | (refine wpl_take 50 _ rfl rfl _ 13 rfl _ HK1.out [.int .i64 k1, .int .i64 W1, .int .i64 H1, .int .u32 (p1 : Nat), .int .i64 iw1, .int .i64 ih1, .slice A1 l1.length c1] rfl _ Try.underlying50 rfl (by kernel_rfl) ?_) | (refine wpl_take 50 _ rfl rfl _ 13 rfl _ HK2.out [.int .i64 k2, .int .i64 W2, .int .i64 H2, .int .u32 (p2 : Nat), .int .i64 iw2, .int .i64 ih2, .slice A2 l2.length c2] rfl _ Try.underlying50 rfl (by kernel_rfl) ?_)))
            go_ret
            exact ⟨ret_bool HQ.out.symm, HB.out⟩
          | true =>
            go_enter Try.func28, Try.ntmps28
            go_upto_region 1 with (fail)
            generalize ((w.alloc (.cells #[.int .i64 ma1, .int .i64 mb1, .int .i64 mc1, .int .i64 md1, .int .i64 me1, .int .i64 mf1, .int .i64 op1, .bool hi1, .bool cl1, .int .i64 x01, .int .i64 y01, .int .i64 x11, .int .i64 y11, .int .i64 k1, .int .i64 W1, .int .i64 H1, .int .u32 (p1 : Nat), .int .i64 iw1, .int .i64 ih1, .slice A1 l1.length c1] 68)).alloc (.cells #[.int .i64 ma2, .int .i64 mb2, .int .i64 mc2, .int .i64 md2, .int .i64 me2, .int .i64 mf2, .int .i64 op2, .bool hi2, .bool cl2, .int .i64 x02, .int .i64 y02, .int .i64 x12, .int .i64 y12, .int .i64 k2, .int .i64 W2, .int .i64 H2, .int .u32 (p2 : Nat), .int .i64 iw2, .int .i64 ih2, .slice A2 l2.length c2] 68)) = wz at *
            have c6 : wz.cell? ⟨w.heap.size, 6, none⟩ = some (.int .i64 op1) := HK1.out.cell 6
            have c7 : wz.cell? ⟨w.heap.size, 7, none⟩ = some (.bool hi1) := HK1.out.cell 7
            have c8 : wz.cell? ⟨w.heap.size, 8, none⟩ = some (.bool cl1) := HK1.out.cell 8
            have d6 : wz.cell? ⟨w.heap.size + 1, 6, none⟩ = some (.int .i64 op2) := HK2.out.cell 6
            have d7 : wz.cell? ⟨w.heap.size + 1, 7, none⟩ = some (.bool hi2) := HK2.out.cell 7
            have d8 : wz.cell? ⟨w.heap.size + 1, 8, none⟩ = some (.bool cl2) := HK2.out.cell 8
            have i1 := HK1.out.inside
            have i2 := HK2.out.inside
            go_wp2_with (first | (with_reducible show wpList _ _ _ (Oper.mk _ (Op.load _ _) _ _ _ _ :: _) _ _; first | (refine wpl_take 41 _ rfl rfl _ 0 rfl _ HK1.out [.int .i64 ma1, .int .i64 mb1, .int .i64 mc1, .int .i64 md1, .int .i64 me1, .int .i64 mf1] rfl _ Try.underlying41 rfl (by kernel_rfl) ?_) | (refine wpl_take 41 _ rfl rfl _ 0 rfl _ HK2.out [.int .i64 ma2, .int .i64 mb2, .int .i64 mc2, .int .i64 md2, .int .i64 me2, .int .i64 mf2] rfl _ Try.underlying41 rfl (by kernel_rfl) ?_) | (refine wpl_take 43 _ rfl rfl _ 9 rfl _ HK1.out [.int .i64 x01, .int .i64 y01, .int .i64 x11, .int .i64 y11] rfl _ Try.underlying43 rfl (by kernel_rfl) ?_) | (refine wpl_take 43 _ rfl rfl _ 9 rfl _ HK2.out [.int .i64 x02, .int .i64 y02, .int .i64 x12, .int .i64 y12] rfl _ Try.underlying43 rfl (by kernel_rfl) ?_) | (refine wpl_take 50 _ rfl rfl _ 13 rfl _ HK1.out [.int .i64 k1, .int .i64 W1, .int .i64 H1, .int .u32 (p1 : Nat), .int .i64 iw1, .int .i64 ih1, .slice A1 l1.length c1] rfl _ Try.underlying50 rfl (by kernel_rfl) ?_) | (refine wpl_take 50 _ rfl rfl _ 13 rfl _ HK2.out [.int .i64 k2, .int .i64 W2, .int .i64 H2, .int .u32 (p2 : Nat), .int .i64 iw2, .int .i64 ih2, .slice A2 l2.length c2] rfl _ Try.underlying50 rfl (by kernel_rfl) ?_)))
            refine (HE.out _ (HR.out.1.below HB.out) (HR.out.2.below HB.out)).mono ?_
            rintro e w2 ⟨rfl, hb⟩
            have HB2 : Hid (Below w.heap.size w w2) := bel2 HB.out hb
            clear hb HE
            go_wp2_with (fail)
            go_ret
            exact ⟨ret_bool HQ.out.symm, HB2.out⟩
end Go.Proofs.Ytgadheamldianaa
