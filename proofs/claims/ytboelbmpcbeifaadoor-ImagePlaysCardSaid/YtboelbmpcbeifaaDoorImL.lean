/-
  Layer 10: Copy, Equal.
-/
import Derived.Test.YtboelbmpcbeifaaDoorImLay
import Derived.Test.YtboelbmpcbeifaaDoorImC
import Derived.Deep.RegionHeld3
namespace Go.Proofs.YtboelbmpcbeifaaDoor
open Go.RowKit pxm imm

theorem Row.some_ {α : Type} {enc : α → Value} {w : World} {A : Option Addr} {l : List α} (h : Row enc w A l) (hn : 0 < l.length) : ∃ b off, A = some ⟨b, off, none⟩ ∧ b < w.heap.size ∧ ∀ j (h : j < l.length), w.cell? ⟨b, off + j, none⟩ = some (enc l[j]) := by
  obtain ⟨b, off, e, hc⟩ := h hn
  exact ⟨b, off, e, World.block_lt_of_cell? w ⟨b, _, none⟩ (hc 0 hn), hc⟩
def CloneQ (l : List Nat) (w : World) (e : Ending) (w' : World) : Prop := ∃ g cap, e = .returned (.slice (some ⟨g, 0, none⟩) l.length cap) ∧ Px w' g l ∧ w.heap.size ≤ g ∧ l.length ≤ cap ∧ cap ≤ maxLen ∧ Below w.heap.size w w'
theorem clone_any (A : Option Addr) (l : List Nat) (c : Nat) (w : World) (hr : Row eW w A l) (hn : 0 < l.length) (hn2 : l.length ≤ 20000000) : Calls Tryd.prog 34 #[.slice A l.length c] w (CloneQ l w) := by
  obtain ⟨b, off, rfl, -, hc⟩ := hr.some_ hn
  obtain ⟨i, hi, hz, hsize, hby⟩ := info_parts info_px
  have h := AnyE.slices_Clone l_clone i (.int .u32 0) 1 4 hi hz hsize hby rfl (by decide) Tryd.sizeOf35 b off l.length c (l.map eW) w (by simp) (by unfold maxLen; omega) (by omega)
    (fun j u hj => by
      obtain ⟨h1, h2⟩ := List.getElem?_eq_some_iff.1 hj
      rw [List.length_map] at h1
      rw [hc j h1, ← h2, List.getElem_map])
    (fun u hu => by
      obtain ⟨z, _, rfl⟩ := List.mem_map.1 hu
      rfl)
  have h : Calls Tryd.prog 34 #[.slice (some ⟨b, off, none⟩) l.length c] w _ := h
  refine h.mono ?_
  rintro e w' ⟨v, rfl, ho, hne, hb⟩
  rcases ho.2 with ⟨rfl, h0⟩ | ⟨g, cap, cur, rfl, hg, hbl, hcap, hcm, hcs, ht⟩
  · exact absurd rfl hne
  · refine ⟨g, cap, rfl, ⟨cur.toList.drop (l.length * 1), 35, ?_⟩, hg, hcap, hcm, hb⟩
    rw [← ht, List.take_append_drop]
    exact hbl
def CopyQ (W H : Int) (l : List Nat) (w : World) (e : Ending) (w' : World) : Prop := ∃ g cap, e = .returned (imV W H (some ⟨g, 0, none⟩) l.length cap) ∧ Px w' g l ∧ w.heap.size ≤ g ∧ l.length ≤ cap ∧ cap ≤ maxLen ∧ Below w.heap.size w w'
set_option maxHeartbeats 2000000 in
set_option maxRecDepth 100000 in
theorem copy_any (W H : Int) (A : Option Addr) (l : List Nat) (c : Nat) (w : World) (hr : Row eW w A l) (hn : 0 < l.length) (hn2 : l.length ≤ 20000000) : Calls Tryd.prog 19 #[imV W H A l.length c] w (CopyQ W H l w) := by
  have HR := Lib.hid hr
  have HC := Lib.hid (fun w hr => clone_any A l c w hr hn hn2)
  unfold CloneQ at HC
  unfold CopyQ
  have hn3 : l.length ≤ 9223372036854775807 := by omega
  clear hr hn hn2
  unfold imV
  go_enter Tryd.func19, Tryd.ntmps19
  go_wp2_with (fail)
  obtain ⟨w1, hw1⟩ : ∃ w1, ((w.alloc (.cells #[.int .i64 W, .int .i64 H, .slice A l.length c] 24)).alloc (.cells #[.int .i64 0, .int .i64 0, .slice none 0 0] 24)) = w1 := ⟨_, rfl⟩
  have HB1 : Hid (Below w.heap.size w w1) := by rw [← hw1]; exact ((Below.refl _ _).alloc (Nat.le_refl _) _).alloc (by simp) _
  have KM : Hid (Blk w1 w.heap.size [.int .i64 W, .int .i64 H, .slice A l.length c]) := by rw [← hw1]; exact (blk_new w [.int .i64 W, .int .i64 H, .slice A l.length c] _).alloc _
  have KR : Hid (Blk w1 (w.heap.size + 1) [.int .i64 0, .int .i64 0, .slice none 0 0]) := by rw [← hw1]; exact blk_at (w.alloc _) _ (by simp) [.int .i64 0, .int .i64 0, .slice none 0 0] _
  rw [hw1]
  clear hw1
  obtain ⟨⟨c0, c1, c2⟩, -, ci⟩ := KM.out.c3
  have HB1d : Hid (Below w.heap.size w w1.drew) := HB1.out.drew
  have KMd : Hid (Blk w1.drew w.heap.size [.int .i64 W, .int .i64 H, .slice A l.length c]) := KM.out
  have KRd : Hid (Blk w1.drew (w.heap.size + 1) [.int .i64 0, .int .i64 0, .slice none 0 0]) := KR.out
  go_region_held3 (fun w' => w'.cell? ⟨w.heap.size, 0, none⟩ = some (.int .i64 W) ∧ w'.cell? ⟨w.heap.size, 1, none⟩ = some (.int .i64 H) ∧ w'.cell? ⟨w.heap.size, 2, none⟩ = some (.slice A l.length c))
    (first | exact ⟨KMd.out.c3.1.1, KMd.out.c3.1.2.1, KMd.out.c3.1.2.2⟩ | exact ⟨x0, x1, x2⟩ | go_keep)
    ((first | (go_at_call 34; refine (HC.out _ (HR.out.below HB1d.out)).mono ?_; rintro e w2 ⟨g9, cap9, rfl, hx9, hg9, hl9, hm9, hb9⟩; have k2 : Blk w2 w.heap.size [.int .i64 W, .int .i64 H, .slice A l.length c] := KMd.out.below' hb9; have k3 : Blk w2 (w.heap.size + 1) [.int .i64 0, .int .i64 0, .slice none 0 0] := KRd.out.below' hb9; have x0 : w2.cell? ⟨w.heap.size, 0, none⟩ = some (.int .i64 W) := k2.c3.1.1; have x1 : w2.cell? ⟨w.heap.size, 1, none⟩ = some (.int .i64 H) := k2.c3.1.2.1; have x2 : w2.cell? ⟨w.heap.size, 2, none⟩ = some (.slice A l.length c) := k2.c3.1.2.2; have y0 : w2.cell? ⟨w.heap.size + 1, 0, none⟩ = some (.int .i64 0) := k3.c3.1.1; have y1 : w2.cell? ⟨w.heap.size + 1, 1, none⟩ = some (.int .i64 0) := k3.c3.1.2.1; have y2 : w2.cell? ⟨w.heap.size + 1, 2, none⟩ = some (.slice none 0 0) := k3.c3.1.2.2; have z0 : w2.frozen? ⟨w.heap.size + 1, 0, none⟩ = false := k3.c3.2.1.1; have z1 : w2.frozen? ⟨w.heap.size + 1, 1, none⟩ = false := k3.c3.2.1.2.1; have z2 : w2.frozen? ⟨w.heap.size + 1, 2, none⟩ = false := k3.c3.2.1.2.2; have hlt2 : w.heap.size + 1 < w2.heap.size := k3.c3.2.2)))
  have hz1 : w1.drew.heap.size = w1.heap.size := rfl
  have hgn : g9 ≠ w.heap.size + 1 := by have := KR.out.inside; omega
  have hgw : w.heap.size ≤ g9 := by have := HB1.out.size; omega
  have HX : Hid (Px (((w2.setCell ⟨w.heap.size + 1, 0, none⟩ (.int .i64 W)).setCell ⟨w.heap.size + 1, 1, none⟩ (.int .i64 H)).setCell ⟨w.heap.size + 1, 2, none⟩ (.slice (some ⟨g9, 0, none⟩) l.length cap9)) g9 l) :=
    ((hx9.stays (Below.heap_setCell _ _ _ _ hgn)).stays (Below.heap_setCell _ _ _ _ hgn)).stays (Below.heap_setCell _ _ _ _ hgn)
  have HB2 : Hid (Below w.heap.size w (((w2.setCell ⟨w.heap.size + 1, 0, none⟩ (.int .i64 W)).setCell ⟨w.heap.size + 1, 1, none⟩ (.int .i64 H)).setCell ⟨w.heap.size + 1, 2, none⟩ (.slice (some ⟨g9, 0, none⟩) l.length cap9))) :=
    below_set (below_set (below_set (HB1d.out.trans (hb9.mono HB1d.out.size)) (by omega)) (by omega)) (by omega)
  have HK := Lib.hid (((k3.set 0 (.int .i64 W)).set 1 (.int .i64 H)).set 2 (.slice (some ⟨g9, 0, none⟩) l.length cap9))
  have HQ := Lib.hid (And.intro hgw (And.intro hl9 hm9))
  clear hgn hgw hx9 hb9 k2 k3 x0 x1 x2 y0 y1 y2 z0 z1 z2 hlt2 c0 c1 c2 ci hl9 hm9
  generalize (((w2.setCell ⟨w.heap.size + 1, 0, none⟩ (.int .i64 W)).setCell ⟨w.heap.size + 1, 1, none⟩ (.int .i64 H)).setCell ⟨w.heap.size + 1, 2, none⟩ (.slice (some ⟨g9, 0, none⟩) l.length cap9)) = w5 at *
  go_wp2_with (fail)
  exact blk_ret rfl rfl HK.out Tryd.underlying24 rfl (by kernel_rfl) ⟨g9, cap9, rfl, HX.out, HQ.out.1, HQ.out.2.1, HQ.out.2.2, HB2.out⟩
/-! ### Equal -/
theorem allEq_iff : ∀ (xs ys : List Int), Go.Lib.allEq (fun x y : Int => x == y) xs ys = decide (xs = ys)
  | [], [] => rfl
  | [], _ :: _ => rfl
  | _ :: _, [] => rfl
  | x :: xs, y :: ys => by
    show ((x == y) && Go.Lib.allEq _ xs ys) = _
    rw [allEq_iff xs ys]
    by_cases h1 : x = y <;> by_cases h2 : xs = ys <;> simp [h1, h2]
theorem eqs_any (A1 A2 : Option Addr) (l1 l2 : List Nat) (c1 c2 : Nat) (w : World) (h1 : Row eW w A1 l1) (h2 : Row eW w A2 l2) (n1 : 0 < l1.length) (n2 : 0 < l2.length) (m1 : l1.length ≤ maxLen) (m2 : l2.length ≤ maxLen) :
    Calls Tryd.prog 35 #[.slice A1 l1.length c1, .slice A2 l2.length c2] w fun e w' => e = .returned (.bool (decide (l1 = l2))) ∧ Below w.heap.size w w' := by
  obtain ⟨b1, o1, rfl, -, hc1⟩ := h1.some_ n1
  obtain ⟨b2, o2, rfl, -, hc2⟩ := h2.some_ n2
  have hat : ∀ (l : List Nat) (j : Nat) (hj : j < l.length), (l.map fun z : Nat => (z : Int))[j]! = (l[j] : Int) := fun l j hj => by
    rw [getElem!_pos _ j (by simpa using hj)]
    simp
  have h := AnyE.slices_Equal l_equal (Value.int .u32) _ (NeqAt.int Tryd.prog _ .u32) b1 o1 l1.length c1 b2 o2 l2.length c2 (l1.map fun z : Nat => (z : Int)) (l2.map fun z : Nat => (z : Int)) w (by simp) (by simp) (by unfold maxLen at m1; omega) (by unfold maxLen at m2; omega)
    (fun j hj => by
      rw [List.length_map] at hj
      rw [hat l1 j hj]
      exact hc1 j hj)
    (fun j hj => by
      rw [List.length_map] at hj
      rw [hat l2 j hj]
      exact hc2 j hj)
  have h : Calls Tryd.prog 35 #[.slice (some ⟨b1, o1, none⟩) l1.length c1, .slice (some ⟨b2, o2, none⟩) l2.length c2] w _ := h
  refine h.mono ?_
  rintro e w' ⟨rfl, q, rfl⟩
  refine ⟨?_, Below.drewN' (Below.refl _ _) q⟩
  rw [List.take_of_length_le (by simp), List.take_of_length_le (by simp), allEq_iff]
  refine ret_bool (decide_eq_decide.2 ⟨fun h => ?_, fun h => by rw [h]⟩)
  have := congrArg (List.map Int.toNat) h
  simpa [List.map_map, Function.comp_def] using this
def eqB (W1 H1 : Int) (l1 : List Nat) (W2 H2 : Int) (l2 : List Nat) : Bool := decide (W1 = W2) && (decide (H1 = H2) && decide (l1 = l2))
set_option maxHeartbeats 1000000 in
theorem equal_any (W1 H1 : Int) (A1 : Option Addr) (l1 : List Nat) (c1 : Nat) (W2 H2 : Int) (A2 : Option Addr) (l2 : List Nat) (c2 : Nat) (w : World) (h1 : Row eW w A1 l1) (h2 : Row eW w A2 l2) (n1 : 0 < l1.length) (n2 : 0 < l2.length) (m1 : l1.length ≤ maxLen) (m2 : l2.length ≤ maxLen) :
    Calls Tryd.prog 20 #[imV W1 H1 A1 l1.length c1, imV W2 H2 A2 l2.length c2] w fun e w' => e = .returned (.bool (eqB W1 H1 l1 W2 H2 l2)) ∧ Below w.heap.size w w' := by
  have HR := Lib.hid (And.intro h1 h2)
  have HE := Lib.hid (fun w h1 h2 => eqs_any A1 A2 l1 l2 c1 c2 w h1 h2 n1 n2 m1 m2)
  have HQ : Hid (eqB W1 H1 l1 W2 H2 l2 = (decide (W1 = W2) && (decide (H1 = H2) && decide (l1 = l2)))) := rfl
  clear h1 h2 n1 n2 m1 m2
  generalize eqB W1 H1 l1 W2 H2 l2 = R at *
  generalize decide (l1 = l2) = y at *
  unfold imV
  by_cases t1 : W1 = W2
  · have q1 : (W1 == W2) = true := by simpa using t1
    rw [decide_eq_true t1, Bool.true_and] at HQ
    clear t1
    by_cases t2 : H1 = H2
    · have q2 : (H1 == H2) = true := by simpa using t2
      rw [decide_eq_true t2, Bool.true_and] at HQ
      clear t2
      go_enter Tryd.func20, Tryd.ntmps20
      go_wp2_with (fail)
      have HB : Hid (Below w.heap.size w ((w.alloc (.cells #[.int .i64 W1, .int .i64 H1, .slice A1 l1.length c1] 24)).alloc (.cells #[.int .i64 W2, .int .i64 H2, .slice A2 l2.length c2] 24))) := ((Below.refl _ _).alloc (Nat.le_refl _) _).alloc (by simp) _
      refine (HE.out _ (HR.out.1.below HB.out) (HR.out.2.below HB.out)).mono ?_
      rintro e w2 ⟨rfl, hb⟩
      have HB2 : Hid (Below w.heap.size w w2) := HB.out.trans (hb.mono HB.out.size)
      clear hb HE
      go_wp2_with (fail)
      go_ret
      exact ⟨ret_bool HQ.out.symm, HB2.out⟩
    · have q2 : (H1 == H2) = false := by simpa using t2
      rw [decide_eq_false t2, Bool.false_and] at HQ
      clear t2 HE
      go_enter Tryd.func20, Tryd.ntmps20
      go_wp2_with (fail)
      go_ret
      exact ⟨ret_bool HQ.out.symm, ((Below.refl _ _).alloc (Nat.le_refl _) _).alloc (by simp) _⟩
  · have q1 : (W1 == W2) = false := by simpa using t1
    rw [decide_eq_false t1, Bool.false_and] at HQ
    clear t1 HE
    go_enter Tryd.func20, Tryd.ntmps20
    go_wp2_with (fail)
    go_ret
    exact ⟨ret_bool HQ.out.symm, ((Below.refl _ _).alloc (Nat.le_refl _) _).alloc (by simp) _⟩
end Go.Proofs.YtboelbmpcbeifaaDoor
