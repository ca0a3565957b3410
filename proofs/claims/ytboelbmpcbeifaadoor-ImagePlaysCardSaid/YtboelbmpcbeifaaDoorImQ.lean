/-
  Layer 10: words for the laws that fill: how it stands in a region with a Fill; what whole images and lines are.
-/
import Derived.Test.YtboelbmpcbeifaaDoorImP
namespace Go.Proofs.YtboelbmpcbeifaaDoor
open Go.RowKit pxm imm

/-- boxes and pixels stay; g's pixels are l, and, once it is filled, l2 -/
def JF (old : List (Nat × List Value)) (pxs : List (Nat × List Nat)) (g : Nat) (l l2 : List Nat) (iF : Bool) (w : World) : Prop :=
  JBs old w ∧ ((∀ p ∈ pxs, Px w p.1 p.2 ∧ p.1 ≠ g) ∧ (∀ p ∈ old, p.1 ≠ g)) ∧ Px w g (if iF = true then l2 else l) ∧ True
section
variable {old : List (Nat × List Value)} {pxs : List (Nat × List Nat)} {g : Nat} {l l2 : List Nat} {iF : Bool} {w w' : World}
theorem JF.inside (h : JF old pxs g l l2 iF w) : g < w.heap.size := h.2.2.1.inside
theorem JF.below (h : JF old pxs g l l2 iF w) (hb : Below w.heap.size w w') : JF old pxs g l l2 iF w' :=
  ⟨h.1.below hb, ⟨fun p hp => ⟨(h.2.1.1 p hp).1.below hb, (h.2.1.1 p hp).2⟩, h.2.1.2⟩, h.2.2.1.below hb, trivial⟩
theorem JF.filled (h : JF old pxs g l l2 false w) (ho : Off [g] w w') (hx : Px w' g l2) : JF old pxs g l l2 true w' :=
  ⟨h.1.off (fun p hp => by simpa using h.2.1.2 p hp) ho, ⟨fun p hp => ⟨(h.2.1.1 p hp).1.off ho (by simpa using (h.2.1.1 p hp).2), (h.2.1.1 p hp).2⟩, h.2.1.2⟩, hx, trivial⟩
theorem JF.end_ (h : JF old pxs g l l2 true w) : JBs old w ∧ (∀ p ∈ pxs, Px w p.1 p.2) ∧ Px w g l2 := ⟨h.1, fun p hp => (h.2.1.1 p hp).1, h.2.2.1⟩
end
theorem fill_n (W H N : Nat) (hW : 1 ≤ W ∧ W ≤ 4096) (hH : 1 ≤ H ∧ H ≤ 4096) (hN : N = W * H) (g p cap : Nat) (px : List Nat) (hpx : px.length = N) (hcap : N ≤ cap) (hcm : cap ≤ maxLen) (hp4 : p < 4294967296) (hrb : rb p = true) (AL : Option Addr) (rl : List Bx) (cl : Nat) (hl : rl.length ≤ 1000000) (r : Nat) (px2 : List Nat)
    (h1 : cnt (atI W (cov rl)) N = r) (h2 : paint (atI W (cov rl)) p px = px2) (w : World) (hrow : BRow w AL rl) (hx : Px w g px) :
    Calls Tryd.prog 17 #[.agg #[.int .i64 (W : Nat), .int .i64 (H : Nat), .slice (some ⟨g, 0, none⟩) N cap], .int .u32 (p : Nat), .slice AL rl.length cl] w
      fun e w' => e = .returned (.int .i64 (r : Nat)) ∧ Px w' g px2 ∧ Off [g] w w' := by
  have h := fill_any W H hW hH g p cap px (hpx.trans hN) (by rw [hpx]; exact hcap) hcm hp4 hrb AL rl cl hl w hrow hx
  rw [hpx, ← hN, h1, h2] at h
  exact h
theorem atI_one (W : Nat) (r : Bx) (i : Nat) : atI W (cov [r]) i = r.has (i % W : Nat) (i / W : Nat) := by simp [atI, cov]
/-- the whole frame -/
theorem whole_at {W H i : Nat} (hW : 0 < W) (hi : i < W * H) : atI W (cov [⟨0, 0, (W : Nat), (H : Nat)⟩]) i = true := by
  rw [atI_one]
  exact place_ok hW hi
theorem paint_all {F : Nat → Bool} (p : Nat) (l : List Nat) (h : ∀ j, j < l.length → F j = true) : paint F p l = List.replicate l.length p := by
  refine List.ext_getElem (by rw [paint_len, List.length_replicate]) fun j h1 h2 => ?_
  rw [paint_len] at h1
  rw [paint_at F p l h1, if_pos (h j h1), List.getElem_replicate]
theorem paint_same (F : Nat → Bool) (p N : Nat) : paint F p (List.replicate N p) = List.replicate N p := by
  refine List.ext_getElem (by rw [paint_len]) fun j h1 h2 => ?_
  rw [paint_len] at h1
  rw [paint_at F p _ h1]
  simp
/-- a line -/
theorem line_at {W y i : Nat} (hW : 0 < W) : atI W (cov [⟨-5, (y : Nat), (W : Nat) + 5, (y : Nat) + 1⟩]) i = rin W 0 y W (y + 1) i := by
  rw [atI_one]
  unfold Bx.has rin
  have hm := Nat.mod_lt i hW
  generalize i % W = r at *
  generalize i / W = q at *
  rw [Bool.eq_iff_iff]
  simp only [Bool.and_eq_true, decide_eq_true_eq]
  omega
theorem line_cnt {W H y : Nat} (hW : 0 < W) (hy : y < H) : cnt (atI W (cov [⟨-5, (y : Nat), (W : Nat) + 5, (y : Nat) + 1⟩])) (W * H) = W := by
  rw [cnt_congr (fun i _ => line_at hW)]
  have h := cnt_rect 0 y W (y + 1) W H hW (Nat.zero_le _) (Nat.le_refl _) (by omega)
  rw [show min H (y + 1) - min H y = 1 by omega, Nat.one_mul] at h
  exact h
def lines (W y p N : Nat) : List Nat := paint (fun i => decide (i / W < y)) p (List.replicate N 0)
theorem lines_len (W y p N : Nat) : (lines W y p N).length = N := by unfold lines; rw [paint_len, List.length_replicate]
theorem lines_0 (W p N : Nat) : lines W 0 p N = List.replicate N 0 := paint_none _ _ (fun _ _ => by simp)
theorem lines_step {W y : Nat} (hW : 0 < W) (p N : Nat) : paint (atI W (cov [⟨-5, (y : Nat), (W : Nat) + 5, (y : Nat) + 1⟩])) p (lines W y p N) = lines W (y + 1) p N := by
  unfold lines
  rw [paint_paint]
  refine paint_congr _ _ fun i _ => ?_
  rw [line_at hW]
  unfold rin
  have hm := Nat.mod_lt i hW
  generalize i % W = r at *
  generalize i / W = q at *
  rw [Bool.eq_iff_iff]
  simp only [Bool.or_eq_true, Bool.and_eq_true, decide_eq_true_eq]
  omega
theorem lines_all {W H N : Nat} (hN : N = W * H) (p : Nat) : lines W H p N = List.replicate N p := by
  unfold lines
  rw [paint_all p _ (fun j hj => decide_eq_true (by rw [List.length_replicate, hN] at hj; exact Nat.div_lt_of_lt_mul hj)), List.length_replicate]
theorem line_mul {W H y : Nat} (hy : y < H) : y * W + W ≤ W * H := by
  have := Nat.mul_le_mul_right W (show y + 1 ≤ H from hy)
  rw [Nat.add_mul, Nat.one_mul, Nat.mul_comm H W] at this
  exact this
end Go.Proofs.YtboelbmpcbeifaaDoor
