/-
  Layer 10: the law's awake.
-/
import Derived.Test.YtboelbmpcbeifaaDoorImK
import Derived.Test.YtboelbmpcbeifaaDoorImL
import Derived.Test.YtboelbmpcbeifaaDoorImM
namespace Go.Proofs.YtboelbmpcbeifaaDoor
open Go.RowKit pxm imm

theorem crcs.TabAt.off {S : List Nat} {w w' : World} (h : crcs.TabAt w) (ho : Off S w w') (hS : 0 ∉ S) : crcs.TabAt w' := fun j hj => by
  have h1 := ho.far _ h.pos hS
  rw [← h j hj]
  simp only [World.cell?, h1]
/-- how it stands in a region that only reads: boxes, pixels, the table -/
def JM (old : List (Nat × List Value)) (pxs : List (Nat × List Nat)) (w : World) : Prop := JBs old w ∧ (∀ p ∈ pxs, Px w p.1 p.2) ∧ crcs.TabAt w
theorem JM.below {old : List (Nat × List Value)} {pxs : List (Nat × List Nat)} {w w' : World} (h : JM old pxs w) (hb : Below w.heap.size w w') : JM old pxs w' := ⟨h.1.below hb, fun p hp => (h.2.1 p hp).below hb, h.2.2.below hb⟩
theorem JM.row {old : List (Nat × List Value)} {pxs : List (Nat × List Nat)} {w : World} (h : JM old pxs w) {g : Nat} {l : List Nat} (hp : (g, l) ∈ pxs) : Row eW w (some ⟨g, 0, none⟩) l := (h.2.1 _ hp).row
theorem aw_set1 (g : Nat) (w : World) (h : Px w g [0, 0]) : Calls Tryd.prog 15 #[.agg #[.int .i64 2, .int .i64 1, .slice (some ⟨g, 0, none⟩) 2 2], .int .i64 1, .int .i64 0, .int .u32 255] w fun e w' => e = .returned (.bool true) ∧ Px w' g [0, 255] ∧ Off [g] w w' := by
  have h := set_any 2 1 g [0, 0] 2 1 0 255 (by decide) (by decide) (by decide) w h
  rw [show (inB 2 1 1 0 && rb 255) = true by decide +kernel, show pxSet 2 1 [0, 0] 1 0 255 = [0, 255] by decide +kernel] at h
  exact h
theorem aw_set2 (g : Nat) (w : World) (h : Px w g [0, 255]) : Calls Tryd.prog 15 #[.agg #[.int .i64 2, .int .i64 1, .slice (some ⟨g, 0, none⟩) 2 2], .int .i64 2, .int .i64 0, .int .u32 255] w fun e w' => e = .returned (.bool false) ∧ Px w' g [0, 255] ∧ Off [g] w w' := by
  have h := set_any 2 1 g [0, 255] 2 2 0 255 (by decide) (by decide) (by decide) w h
  rw [show (inB 2 1 2 0 && rb 255) = false by decide +kernel, show pxSet 2 1 [0, 255] 2 0 255 = [0, 255] by decide +kernel] at h
  exact h
theorem aw_set3 (g : Nat) (w : World) (h : Px w g [0, 255]) : Calls Tryd.prog 15 #[.agg #[.int .i64 2, .int .i64 1, .slice (some ⟨g, 0, none⟩) 2 2], .int .i64 0, .int .i64 0, .int .u32 16777216] w fun e w' => e = .returned (.bool false) ∧ Px w' g [0, 255] ∧ Off [g] w w' := by
  have h := set_any 2 1 g [0, 255] 2 0 0 16777216 (by decide) (by decide) (by decide) w h
  rw [show (inB 2 1 0 0 && rb 16777216) = false by decide +kernel, show pxSet 2 1 [0, 255] 0 0 16777216 = [0, 255] by decide +kernel] at h
  exact h
theorem aw_copy (g : Nat) (w : World) (h : Px w g [0, 255]) : Calls Tryd.prog 19 #[.agg #[.int .i64 2, .int .i64 1, .slice (some ⟨g, 0, none⟩) 2 2]] w (fun e w' => ∃ g2 cap, e = .returned (.agg #[.int .i64 2, .int .i64 1, .slice (some ⟨g2, 0, none⟩) 2 cap]) ∧ Px w' g2 [0, 255] ∧ w.heap.size ≤ g2 ∧ 2 ≤ cap ∧ cap ≤ maxLen ∧ Below w.heap.size w w') := copy_any 2 1 (some ⟨g, 0, none⟩) [0, 255] 2 w h.row (by decide) (by decide)
theorem aw_fill (g cap : Nat) (hcap : 2 ≤ cap) (hcm : cap ≤ maxLen) (b : Nat) (w : World) (hx : Px w g [0, 255]) (hb : BRow w (some ⟨b, 0, none⟩) [⟨0, 0, 9, 9⟩]) : Calls Tryd.prog 17 #[.agg #[.int .i64 2, .int .i64 1, .slice (some ⟨g, 0, none⟩) 2 cap], .int .u32 0, .slice (some ⟨b, 0, none⟩) 1 1] w
    fun e w' => e = .returned (.int .i64 2) ∧ Px w' g [0, 0] ∧ Off [g] w w' := by
  have h := fill_any 2 1 (by decide) (by decide) g 0 cap [0, 255] rfl hcap hcm (by decide) (by decide +kernel) (some ⟨b, 0, none⟩) [⟨0, 0, 9, 9⟩] 1 (by decide) w hb hx
  rw [show cnt (atI 2 (cov [⟨0, 0, 9, 9⟩])) (2 * 1) = 2 by decide +kernel, show paint (atI 2 (cov [⟨0, 0, 9, 9⟩])) 0 [0, 255] = [0, 0] by decide +kernel] at h
  exact h
set_option maxHeartbeats 8000000 in
set_option maxRecDepth 100000 in
theorem awake_any (w : World) (ht : crcs.TabAt w) : Calls Tryd.prog 7 #[] w fun e w' => e = .returned (.bool true) ∧ Below w.heap.size w w' := by
  have HT := Lib.hid ht
  clear ht
  go_enter Tryd.func7, Tryd.ntmps7
  go_wp2_with (fail)
  refine (new_any 2 1 w).mono ?_
  rintro e w1 ⟨hb, hq⟩
  rw [if_pos (by decide)] at hq
  obtain ⟨g1, n, rfl, hn, hg1, hx1⟩ := hq
  obtain rfl : n = 2 := by omega
  have HB1 := Lib.hid hb
  have HX1 : Hid (Px w1 g1 [0, 0]) := hx1
  have HG1 := Lib.hid hg1
  clear hb hn hg1 hx1
  unfold imV
  go_wp2_with (fail)
  refine (new_any 0 1 _).mono ?_
  rintro e w2 ⟨hb, hq⟩
  rw [if_neg (by decide)] at hq
  subst hq
  have hb1 : Below w1.heap.size w1 (w1.alloc (.cells #[.int .i64 2, .int .i64 1, .slice (some ⟨g1, 0, none⟩) 2 2] 24)) := (Below.refl _ _).alloc (Nat.le_refl _) _
  have HB2 : Hid (Below w.heap.size w w2) := (HB1.out.trans (hb1.mono HB1.out.size)).trans (hb.mono (Nat.le_trans HB1.out.size hb1.size))
  have HX2 : Hid (Px w2 g1 [0, 0]) := (HX1.out.below hb1).below hb
  have K2 : Hid (Blk w2 w1.heap.size [.int .i64 2, .int .i64 1, .slice (some ⟨g1, 0, none⟩) 2 2]) := (blk_new w1 [.int .i64 2, .int .i64 1, .slice (some ⟨g1, 0, none⟩) 2 2] _).below' hb
  have HGB : Hid (g1 < w1.heap.size ∧ w.heap.size ≤ w1.heap.size) := ⟨HX1.out.inside, HB1.out.size⟩
  clear hb hb1 HB1 HX1
  unfold imV
  generalize w1.heap.size = b1 at *
  obtain ⟨⟨c0, c1, c2⟩, -, ci⟩ := K2.out.c3
  go_wp2_with (fail)
  have hb2 : Below w2.heap.size w2 (w2.alloc (.cells #[.int .i64 0, .int .i64 0, .slice none 0 0] 24)) := (Below.refl _ _).alloc (Nat.le_refl _) _
  refine (aw_set1 g1 _ (HX2.out.below hb2)).mono ?_
  rintro e w3 ⟨rfl, hx, ho⟩
  have hne1 : b1 ∉ [g1] := by have := HGB.out; simp; omega
  have HO3 : Hid (Off [g1] w2 w3) := (Off.of_below hb2).trans ho
  have K3 : Hid (Blk w3 b1 [.int .i64 2, .int .i64 1, .slice (some ⟨g1, 0, none⟩) 2 2]) := ho.blk (K2.out.alloc _) hne1
  have HX3 := Lib.hid hx
  have HN1 := Lib.hid hne1
  clear hb2 hx ho hne1 K2 HX2 c0 c1 c2 ci
  obtain ⟨⟨c0, c1, c2⟩, -, ci⟩ := K3.out.c3
  go_wp2_with (fail)
  refine (aw_set2 g1 _ HX3.out).mono ?_
  rintro e w4 ⟨rfl, hx, ho⟩
  have HO4 : Hid (Off [g1] w2 w4) := HO3.out.trans ho
  have K4 : Hid (Blk w4 b1 [.int .i64 2, .int .i64 1, .slice (some ⟨g1, 0, none⟩) 2 2]) := ho.blk K3.out HN1.out
  have HX4 := Lib.hid hx
  clear hx ho K3 HX3 HO3 c0 c1 c2 ci
  obtain ⟨⟨c0, c1, c2⟩, -, ci⟩ := K4.out.c3
  go_wp2_with (fail)
  refine (aw_set3 g1 _ HX4.out).mono ?_
  rintro e w5 ⟨rfl, hx, ho⟩
  have HO5 : Hid (Off [g1] w2 w5) := HO4.out.trans ho
  have K5 : Hid (Blk w5 b1 [.int .i64 2, .int .i64 1, .slice (some ⟨g1, 0, none⟩) 2 2]) := ho.blk K4.out HN1.out
  have HX5 := Lib.hid hx
  clear hx ho K4 HX4 HO4 c0 c1 c2 ci
  have HB5 : Hid (Below w.heap.size w w5) := HB2.out.trans (HO5.out.to_below HB2.out.size (by intro q hq; simp at hq; rw [hq]; exact HG1.out))
  have HT5 := Lib.hid (HT.out.below HB5.out)
  clear HO5 HB2
  obtain ⟨⟨c0, c1, c2⟩, -, ci⟩ := K5.out.c3
  go_wp2_with (fail)
  refine (aw_copy g1 _ HX5.out).mono ?_
  rintro e w6 ⟨g2, cap, rfl, hx, hg2, hcap, hcm, hb⟩
  have HB6 : Hid (Below w.heap.size w w6) := HB5.out.trans (hb.mono HB5.out.size)
  have K6 : Hid (Blk w6 b1 [.int .i64 2, .int .i64 1, .slice (some ⟨g1, 0, none⟩) 2 2]) := K5.out.below' hb
  have HX6 : Hid (Px w6 g1 [0, 255]) := HX5.out.below hb
  have HY6 := Lib.hid hx
  have HT6 := Lib.hid (HT5.out.below hb)
  have HG2 : Hid (b1 < g2 ∧ g1 < g2 ∧ w.heap.size ≤ g2 ∧ 0 < g2) := ⟨Nat.lt_of_lt_of_le K5.out.inside hg2, Nat.lt_of_lt_of_le HX5.out.inside hg2, Nat.le_trans HB5.out.size hg2, Nat.lt_of_lt_of_le HT5.out.pos hg2⟩
  have HCAP := Lib.hid (And.intro (show 2 ≤ cap from hcap) hcm)
  clear hx hg2 hcap hcm hb K5 HX5 HB5 HT5 c0 c1 c2 ci
  go_wp2_with (fail)
  obtain ⟨w7, hw7⟩ : ∃ w7, w6.alloc (.cells #[.int .i64 2, .int .i64 1, .slice (some ⟨g2, 0, none⟩) 2 cap] 24) = w7 := ⟨_, rfl⟩
  have hb7 : Below w6.heap.size w6 w7 := by rw [← hw7]; exact (Below.refl _ _).alloc (Nat.le_refl _) _
  have HB7 : Hid (Below w.heap.size w w7) := HB6.out.trans (hb7.mono HB6.out.size)
  have K7 : Hid (Blk w7 b1 [.int .i64 2, .int .i64 1, .slice (some ⟨g1, 0, none⟩) 2 2]) := K6.out.below' hb7
  have L7 : Hid (Blk w7 w6.heap.size [.int .i64 2, .int .i64 1, .slice (some ⟨g2, 0, none⟩) 2 cap]) := by rw [← hw7]; exact blk_new w6 [.int .i64 2, .int .i64 1, .slice (some ⟨g2, 0, none⟩) 2 cap] _
  have HX7 : Hid (Px w7 g1 [0, 255]) := HX6.out.below hb7
  have HY7 : Hid (Px w7 g2 [0, 255]) := HY6.out.below hb7
  have HT7 := Lib.hid (HT6.out.below hb7)
  have HG6 : Hid (g2 < w6.heap.size) := HY6.out.inside
  rw [hw7]
  clear hw7 hb7 HB6 K6 HX6 HY6 HT6
  generalize w6.heap.size = b5 at *
  obtain ⟨⟨c0, c1, c2⟩, -, ci⟩ := L7.out.c3
  have HOF := Lib.hid (fun w => bx_of ⟨0, 0, 9, 9⟩ w)
  rw [show Bx.nrm ⟨0, 0, 9, 9⟩ = ⟨0, 0, 9, 9⟩ by decide] at HOF
  unfold Bx.v at HOF
  simp only at HOF
  have L7d : Hid (Blk w7.drew b5 [.int .i64 2, .int .i64 1, .slice (some ⟨g2, 0, none⟩) 2 cap]) := L7.out
  have HBR : Hid (∀ w : World, BRow (w.alloc (.cells #[.int .i64 0, .int .i64 0, .int .i64 9, .int .i64 9] 30)) (some ⟨w.heap.size, 0, none⟩) [⟨0, 0, 9, 9⟩]) := fun w => brow_new w [⟨0, 0, 9, 9⟩] rfl
  have hne5 : b5 ∉ [g2] := by have := HG6.out; simp; omega
  go_region_held3 (fun w' => w'.cell? ⟨b5, 0, none⟩ = some (.int .i64 2) ∧ w'.cell? ⟨b5, 1, none⟩ = some (.int .i64 1) ∧ w'.cell? ⟨b5, 2, none⟩ = some (.slice (some ⟨g2, 0, none⟩) 2 cap))
    (first | exact ⟨L7d.out.c3.1.1, L7d.out.c3.1.2.1, L7d.out.c3.1.2.2⟩ | exact ⟨x0, x1, x2⟩ | exact ⟨y0, y1, y2⟩ | go_keep)
    ((first | (go_at_call 24; refine (HOF.out _).mono ?_; rintro e w8 ⟨rfl, hb8⟩; have k8 : Blk w8 b5 [.int .i64 2, .int .i64 1, .slice (some ⟨g2, 0, none⟩) 2 cap] := L7d.out.below' hb8; have x0 : w8.cell? ⟨b5, 0, none⟩ = some (.int .i64 2) := k8.c3.1.1; have x1 : w8.cell? ⟨b5, 1, none⟩ = some (.int .i64 1) := k8.c3.1.2.1; have x2 : w8.cell? ⟨b5, 2, none⟩ = some (.slice (some ⟨g2, 0, none⟩) 2 cap) := k8.c3.1.2.2; have hlt8 : b5 < w8.heap.size := k8.inside) | (go_at_call 17; refine (aw_fill g2 cap HCAP.out.1 HCAP.out.2 _ _ (((show Px w7.drew g2 [0, 255] from HY7.out).below hb8).below ((Below.refl _ _).alloc (Nat.le_refl _) _)) (HBR.out w8)).mono ?_; rintro e w9 ⟨rfl, hx9, ho9⟩; have k9 : Blk w9 b5 [.int .i64 2, .int .i64 1, .slice (some ⟨g2, 0, none⟩) 2 cap] := ho9.blk (k8.alloc _) hne5; have y0 : w9.cell? ⟨b5, 0, none⟩ = some (.int .i64 2) := k9.c3.1.1; have y1 : w9.cell? ⟨b5, 1, none⟩ = some (.int .i64 1) := k9.c3.1.2.1; have y2 : w9.cell? ⟨b5, 2, none⟩ = some (.slice (some ⟨g2, 0, none⟩) 2 cap) := k9.c3.1.2.2)))
  have hb9 : Below w8.heap.size w8 (w8.alloc (.cells #[.int .i64 0, .int .i64 0, .int .i64 9, .int .i64 9] 30)) := (Below.refl _ _).alloc (Nat.le_refl _) _
  have hg2 := HG2.out
  have hg6 := HG6.out
  have hgb := HGB.out
  have hz7 : w7.drew.heap.size = w7.heap.size := rfl
  have hb8' : Below w7.heap.size w7 w8 := (Below.refl _ _).drew.trans hb8
  have hY9 : Px w9 g2 [0, 0] := hx9
  have hX9 : Px w9 g1 [0, 255] := ((HX7.out.below hb8').below hb9).off ho9 (by simp; omega)
  have hT9 : crcs.TabAt w9 := crcs.TabAt.off ((HT7.out.below hb8').below hb9) ho9 (by simp; omega)
  have K9 : Blk w9 b1 [.int .i64 2, .int .i64 1, .slice (some ⟨g1, 0, none⟩) 2 2] := ho9.blk ((K7.out.below' hb8').below' hb9) (by simp; omega)
  have L9 : Blk w9 b5 [.int .i64 2, .int .i64 1, .slice (some ⟨g2, 0, none⟩) 2 cap] := ho9.blk ((L7.out.below' hb8').below' hb9) (by simp; omega)
  have HB8 : Hid (Below w.heap.size w w8) := HB7.out.trans (hb8'.mono HB7.out.size)
  have HB9 : Hid (Below w.heap.size w w9) := (HB8.out.trans (hb9.mono HB8.out.size)).trans (ho9.to_below (Nat.le_trans HB8.out.size hb9.size) (by intro q hq; simp at hq; omega))
  have HJ9 : Hid (JM [(b1, [.int .i64 2, .int .i64 1, .slice (some ⟨g1, 0, none⟩) 2 2]), (b5, [.int .i64 2, .int .i64 1, .slice (some ⟨g2, 0, none⟩) 2 cap])] [(g1, [0, 255]), (g2, [0, 0])] w9) :=
    ⟨⟨K9, L9, trivial⟩, by intro q hq; simp only [List.mem_cons, List.not_mem_nil, or_false] at hq; rcases hq with rfl | rfl <;> first | exact hX9 | exact hY9, hT9⟩
  clear k9 y0 y1 y2 hne5 hb9 hz7 hb8' hY9 hX9 hT9 K9 L9 hb8 k8 x0 x1 x2 hlt8 hx9 ho9 hg2 hg6 hgb c0 c1 c2 ci L7d L7 K7 HX7 HY7 HT7 HB7 HB8 HBR
  have HMS := Lib.hid HCAP.out.2
  have A1 : Hid (∀ w, Row eW w (some ⟨g1, 0, none⟩) [0, 255] → Calls Tryd.prog 18 #[.agg #[.int .i64 2, .int .i64 1, .slice (some ⟨g1, 0, none⟩) 2 2], .int .i64 1, .int .i64 0] w fun e w' => e = .returned (.int .u32 255) ∧ Below w.heap.size w w') := fun w h => at_any 2 1 (some ⟨g1, 0, none⟩) [0, 255] 2 1 0 (by decide) (by decide) w h
  have A2 : Hid (∀ w, Row eW w (some ⟨g1, 0, none⟩) [0, 255] → Calls Tryd.prog 18 #[.agg #[.int .i64 2, .int .i64 1, .slice (some ⟨g1, 0, none⟩) 2 2], .int .i64 0, .int .i64 0] w fun e w' => e = .returned (.int .u32 0) ∧ Below w.heap.size w w') := fun w h => at_any 2 1 (some ⟨g1, 0, none⟩) [0, 255] 2 0 0 (by decide) (by decide) w h
  have A3 : Hid (∀ w, Row eW w (some ⟨g1, 0, none⟩) [0, 255] → Calls Tryd.prog 9 #[.agg #[.int .i64 2, .int .i64 1, .slice (some ⟨g1, 0, none⟩) 2 2]] w fun e w' => e = .returned (.int .i64 0) ∧ Below w.heap.size w w') := fun w h => by
    have := check_any 2 1 (some ⟨g1, 0, none⟩) [0, 255] 2 (by decide) (by decide) w h
    rw [show chk 2 1 [0, 255] = 0 by decide +kernel] at this
    exact this
  have A4 : Hid (∀ w, Row eW w (some ⟨g1, 0, none⟩) [0, 255] → Calls Tryd.prog 10 #[.agg #[.int .i64 2, .int .i64 1, .slice (some ⟨g1, 0, none⟩) 2 2]] w fun e w' => e = .returned (.bool true) ∧ Below w.heap.size w w') := fun w h => by
    have := small_any 2 1 (some ⟨g1, 0, none⟩) [0, 255] 2 (by decide) (by decide) w h
    rw [show smallB 2 1 [0, 255] = true by decide +kernel] at this
    exact this
  have A5 : Hid (∀ w, Row eW w (some ⟨g1, 0, none⟩) [0, 255] → Row eW w (some ⟨g2, 0, none⟩) [0, 0] → Calls Tryd.prog 20 #[.agg #[.int .i64 2, .int .i64 1, .slice (some ⟨g1, 0, none⟩) 2 2], .agg #[.int .i64 2, .int .i64 1, .slice (some ⟨g2, 0, none⟩) 2 cap]] w fun e w' => e = .returned (.bool false) ∧ Below w.heap.size w w') := fun w h h2 => by
    have := equal_any 2 1 (some ⟨g1, 0, none⟩) [0, 255] 2 2 1 (some ⟨g2, 0, none⟩) [0, 0] cap w h h2 (by decide) (by decide) (by decide) (by decide)
    rw [show eqB 2 1 [0, 255] 2 1 [0, 0] = false by decide +kernel] at this
    exact this
  have A6 : Hid (∀ w, Row eW w (some ⟨g1, 0, none⟩) [0, 255] → Calls Tryd.prog 20 #[.agg #[.int .i64 2, .int .i64 1, .slice (some ⟨g1, 0, none⟩) 2 2], .agg #[.int .i64 2, .int .i64 1, .slice (some ⟨g1, 0, none⟩) 2 2]] w fun e w' => e = .returned (.bool true) ∧ Below w.heap.size w w') := fun w h => by
    have := equal_any 2 1 (some ⟨g1, 0, none⟩) [0, 255] 2 2 1 (some ⟨g1, 0, none⟩) [0, 255] 2 w h h (by decide) (by decide) (by decide) (by decide)
    rw [show eqB 2 1 [0, 255] 2 1 [0, 255] = true by decide +kernel] at this
    exact this
  have A7 : Hid (∀ w, Row eW w (some ⟨g1, 0, none⟩) [0, 255] → crcs.TabAt w → Calls Tryd.prog 21 #[.agg #[.int .i64 2, .int .i64 1, .slice (some ⟨g1, 0, none⟩) 2 2]] w fun e w' => e = .returned (.int .u32 (crcs.sum (sumL 2 1 [0, 255]) : Nat)) ∧ Below w.heap.size w w') := fun w h ht => isum_any 2 1 (by decide) (by decide) (some ⟨g1, 0, none⟩) [0, 255] 2 (by decide) (by decide) w h ht
  have A8 : Hid (∀ w, Row eW w (some ⟨g2, 0, none⟩) [0, 0] → crcs.TabAt w → Calls Tryd.prog 21 #[.agg #[.int .i64 2, .int .i64 1, .slice (some ⟨g2, 0, none⟩) 2 cap]] w fun e w' => e = .returned (.int .u32 (crcs.sum (sumL 2 1 [0, 0]) : Nat)) ∧ Below w.heap.size w w') := fun w h ht => isum_any 2 1 (by decide) (by decide) (some ⟨g2, 0, none⟩) [0, 0] cap (by decide) (by decide) w h ht
  have A9 : Hid (∀ w, Calls Tryd.prog 11 #[.agg #[.int .i64 2, .int .i64 1, .slice (some ⟨g1, 0, none⟩) 2 2]] w fun e w' => e = .returned (.agg #[.int .i64 0, .int .i64 0, .int .i64 2, .int .i64 1]) ∧ Below w.heap.size w w') := fun w => frame_any 2 1 (some ⟨g1, 0, none⟩) 2 2 w
  have A0 : Hid (∀ w, Calls Tryd.prog 24 #[.int .i64 0, .int .i64 0, .int .i64 2, .int .i64 1] w fun e w' => e = .returned (.agg #[.int .i64 0, .int .i64 0, .int .i64 2, .int .i64 1]) ∧ Below w.heap.size w w') := fun w => by
    have := bx_of ⟨0, 0, 2, 1⟩ w
    rw [show Bx.nrm ⟨0, 0, 2, 1⟩ = ⟨0, 0, 2, 1⟩ by decide] at this
    exact this
  have AS : Hid (((crcs.sum (sumL 2 1 [0, 255]) : Nat) : Int) ≠ ((crcs.sum (sumL 2 1 [0, 0]) : Nat) : Int)) := by show _ ≠ _; decide +kernel
  generalize crcs.sum (sumL 2 1 [0, 255]) = s1 at *
  generalize crcs.sum (sumL 2 1 [0, 0]) = s2 at *
  go_wp2_with (fail)
  refine regs.wp_region_put (regs.bl) (fun _ wx => JM [(b1, [.int .i64 2, .int .i64 1, .slice (some ⟨g1, 0, none⟩) 2 2]), (b5, [.int .i64 2, .int .i64 1, .slice (some ⟨g2, 0, none⟩) 2 cap])] [(g1, [0, 255]), (g2, [0, 0])] wx) [46, 47, 48, 49, 50, 51, 52, 53, 54, 55, 56, 57, 58, 59, 60, 61, 62, 63, 64, 65, 66, 67, 68, 69, 70, 71, 72, 73, 74, 75, 76, 77, 78, 79, 80, 81, 82, 83, 84, 85, 86, 87, 88, 89, 90, 0] (by kernel_rfl) (by kernel_rfl) (fun _ => regs.bl_refl _) (regs.bl_trans) (fun i => (match i with
    | 0 => regs.Say.val _ (.agg #[.int .i64 2, .int .i64 1, .slice (some ⟨g1, 0, none⟩) 2 2])
    | 1 => regs.Say.val _ (.int .u32 255)
    | 2 => regs.Say.val _ (.bool true)
    | 3 => regs.Say.val _ (.bool true)
    | 4 => regs.Say.val _ (.agg #[.int .i64 2, .int .i64 1, .slice (some ⟨g1, 0, none⟩) 2 2])
    | 5 => regs.Say.val _ (.int .u32 0)
    | 6 => regs.Say.val _ (.bool true)
    | 7 => regs.Say.val _ (.bool true)
    | 8 => regs.Say.val _ (.bool true)
    | 9 => regs.Say.val _ (.agg #[.int .i64 2, .int .i64 1, .slice (some ⟨g1, 0, none⟩) 2 2])
    | 10 => regs.Say.val _ (.int .i64 0)
    | 11 => regs.Say.val _ (.bool true)
    | 12 => regs.Say.val _ (.bool true)
    | 13 => regs.Say.val _ (.bool true)
    | 14 => regs.Say.val _ (.agg #[.int .i64 2, .int .i64 1, .slice (some ⟨g1, 0, none⟩) 2 2])
    | 15 => regs.Say.val _ (.bool true)
    | 16 => regs.Say.val _ (.bool true)
    | 17 => regs.Say.val _ (.bool true)
    | 18 => regs.Say.val _ (.int .i64 2)
    | 19 => regs.Say.val _ (.bool true)
    | 20 => regs.Say.val _ (.bool true)
    | 21 => regs.Say.val _ (.bool true)
    | 22 => regs.Say.val _ (.agg #[.int .i64 2, .int .i64 1, .slice (some ⟨g1, 0, none⟩) 2 2])
    | 23 => regs.Say.val _ (.agg #[.int .i64 2, .int .i64 1, .slice (some ⟨g2, 0, none⟩) 2 cap])
    | 24 => regs.Say.val _ (.bool false)
    | 25 => regs.Say.val _ (.bool true)
    | 26 => regs.Say.val _ (.bool true)
    | 27 => regs.Say.val _ (.bool true)
    | 28 => regs.Say.val _ (.agg #[.int .i64 2, .int .i64 1, .slice (some ⟨g1, 0, none⟩) 2 2])
    | 29 => regs.Say.val _ (.agg #[.int .i64 2, .int .i64 1, .slice (some ⟨g1, 0, none⟩) 2 2])
    | 30 => regs.Say.val _ (.bool true)
    | 31 => regs.Say.val _ (.bool true)
    | 32 => regs.Say.val _ (.bool true)
    | 33 => regs.Say.val _ (.agg #[.int .i64 2, .int .i64 1, .slice (some ⟨g1, 0, none⟩) 2 2])
    | 34 => regs.Say.val _ (.int .u32 (s1 : Nat))
    | 35 => regs.Say.val _ (.agg #[.int .i64 2, .int .i64 1, .slice (some ⟨g2, 0, none⟩) 2 cap])
    | 36 => regs.Say.val _ (.int .u32 (s2 : Nat))
    | 37 => regs.Say.val _ (.bool true)
    | 38 => regs.Say.val _ (.bool true)
    | 39 => regs.Say.val _ (.bool true)
    | 40 => regs.Say.val _ (.agg #[.int .i64 2, .int .i64 1, .slice (some ⟨g1, 0, none⟩) 2 2])
    | 41 => regs.Say.val _ (.agg #[.int .i64 0, .int .i64 0, .int .i64 2, .int .i64 1])
    | 42 => regs.Say.val _ (.agg #[.int .i64 0, .int .i64 0, .int .i64 2, .int .i64 1])
    | 43 => regs.Say.val _ (.bool true)
    | 44 => regs.Say.val _ (.bool true)
    | 45 => regs.Say.val _ (.bool true)
    | _ => regs.Say.any _ : regs.Say (regs.bl)).p) (fun _ => regs.Say.mono _) (by kernel_rfl) ((Below.refl _ _).drew) (HJ9.out) ⟨?_, ?_, ?_, ?_, ?_, ?_, ?_, ?_, ?_, ?_, ?_, ?_, ?_, ?_, ?_, ?_, ?_, ?_, ?_, ?_, ?_, ?_, ?_, ?_, ?_, ?_, ?_, ?_, ?_, ?_, ?_, ?_, ?_, ?_, ?_, ?_, ?_, ?_, ?_, ?_, ?_, ?_, ?_, ?_, ?_, ?_, trivial⟩ ?_
  · refine regs.StepOK.plain rfl fun L a w1 hh => ?_
    have h1 : a.tmps[1]?.getD undef = .pointer (some ⟨b1, 0, none⟩) := by rw [← Array.getD_eq_getD_getElem?]; exact hh.old 1 rfl
    obtain ⟨⟨c0, c1, c2⟩, -, ci⟩ := (hh.st.1.1).c3
    have hJ := Lib.hid hh.st
    clear hh
    go_simp
    exact ⟨_, rfl, regs.bl_refl _, rfl, hJ.out⟩
  · refine regs.StepOK.plain rfl fun L a w1 hh => ?_
    have h46 : a.tmps[46]?.getD undef = .agg #[.int .i64 2, .int .i64 1, .slice (some ⟨g1, 0, none⟩) 2 2] := by rw [← Array.getD_eq_getD_getElem?]; exact hh.dep 0 46 (by kernel_rfl) (by kernel_rfl)
    have := True.intro
    have hJ := Lib.hid hh.st
    clear hh
    go_simp
    refine (A1.out w1 (JM.row hJ.out (by simp))).mono ?_
    rintro e w9 ⟨rfl, hb9⟩
    exact ⟨_, rfl, hb9, rfl, JM.below hJ.out hb9⟩
  · refine regs.StepOK.plain rfl fun L a w1 hh => ?_
    have h47 : a.tmps[47]?.getD undef = .int .u32 255 := by rw [← Array.getD_eq_getD_getElem?]; exact hh.dep 1 47 (by kernel_rfl) (by kernel_rfl)
    have hJ := Lib.hid hh.st
    clear hh
    go_simp
    exact ⟨_, rfl, regs.bl_refl _, rfl, hJ.out⟩
  · refine regs.StepOK.plain rfl fun L a w1 hh => ?_
    have h48 : a.tmps[48]?.getD undef = .bool true := by rw [← Array.getD_eq_getD_getElem?]; exact hh.dep 2 48 (by kernel_rfl) (by kernel_rfl)
    have hJ := Lib.hid hh.st
    clear hh
    go_simp
    exact ⟨_, rfl, regs.bl_refl _, rfl, hJ.out⟩
  · refine regs.StepOK.yes 3 true 49 rfl rfl (fun L a w1 hh => hh.dep 3 49 (by kernel_rfl) (by kernel_rfl)) fun L a w1 hh => ?_
    have h1 : a.tmps[1]?.getD undef = .pointer (some ⟨b1, 0, none⟩) := by rw [← Array.getD_eq_getD_getElem?]; exact hh.old 1 rfl
    obtain ⟨⟨c0, c1, c2⟩, -, ci⟩ := (hh.st.1.1).c3
    have hJ := Lib.hid hh.st
    clear hh
    go_simp
    exact ⟨_, rfl, regs.bl_refl _, rfl, hJ.out⟩
  · refine regs.StepOK.yes 3 true 49 rfl rfl (fun L a w1 hh => hh.dep 3 49 (by kernel_rfl) (by kernel_rfl)) fun L a w1 hh => ?_
    have h50 : a.tmps[50]?.getD undef = .agg #[.int .i64 2, .int .i64 1, .slice (some ⟨g1, 0, none⟩) 2 2] := by rw [← Array.getD_eq_getD_getElem?]; exact hh.dep 4 50 (by kernel_rfl) (by kernel_rfl)
    have := True.intro
    have hJ := Lib.hid hh.st
    clear hh
    go_simp
    refine (A2.out w1 (JM.row hJ.out (by simp))).mono ?_
    rintro e w9 ⟨rfl, hb9⟩
    exact ⟨_, rfl, hb9, rfl, JM.below hJ.out hb9⟩
  · refine regs.StepOK.yes 3 true 49 rfl rfl (fun L a w1 hh => hh.dep 3 49 (by kernel_rfl) (by kernel_rfl)) fun L a w1 hh => ?_
    have h51 : a.tmps[51]?.getD undef = .int .u32 0 := by rw [← Array.getD_eq_getD_getElem?]; exact hh.dep 5 51 (by kernel_rfl) (by kernel_rfl)
    have hJ := Lib.hid hh.st
    clear hh
    go_simp
    exact ⟨_, rfl, regs.bl_refl _, rfl, hJ.out⟩
  · refine regs.StepOK.plain rfl fun L a w1 hh => ?_
    have h49 : a.tmps[49]?.getD undef = .bool true := by rw [← Array.getD_eq_getD_getElem?]; exact hh.dep 3 49 (by kernel_rfl) (by kernel_rfl)
    have h52 : a.tmps[52]?.getD undef = .bool true := by rw [← Array.getD_eq_getD_getElem?]; exact hh.dep 6 52 (by kernel_rfl) (by kernel_rfl)
    have hJ := Lib.hid hh.st
    clear hh
    go_simp
    exact ⟨_, rfl, regs.bl_refl _, rfl, hJ.out⟩
  · refine regs.StepOK.plain rfl fun L a w1 hh => ?_
    have h53 : a.tmps[53]?.getD undef = .bool true := by rw [← Array.getD_eq_getD_getElem?]; exact hh.dep 7 53 (by kernel_rfl) (by kernel_rfl)
    have hJ := Lib.hid hh.st
    clear hh
    go_simp
    exact ⟨_, rfl, regs.bl_refl _, rfl, hJ.out⟩
  · refine regs.StepOK.yes 8 true 54 rfl rfl (fun L a w1 hh => hh.dep 8 54 (by kernel_rfl) (by kernel_rfl)) fun L a w1 hh => ?_
    have h1 : a.tmps[1]?.getD undef = .pointer (some ⟨b1, 0, none⟩) := by rw [← Array.getD_eq_getD_getElem?]; exact hh.old 1 rfl
    obtain ⟨⟨c0, c1, c2⟩, -, ci⟩ := (hh.st.1.1).c3
    have hJ := Lib.hid hh.st
    clear hh
    go_simp
    exact ⟨_, rfl, regs.bl_refl _, rfl, hJ.out⟩
  · refine regs.StepOK.yes 8 true 54 rfl rfl (fun L a w1 hh => hh.dep 8 54 (by kernel_rfl) (by kernel_rfl)) fun L a w1 hh => ?_
    have h55 : a.tmps[55]?.getD undef = .agg #[.int .i64 2, .int .i64 1, .slice (some ⟨g1, 0, none⟩) 2 2] := by rw [← Array.getD_eq_getD_getElem?]; exact hh.dep 9 55 (by kernel_rfl) (by kernel_rfl)
    have := True.intro
    have hJ := Lib.hid hh.st
    clear hh
    go_simp
    refine (A3.out w1 (JM.row hJ.out (by simp))).mono ?_
    rintro e w9 ⟨rfl, hb9⟩
    exact ⟨_, rfl, hb9, rfl, JM.below hJ.out hb9⟩
  · refine regs.StepOK.yes 8 true 54 rfl rfl (fun L a w1 hh => hh.dep 8 54 (by kernel_rfl) (by kernel_rfl)) fun L a w1 hh => ?_
    have h56 : a.tmps[56]?.getD undef = .int .i64 0 := by rw [← Array.getD_eq_getD_getElem?]; exact hh.dep 10 56 (by kernel_rfl) (by kernel_rfl)
    have hJ := Lib.hid hh.st
    clear hh
    go_simp
    exact ⟨_, rfl, regs.bl_refl _, rfl, hJ.out⟩
  · refine regs.StepOK.plain rfl fun L a w1 hh => ?_
    have h54 : a.tmps[54]?.getD undef = .bool true := by rw [← Array.getD_eq_getD_getElem?]; exact hh.dep 8 54 (by kernel_rfl) (by kernel_rfl)
    have h57 : a.tmps[57]?.getD undef = .bool true := by rw [← Array.getD_eq_getD_getElem?]; exact hh.dep 11 57 (by kernel_rfl) (by kernel_rfl)
    have hJ := Lib.hid hh.st
    clear hh
    go_simp
    exact ⟨_, rfl, regs.bl_refl _, rfl, hJ.out⟩
  · refine regs.StepOK.plain rfl fun L a w1 hh => ?_
    have h58 : a.tmps[58]?.getD undef = .bool true := by rw [← Array.getD_eq_getD_getElem?]; exact hh.dep 12 58 (by kernel_rfl) (by kernel_rfl)
    have hJ := Lib.hid hh.st
    clear hh
    go_simp
    exact ⟨_, rfl, regs.bl_refl _, rfl, hJ.out⟩
  · refine regs.StepOK.yes 13 true 59 rfl rfl (fun L a w1 hh => hh.dep 13 59 (by kernel_rfl) (by kernel_rfl)) fun L a w1 hh => ?_
    have h1 : a.tmps[1]?.getD undef = .pointer (some ⟨b1, 0, none⟩) := by rw [← Array.getD_eq_getD_getElem?]; exact hh.old 1 rfl
    obtain ⟨⟨c0, c1, c2⟩, -, ci⟩ := (hh.st.1.1).c3
    have hJ := Lib.hid hh.st
    clear hh
    go_simp
    exact ⟨_, rfl, regs.bl_refl _, rfl, hJ.out⟩
  · refine regs.StepOK.yes 13 true 59 rfl rfl (fun L a w1 hh => hh.dep 13 59 (by kernel_rfl) (by kernel_rfl)) fun L a w1 hh => ?_
    have h60 : a.tmps[60]?.getD undef = .agg #[.int .i64 2, .int .i64 1, .slice (some ⟨g1, 0, none⟩) 2 2] := by rw [← Array.getD_eq_getD_getElem?]; exact hh.dep 14 60 (by kernel_rfl) (by kernel_rfl)
    have := True.intro
    have hJ := Lib.hid hh.st
    clear hh
    go_simp
    refine (A4.out w1 (JM.row hJ.out (by simp))).mono ?_
    rintro e w9 ⟨rfl, hb9⟩
    exact ⟨_, rfl, hb9, rfl, JM.below hJ.out hb9⟩
  · refine regs.StepOK.plain rfl fun L a w1 hh => ?_
    have h59 : a.tmps[59]?.getD undef = .bool true := by rw [← Array.getD_eq_getD_getElem?]; exact hh.dep 13 59 (by kernel_rfl) (by kernel_rfl)
    have h61 : a.tmps[61]?.getD undef = .bool true := by rw [← Array.getD_eq_getD_getElem?]; exact hh.dep 15 61 (by kernel_rfl) (by kernel_rfl)
    have hJ := Lib.hid hh.st
    clear hh
    go_simp
    exact ⟨_, rfl, regs.bl_refl _, rfl, hJ.out⟩
  · refine regs.StepOK.plain rfl fun L a w1 hh => ?_
    have h62 : a.tmps[62]?.getD undef = .bool true := by rw [← Array.getD_eq_getD_getElem?]; exact hh.dep 16 62 (by kernel_rfl) (by kernel_rfl)
    have hJ := Lib.hid hh.st
    clear hh
    go_simp
    exact ⟨_, rfl, regs.bl_refl _, rfl, hJ.out⟩
  · refine regs.StepOK.yes 17 true 63 rfl rfl (fun L a w1 hh => hh.dep 17 63 (by kernel_rfl) (by kernel_rfl)) fun L a w1 hh => ?_
    have h6 : a.tmps[6]?.getD undef = .int .i64 2 := by rw [← Array.getD_eq_getD_getElem?]; exact hh.old 6 rfl
    have hJ := Lib.hid hh.st
    clear hh
    go_simp
    exact ⟨_, rfl, regs.bl_refl _, rfl, hJ.out⟩
  · refine regs.StepOK.yes 17 true 63 rfl rfl (fun L a w1 hh => hh.dep 17 63 (by kernel_rfl) (by kernel_rfl)) fun L a w1 hh => ?_
    have h64 : a.tmps[64]?.getD undef = .int .i64 2 := by rw [← Array.getD_eq_getD_getElem?]; exact hh.dep 18 64 (by kernel_rfl) (by kernel_rfl)
    have hJ := Lib.hid hh.st
    clear hh
    go_simp
    exact ⟨_, rfl, regs.bl_refl _, rfl, hJ.out⟩
  · refine regs.StepOK.plain rfl fun L a w1 hh => ?_
    have h63 : a.tmps[63]?.getD undef = .bool true := by rw [← Array.getD_eq_getD_getElem?]; exact hh.dep 17 63 (by kernel_rfl) (by kernel_rfl)
    have h65 : a.tmps[65]?.getD undef = .bool true := by rw [← Array.getD_eq_getD_getElem?]; exact hh.dep 19 65 (by kernel_rfl) (by kernel_rfl)
    have hJ := Lib.hid hh.st
    clear hh
    go_simp
    exact ⟨_, rfl, regs.bl_refl _, rfl, hJ.out⟩
  · refine regs.StepOK.plain rfl fun L a w1 hh => ?_
    have h66 : a.tmps[66]?.getD undef = .bool true := by rw [← Array.getD_eq_getD_getElem?]; exact hh.dep 20 66 (by kernel_rfl) (by kernel_rfl)
    have hJ := Lib.hid hh.st
    clear hh
    go_simp
    exact ⟨_, rfl, regs.bl_refl _, rfl, hJ.out⟩
  · refine regs.StepOK.yes 21 true 67 rfl rfl (fun L a w1 hh => hh.dep 21 67 (by kernel_rfl) (by kernel_rfl)) fun L a w1 hh => ?_
    have h1 : a.tmps[1]?.getD undef = .pointer (some ⟨b1, 0, none⟩) := by rw [← Array.getD_eq_getD_getElem?]; exact hh.old 1 rfl
    obtain ⟨⟨c0, c1, c2⟩, -, ci⟩ := (hh.st.1.1).c3
    have hJ := Lib.hid hh.st
    clear hh
    go_simp
    exact ⟨_, rfl, regs.bl_refl _, rfl, hJ.out⟩
  · refine regs.StepOK.yes 21 true 67 rfl rfl (fun L a w1 hh => hh.dep 21 67 (by kernel_rfl) (by kernel_rfl)) fun L a w1 hh => ?_
    have h5 : a.tmps[5]?.getD undef = .pointer (some ⟨b5, 0, none⟩) := by rw [← Array.getD_eq_getD_getElem?]; exact hh.old 5 rfl
    obtain ⟨⟨c0, c1, c2⟩, -, ci⟩ := (hh.st.1.2.1).c3
    have hJ := Lib.hid hh.st
    clear hh
    go_simp
    exact ⟨_, rfl, regs.bl_refl _, rfl, hJ.out⟩
  · refine regs.StepOK.yes 21 true 67 rfl rfl (fun L a w1 hh => hh.dep 21 67 (by kernel_rfl) (by kernel_rfl)) fun L a w1 hh => ?_
    have h68 : a.tmps[68]?.getD undef = .agg #[.int .i64 2, .int .i64 1, .slice (some ⟨g1, 0, none⟩) 2 2] := by rw [← Array.getD_eq_getD_getElem?]; exact hh.dep 22 68 (by kernel_rfl) (by kernel_rfl)
    have h69 : a.tmps[69]?.getD undef = .agg #[.int .i64 2, .int .i64 1, .slice (some ⟨g2, 0, none⟩) 2 cap] := by rw [← Array.getD_eq_getD_getElem?]; exact hh.dep 23 69 (by kernel_rfl) (by kernel_rfl)
    have := True.intro
    have hJ := Lib.hid hh.st
    clear hh
    go_simp
    refine (A5.out w1 (JM.row hJ.out (by simp)) (JM.row hJ.out (by simp))).mono ?_
    rintro e w9 ⟨rfl, hb9⟩
    exact ⟨_, rfl, hb9, rfl, JM.below hJ.out hb9⟩
  · refine regs.StepOK.yes 21 true 67 rfl rfl (fun L a w1 hh => hh.dep 21 67 (by kernel_rfl) (by kernel_rfl)) fun L a w1 hh => ?_
    have h70 : a.tmps[70]?.getD undef = .bool false := by rw [← Array.getD_eq_getD_getElem?]; exact hh.dep 24 70 (by kernel_rfl) (by kernel_rfl)
    have hJ := Lib.hid hh.st
    clear hh
    go_simp
    exact ⟨_, rfl, regs.bl_refl _, rfl, hJ.out⟩
  · refine regs.StepOK.plain rfl fun L a w1 hh => ?_
    have h67 : a.tmps[67]?.getD undef = .bool true := by rw [← Array.getD_eq_getD_getElem?]; exact hh.dep 21 67 (by kernel_rfl) (by kernel_rfl)
    have h71 : a.tmps[71]?.getD undef = .bool true := by rw [← Array.getD_eq_getD_getElem?]; exact hh.dep 25 71 (by kernel_rfl) (by kernel_rfl)
    have hJ := Lib.hid hh.st
    clear hh
    go_simp
    exact ⟨_, rfl, regs.bl_refl _, rfl, hJ.out⟩
  · refine regs.StepOK.plain rfl fun L a w1 hh => ?_
    have h72 : a.tmps[72]?.getD undef = .bool true := by rw [← Array.getD_eq_getD_getElem?]; exact hh.dep 26 72 (by kernel_rfl) (by kernel_rfl)
    have hJ := Lib.hid hh.st
    clear hh
    go_simp
    exact ⟨_, rfl, regs.bl_refl _, rfl, hJ.out⟩
  · refine regs.StepOK.yes 27 true 73 rfl rfl (fun L a w1 hh => hh.dep 27 73 (by kernel_rfl) (by kernel_rfl)) fun L a w1 hh => ?_
    have h1 : a.tmps[1]?.getD undef = .pointer (some ⟨b1, 0, none⟩) := by rw [← Array.getD_eq_getD_getElem?]; exact hh.old 1 rfl
    obtain ⟨⟨c0, c1, c2⟩, -, ci⟩ := (hh.st.1.1).c3
    have hJ := Lib.hid hh.st
    clear hh
    go_simp
    exact ⟨_, rfl, regs.bl_refl _, rfl, hJ.out⟩
  · refine regs.StepOK.yes 27 true 73 rfl rfl (fun L a w1 hh => hh.dep 27 73 (by kernel_rfl) (by kernel_rfl)) fun L a w1 hh => ?_
    have h1 : a.tmps[1]?.getD undef = .pointer (some ⟨b1, 0, none⟩) := by rw [← Array.getD_eq_getD_getElem?]; exact hh.old 1 rfl
    obtain ⟨⟨c0, c1, c2⟩, -, ci⟩ := (hh.st.1.1).c3
    have hJ := Lib.hid hh.st
    clear hh
    go_simp
    exact ⟨_, rfl, regs.bl_refl _, rfl, hJ.out⟩
  · refine regs.StepOK.yes 27 true 73 rfl rfl (fun L a w1 hh => hh.dep 27 73 (by kernel_rfl) (by kernel_rfl)) fun L a w1 hh => ?_
    have h74 : a.tmps[74]?.getD undef = .agg #[.int .i64 2, .int .i64 1, .slice (some ⟨g1, 0, none⟩) 2 2] := by rw [← Array.getD_eq_getD_getElem?]; exact hh.dep 28 74 (by kernel_rfl) (by kernel_rfl)
    have h75 : a.tmps[75]?.getD undef = .agg #[.int .i64 2, .int .i64 1, .slice (some ⟨g1, 0, none⟩) 2 2] := by rw [← Array.getD_eq_getD_getElem?]; exact hh.dep 29 75 (by kernel_rfl) (by kernel_rfl)
    have := True.intro
    have hJ := Lib.hid hh.st
    clear hh
    go_simp
    refine (A6.out w1 (JM.row hJ.out (by simp))).mono ?_
    rintro e w9 ⟨rfl, hb9⟩
    exact ⟨_, rfl, hb9, rfl, JM.below hJ.out hb9⟩
  · refine regs.StepOK.plain rfl fun L a w1 hh => ?_
    have h73 : a.tmps[73]?.getD undef = .bool true := by rw [← Array.getD_eq_getD_getElem?]; exact hh.dep 27 73 (by kernel_rfl) (by kernel_rfl)
    have h76 : a.tmps[76]?.getD undef = .bool true := by rw [← Array.getD_eq_getD_getElem?]; exact hh.dep 30 76 (by kernel_rfl) (by kernel_rfl)
    have hJ := Lib.hid hh.st
    clear hh
    go_simp
    exact ⟨_, rfl, regs.bl_refl _, rfl, hJ.out⟩
  · refine regs.StepOK.plain rfl fun L a w1 hh => ?_
    have h77 : a.tmps[77]?.getD undef = .bool true := by rw [← Array.getD_eq_getD_getElem?]; exact hh.dep 31 77 (by kernel_rfl) (by kernel_rfl)
    have hJ := Lib.hid hh.st
    clear hh
    go_simp
    exact ⟨_, rfl, regs.bl_refl _, rfl, hJ.out⟩
  · refine regs.StepOK.yes 32 true 78 rfl rfl (fun L a w1 hh => hh.dep 32 78 (by kernel_rfl) (by kernel_rfl)) fun L a w1 hh => ?_
    have h1 : a.tmps[1]?.getD undef = .pointer (some ⟨b1, 0, none⟩) := by rw [← Array.getD_eq_getD_getElem?]; exact hh.old 1 rfl
    obtain ⟨⟨c0, c1, c2⟩, -, ci⟩ := (hh.st.1.1).c3
    have hJ := Lib.hid hh.st
    clear hh
    go_simp
    exact ⟨_, rfl, regs.bl_refl _, rfl, hJ.out⟩
  · refine regs.StepOK.yes 32 true 78 rfl rfl (fun L a w1 hh => hh.dep 32 78 (by kernel_rfl) (by kernel_rfl)) fun L a w1 hh => ?_
    have h79 : a.tmps[79]?.getD undef = .agg #[.int .i64 2, .int .i64 1, .slice (some ⟨g1, 0, none⟩) 2 2] := by rw [← Array.getD_eq_getD_getElem?]; exact hh.dep 33 79 (by kernel_rfl) (by kernel_rfl)
    have := True.intro
    have hJ := Lib.hid hh.st
    clear hh
    go_simp
    refine (A7.out w1 (JM.row hJ.out (by simp)) hJ.out.2.2).mono ?_
    rintro e w9 ⟨rfl, hb9⟩
    exact ⟨_, rfl, hb9, rfl, JM.below hJ.out hb9⟩
  · refine regs.StepOK.yes 32 true 78 rfl rfl (fun L a w1 hh => hh.dep 32 78 (by kernel_rfl) (by kernel_rfl)) fun L a w1 hh => ?_
    have h5 : a.tmps[5]?.getD undef = .pointer (some ⟨b5, 0, none⟩) := by rw [← Array.getD_eq_getD_getElem?]; exact hh.old 5 rfl
    obtain ⟨⟨c0, c1, c2⟩, -, ci⟩ := (hh.st.1.2.1).c3
    have hJ := Lib.hid hh.st
    clear hh
    go_simp
    exact ⟨_, rfl, regs.bl_refl _, rfl, hJ.out⟩
  · refine regs.StepOK.yes 32 true 78 rfl rfl (fun L a w1 hh => hh.dep 32 78 (by kernel_rfl) (by kernel_rfl)) fun L a w1 hh => ?_
    have h81 : a.tmps[81]?.getD undef = .agg #[.int .i64 2, .int .i64 1, .slice (some ⟨g2, 0, none⟩) 2 cap] := by rw [← Array.getD_eq_getD_getElem?]; exact hh.dep 35 81 (by kernel_rfl) (by kernel_rfl)
    have := True.intro
    have hJ := Lib.hid hh.st
    clear hh
    go_simp
    refine (A8.out w1 (JM.row hJ.out (by simp)) hJ.out.2.2).mono ?_
    rintro e w9 ⟨rfl, hb9⟩
    exact ⟨_, rfl, hb9, rfl, JM.below hJ.out hb9⟩
  · refine regs.StepOK.yes 32 true 78 rfl rfl (fun L a w1 hh => hh.dep 32 78 (by kernel_rfl) (by kernel_rfl)) fun L a w1 hh => ?_
    have h80 : a.tmps[80]?.getD undef = .int .u32 (s1 : Nat) := by rw [← Array.getD_eq_getD_getElem?]; exact hh.dep 34 80 (by kernel_rfl) (by kernel_rfl)
    have h82 : a.tmps[82]?.getD undef = .int .u32 (s2 : Nat) := by rw [← Array.getD_eq_getD_getElem?]; exact hh.dep 36 82 (by kernel_rfl) (by kernel_rfl)
    have q : ((s1 : Int) != (s2 : Int)) = true := by simpa using AS.out
    have hJ := Lib.hid hh.st
    clear hh
    go_simp
    exact ⟨_, rfl, regs.bl_refl _, rfl, hJ.out⟩
  · refine regs.StepOK.plain rfl fun L a w1 hh => ?_
    have h78 : a.tmps[78]?.getD undef = .bool true := by rw [← Array.getD_eq_getD_getElem?]; exact hh.dep 32 78 (by kernel_rfl) (by kernel_rfl)
    have h83 : a.tmps[83]?.getD undef = .bool true := by rw [← Array.getD_eq_getD_getElem?]; exact hh.dep 37 83 (by kernel_rfl) (by kernel_rfl)
    have hJ := Lib.hid hh.st
    clear hh
    go_simp
    exact ⟨_, rfl, regs.bl_refl _, rfl, hJ.out⟩
  · refine regs.StepOK.plain rfl fun L a w1 hh => ?_
    have h84 : a.tmps[84]?.getD undef = .bool true := by rw [← Array.getD_eq_getD_getElem?]; exact hh.dep 38 84 (by kernel_rfl) (by kernel_rfl)
    have hJ := Lib.hid hh.st
    clear hh
    go_simp
    exact ⟨_, rfl, regs.bl_refl _, rfl, hJ.out⟩
  · refine regs.StepOK.yes 39 true 85 rfl rfl (fun L a w1 hh => hh.dep 39 85 (by kernel_rfl) (by kernel_rfl)) fun L a w1 hh => ?_
    have h1 : a.tmps[1]?.getD undef = .pointer (some ⟨b1, 0, none⟩) := by rw [← Array.getD_eq_getD_getElem?]; exact hh.old 1 rfl
    obtain ⟨⟨c0, c1, c2⟩, -, ci⟩ := (hh.st.1.1).c3
    have hJ := Lib.hid hh.st
    clear hh
    go_simp
    exact ⟨_, rfl, regs.bl_refl _, rfl, hJ.out⟩
  · refine regs.StepOK.yes 39 true 85 rfl rfl (fun L a w1 hh => hh.dep 39 85 (by kernel_rfl) (by kernel_rfl)) fun L a w1 hh => ?_
    have h86 : a.tmps[86]?.getD undef = .agg #[.int .i64 2, .int .i64 1, .slice (some ⟨g1, 0, none⟩) 2 2] := by rw [← Array.getD_eq_getD_getElem?]; exact hh.dep 40 86 (by kernel_rfl) (by kernel_rfl)
    have := True.intro
    have hJ := Lib.hid hh.st
    clear hh
    go_simp
    refine (A9.out w1).mono ?_
    rintro e w9 ⟨rfl, hb9⟩
    exact ⟨_, rfl, hb9, rfl, JM.below hJ.out hb9⟩
  · refine regs.StepOK.yes 39 true 85 rfl rfl (fun L a w1 hh => hh.dep 39 85 (by kernel_rfl) (by kernel_rfl)) fun L a w1 hh => ?_
    have := True.intro
    have hJ := Lib.hid hh.st
    clear hh
    go_simp
    refine (A0.out w1).mono ?_
    rintro e w9 ⟨rfl, hb9⟩
    exact ⟨_, rfl, hb9, rfl, JM.below hJ.out hb9⟩
  · refine regs.StepOK.yes 39 true 85 rfl rfl (fun L a w1 hh => hh.dep 39 85 (by kernel_rfl) (by kernel_rfl)) fun L a w1 hh => ?_
    have h87 : a.tmps[87]?.getD undef = .agg #[.int .i64 0, .int .i64 0, .int .i64 2, .int .i64 1] := by rw [← Array.getD_eq_getD_getElem?]; exact hh.dep 41 87 (by kernel_rfl) (by kernel_rfl)
    have h88 : a.tmps[88]?.getD undef = .agg #[.int .i64 0, .int .i64 0, .int .i64 2, .int .i64 1] := by rw [← Array.getD_eq_getD_getElem?]; exact hh.dep 42 88 (by kernel_rfl) (by kernel_rfl)
    have eqst := fun w => bx_eq ⟨0, 0, 2, 1⟩ ⟨0, 0, 2, 1⟩ w
    rw [decide_eq_true rfl] at eqst
    unfold Bx.v at eqst
    simp only at eqst
    have hJ := Lib.hid hh.st
    clear hh
    go_simp
    exact ⟨_, rfl, regs.bl_refl _, rfl, hJ.out⟩
  · refine regs.StepOK.plain rfl fun L a w1 hh => ?_
    have h85 : a.tmps[85]?.getD undef = .bool true := by rw [← Array.getD_eq_getD_getElem?]; exact hh.dep 39 85 (by kernel_rfl) (by kernel_rfl)
    have h89 : a.tmps[89]?.getD undef = .bool true := by rw [← Array.getD_eq_getD_getElem?]; exact hh.dep 43 89 (by kernel_rfl) (by kernel_rfl)
    have hJ := Lib.hid hh.st
    clear hh
    go_simp
    exact ⟨_, rfl, regs.bl_refl _, rfl, hJ.out⟩
  · refine regs.StepOK.plain rfl fun L a w1 hh => ?_
    have h90 : a.tmps[90]?.getD undef = .bool true := by rw [← Array.getD_eq_getD_getElem?]; exact hh.dep 44 90 (by kernel_rfl) (by kernel_rfl)
    have hJ := Lib.hid hh.st
    clear hh
    go_simp
    exact ⟨_, rfl, regs.bl_refl _, rfl, hJ.out⟩
  intro L w10 val hL hJ hR hv
  have h0 : val 0 = .bool true := hv 45 0 (by kernel_rfl)
  have HK10 := Lib.hid hJ
  have HR10 := Lib.hid hR
  clear hv hL hJ hR
  simp only [regs.putAll, List.map_cons, List.map_nil]
  rw [h0]
  generalize val 46 = v46
  generalize val 47 = v47
  generalize val 48 = v48
  generalize val 49 = v49
  generalize val 50 = v50
  generalize val 51 = v51
  generalize val 52 = v52
  generalize val 53 = v53
  generalize val 54 = v54
  generalize val 55 = v55
  generalize val 56 = v56
  generalize val 57 = v57
  generalize val 58 = v58
  generalize val 59 = v59
  generalize val 60 = v60
  generalize val 61 = v61
  generalize val 62 = v62
  generalize val 63 = v63
  generalize val 64 = v64
  generalize val 65 = v65
  generalize val 66 = v66
  generalize val 67 = v67
  generalize val 68 = v68
  generalize val 69 = v69
  generalize val 70 = v70
  generalize val 71 = v71
  generalize val 72 = v72
  generalize val 73 = v73
  generalize val 74 = v74
  generalize val 75 = v75
  generalize val 76 = v76
  generalize val 77 = v77
  generalize val 78 = v78
  generalize val 79 = v79
  generalize val 80 = v80
  generalize val 81 = v81
  generalize val 82 = v82
  generalize val 83 = v83
  generalize val 84 = v84
  generalize val 85 = v85
  generalize val 86 = v86
  generalize val 87 = v87
  generalize val 88 = v88
  generalize val 89 = v89
  generalize val 90 = v90
  simp only [Act.put, List.setIfInBounds_toArray, List.set_cons_zero, List.set_cons_succ]
  clear h0
  have HB10 : Hid (Below w.heap.size w w10) := HB9.out.trans (HR10.out.mono HB9.out.size)
  go_wp2_with (fail)
  go_ret
  exact ⟨rfl, HB10.out⟩
end Go.Proofs.YtboelbmpcbeifaaDoor
