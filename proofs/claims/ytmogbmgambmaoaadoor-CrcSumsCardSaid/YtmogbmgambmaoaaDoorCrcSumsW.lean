/-
  The walk of the law CrcSums.
-/
import Derived.Test.YtmogbmgambmaoaaDoorCrcApp
namespace Go.Proofs.YtmogbmgambmaoaaDoor
open Go.RowKit crcm

set_option maxHeartbeats 1000000 in
theorem sums_walk_long (p q r : Part) (w : World) (ht : TabAt w) (hlong : 3000 < p.l.length ∨ 3000 < q.l.length ∨ 3000 < r.l.length) :
    Calls Tryd.prog 3 #[.slice p.a p.l.length p.c, .slice q.a q.l.length q.c, .slice r.a r.l.length r.c] w fun e w' => e = .returned (.bool true) ∧ Below w.heap.size w w' := by
  obtain ⟨pa, pl, pc⟩ := p
  obtain ⟨qa, ql, qc⟩ := q
  obtain ⟨ra, rl, rc⟩ := r
  simp only at hlong ⊢
  have t1 : decide ((3000 : Int) < (pl.length : Int)) = true ∨ (decide ((3000 : Int) < (pl.length : Int)) = false ∧ decide ((3000 : Int) < (ql.length : Int)) = true) ∨
      (decide ((3000 : Int) < (pl.length : Int)) = false ∧ decide ((3000 : Int) < (ql.length : Int)) = false ∧ decide ((3000 : Int) < (rl.length : Int)) = true) := by
    simp; omega
  clear hlong
  rcases t1 with t1 | ⟨t1, t2⟩ | ⟨t1, t2, t3⟩
  all_goals
    go_enter Tryd.func3, Tryd.ntmps3
    go_wp2_with (go_at_call 7; refine (awake_any w ht).mono ?_; rintro e w' ⟨rfl, hb⟩)
    go_ret
    exact ⟨rfl, hb⟩

set_option maxHeartbeats 1000000 in
theorem sums_walk (p q r : Part) (w : World) (hp : p.ok w) (hq : q.ok w) (hr : r.ok w) (ht : TabAt w) (h1 : p.l.length ≤ 3000) (h2 : q.l.length ≤ 3000) (h3 : r.l.length ≤ 3000) :
    Calls Tryd.prog 3 #[.slice p.a p.l.length p.c, .slice q.a q.l.length q.c, .slice r.a r.l.length r.c] w fun e w' => e = .returned (.bool true) ∧ Below w.heap.size w w' := by
  obtain ⟨pa, pl, pc⟩ := p
  obtain ⟨qa, ql, qc⟩ := q
  obtain ⟨ra, rl, rc⟩ := r
  simp only at h1 h2 h3 ⊢
  have t1 : decide ((3000 : Int) < (pl.length : Int)) = false := by simp; omega
  have t2 : decide ((3000 : Int) < (ql.length : Int)) = false := by simp; omega
  have t3 : decide ((3000 : Int) < (rl.length : Int)) = false := by simp; omega
  have c1 := conv_str w pa pl pc hp.at_
  have c2 := conv_str w qa ql qc hq.at_
  have c3 := conv_str w ra rl rc hr.at_
  have hpa : AreBytes pl := hp.bytes
  have hqa : AreBytes ql := hq.bytes
  have hra : AreBytes rl := hr.bytes
  have z1 : (strOf pl).size ≤ 3000 := by rw [strOf_size]; exact h1
  have z2 : (strOf ql).size ≤ 3000 := by rw [strOf_size]; exact h2
  have z3 : (strOf rl).size ≤ 3000 := by rw [strOf_size]; exact h3
  have z12 : (strOf pl ++ strOf ql).size ≤ 6000 := by rw [ByteArray.size_append]; omega
  have hsz : (strOf pl ++ strOf ql ++ strOf rl).size ≤ maxLen := by rw [ByteArray.size_append]; unfold maxLen; omega
  have hnat : Hid (natsOf (strOf pl ++ strOf ql ++ strOf rl) = pl ++ ql ++ rl) := by rw [natsOf_append, natsOf_append, natsOf_strOf hpa, natsOf_strOf hqa, natsOf_strOf hra]; rfl
  go_enter Tryd.func3, Tryd.ntmps3
  go_wp2_with (fail)
  refine (ref_any _ w hsz).mono ?_
  rintro e w' ⟨rfl, rfl⟩
  rw [hnat.out]
  clear c1 c2 c3 z1 z2 z3 z12 hsz hnat
  -- the three appends
  have hB0 : Below w.heap.size w (w.alloc (.cells #[] 5)) := (Below.refl _ _).alloc (Nat.le_refl _) _
  obtain ⟨v1, w1, run1, own1, b1⟩ := app_run _ _ _ _ (own_new w) ⟨pa, pl, pc⟩ (hp.below hB0) (by simp; omega) (by simp)
  have bb1 := hB0.trans b1
  obtain ⟨v2, w2, run2, own2, b2⟩ := app_run _ _ _ _ own1 ⟨qa, ql, qc⟩ (hq.below bb1) (by simp; omega) bb1.size
  have bb2 := bb1.trans b2
  obtain ⟨v3, w3, run3, own3, b3⟩ := app_run _ _ _ _ own2 ⟨ra, rl, rc⟩ (hr.below bb2) (by simp; omega) bb2.size
  have bb3 := bb2.trans b3
  simp only [List.nil_append] at run1 run2 run3 own1 own2 own3
  have hall : AreBytes (pl ++ ql ++ rl) := (hpa.append hqa).append hra
  obtain ⟨xa, xc, rfl, okx⟩ := own_part own3 hall
  have hLL : Hid (bytesOf [⟨pa, pl, pc⟩, ⟨qa, ql, qc⟩, ⟨ra, rl, rc⟩] = pl ++ ql ++ rl) := by simp [bytesOf, Hid]
  have hLQ : Hid (pl ++ (ql ++ rl) = pl ++ ql ++ rl) := (List.append_assoc _ _ _).symm
  generalize pl ++ ql ++ rl = L at *
  clear own1 own2 own3 b1 b2 b3 hB0 bb1 bb2
  go_wp2_with (at_builtin; first | refine wpList_append_run rfl _ _ 22 22 rfl rfl _ _ _ _ rfl rfl run1 ?_ | refine wpList_append_run rfl _ _ 22 22 rfl rfl _ _ _ _ rfl rfl run2 ?_ | refine wpList_append_run rfl _ _ 22 22 rfl rfl _ _ _ _ rfl rfl run3 ?_)
  clear run1 run2 run3
  have hp3 := hp.below bb3
  have hq3 := hq.below bb3
  have hr3 := hr.below bb3
  have ht3 := ht.below bb3
  clear hp hq hr ht
  refine (sum_built w3 [⟨pa, pl, pc⟩, ⟨qa, ql, qc⟩, ⟨ra, rl, rc⟩] _ rfl 3 3 rfl (by simp [maxLen]) (fun x hx => by
    simp at hx
    rcases hx with rfl | rfl | rfl
    · exact hp3
    · exact hq3
    · exact hr3) ht3 (0, 0)).mono ?_
  rintro e w4 ⟨rfl, hb4⟩
  rw [hLL.out]
  have bb4 := bb3.trans (hb4.mono bb3.size)
  have hp4 := hp3.below hb4
  have hq4 := hq3.below hb4
  have hr4 := hr3.below hb4
  have okx4 := okx.below hb4
  have ht4 := ht3.below hb4
  clear hp3 hq3 hr3 okx ht3 hb4 bb3 hLL
  go_wp2_with (fail)
  refine (sum_built w4 [⟨xa, L, xc⟩] _ rfl 1 1 rfl (by simp [maxLen]) (fun x hx => by
    simp at hx
    subst hx
    exact okx4) ht4 (0, 0)).mono ?_
  rintro e w5 ⟨rfl, hb5⟩
  have hLX : bytesOf [⟨xa, L, xc⟩] = L := by simp [bytesOf]
  rw [hLX]
  have bb5 := bb4.trans (hb5.mono bb4.size)
  have hp5 := hp4.below hb5
  have hq5 := hq4.below hb5
  have hr5 := hr4.below hb5
  have ht5 := ht4.below hb5
  clear hp4 hq4 hr4 okx4 ht4 hb5 bb4 hLX
  -- two appends
  have hB5 : Below w5.heap.size w5 (w5.alloc (.cells #[] 5)) := (Below.refl _ _).alloc (Nat.le_refl _) _
  obtain ⟨v6, w6, run6, own6, b6⟩ := app_run _ _ _ _ (own_new w5) ⟨qa, ql, qc⟩ (hq5.below hB5) (by simp; omega) (by simp)
  have bb6 := hB5.trans b6
  obtain ⟨v7, w7, run7, own7, b7⟩ := app_run _ _ _ _ own6 ⟨ra, rl, rc⟩ (hr5.below bb6) (by simp; omega) bb6.size
  have bb7 := bb6.trans b7
  simp only [List.nil_append] at run6 run7 own6 own7
  obtain ⟨ya, yc, rfl, oky⟩ := own_part own7 (hqa.append hra)
  have hLY : Hid (bytesOf [⟨none, [], 0⟩, ⟨pa, pl, pc⟩, ⟨ya, ql ++ rl, yc⟩] = L) := by
    rw [← hLQ.out]
    simp [bytesOf, Hid]
  generalize ql ++ rl = M at *
  clear own6 own7 b6 b7 hB5 bb6 hLQ
  go_wp2_with (at_builtin; first | refine wpList_append_run rfl _ _ 22 22 rfl rfl _ _ _ _ rfl rfl run6 ?_ | refine wpList_append_run rfl _ _ 22 22 rfl rfl _ _ _ _ rfl rfl run7 ?_)
  clear run6 run7
  have hp7 := hp5.below bb7
  have ht7 := ht5.below bb7
  have bbb := bb5.trans (bb7.mono bb5.size)
  refine (sum_built w7 [⟨none, [], 0⟩, ⟨pa, pl, pc⟩, ⟨ya, M, yc⟩] _ rfl 3 3 rfl (by simp [maxLen]) (fun x hx => by
    simp at hx
    rcases hx with rfl | rfl | rfl
    · exact ⟨Nat.le_refl _, by simp [maxLen], fun h => absurd h (by simp), fun z hz => by simp at hz⟩
    · exact hp7
    · exact oky) ht7 (0, 0)).mono ?_
  rintro e w8 ⟨rfl, hb8⟩
  rw [hLY.out]
  have bb8 := bbb.trans (hb8.mono bbb.size)
  have ht8 := ht7.below hb8
  clear hp5 hq5 hr5 ht5 hp7 ht7 bbb hb8 bb7 bb5 oky hLY
  go_wp2_with (fail)
  refine (awake_any w8 ht8).mono ?_
  rintro e w9 ⟨rfl, hb9⟩
  have bb9 := bb8.trans (hb9.mono bb8.size)
  go_wp2
  go_ret
  exact ⟨rfl, bb9⟩

theorem crcSums.walk (p q r : Part) (w : World) (hp : p.ok w) (hq : q.ok w) (hr : r.ok w) (ht : TabAt w) :
    Calls Tryd.prog 3 #[.slice p.a p.l.length p.c, .slice q.a q.l.length q.c, .slice r.a r.l.length r.c] w fun e w' => e = .returned (.bool true) ∧ Below w.heap.size w w' := by
  by_cases h : p.l.length ≤ 3000 ∧ q.l.length ≤ 3000 ∧ r.l.length ≤ 3000
  · exact sums_walk p q r w hp hq hr ht h.1 h.2.1 h.2.2
  · exact sums_walk_long p q r w ht (by omega)
end Go.Proofs.YtmogbmgambmaoaaDoor
