/-
  The walk of the law RecNext.
-/
import Derived.Test.YtoipokjoklhfjaaDoorRcJ
namespace Go.Proofs.YtoipokjoklhfjaaDoor
open Go.RowKit numb

theorem rightR_of {x : Rc} (h1 : 0 ≤ x.k) (h2 : x.k < 256) (h3 : x.p.l.length ≤ 1048576) : rightR x = 0 := by
  unfold rightR rightI
  rw [if_neg (by omega), if_neg (by omega)]
theorem firstE_one {x : Rc} (h : rightR x = 0) : firstE [x] = 0 := if_pos h
set_option maxHeartbeats 1000000 in
theorem rnext_long (q : Part) (w : World) (h : 5000 < q.l.length) (ht : TabAt w) :
    Calls Tryd.prog 4 #[.slice q.a q.l.length q.c] w fun e w' => e = .returned (.bool true) ∧ Below w.heap.size w w' := by
  obtain ⟨a, l, c⟩ := q
  simp only at h ⊢
  have t : decide ((5000 : Int) < (l.length : Int)) = true := by simp; omega
  clear h
  go_enter Tryd.func4, Tryd.ntmps4
  go_wp2_with (fail)
  refine (awake_any w ht).mono ?_
  rintro e w' ⟨rfl, hb⟩
  have B := Lib.hid hb
  clear hb ht
  go_wp2_with (fail)
  go_ret
  exact ⟨rfl, B.out⟩
set_option maxRecDepth 100000 in
set_option maxHeartbeats 4000000 in
theorem rnext_on (q : Part) (w : World) (hq : q.ok w) (h : q.l.length ≤ 5000) (ht : TabAt w) :
    Calls Tryd.prog 4 #[.slice q.a q.l.length q.c] w fun e w' => e = .returned (.bool true) ∧ Below w.heap.size w w' := by
  obtain ⟨A, b, c⟩ := q
  simp only at h ⊢
  have t : decide ((5000 : Int) < (b.length : Int)) = false := by simp; omega
  have HT := Lib.hid ht
  have HQ := Lib.hid hq
  have hb := hq.bytes
  simp only at hb
  have HN := Lib.hid (next_any ⟨A, b, c⟩ w hq ht (by simp only; omega))
  have HDN : Hid (∀ W, Calls Tryd.prog 18 #[.string (strOf b)] W (DNextQ b W)) := fun W => by
    have := dnext_any (strOf b) W (by rw [strOf_size]; omega)
    rwa [natsOf_strOf hb] at this
  have hok := fun he => next_ok hb (b := b) he
  obtain ⟨X, hX⟩ : ∃ X, nextS b = X := ⟨_, rfl⟩
  unfold NextQ at HN
  unfold DNextQ at HDN
  rw [hX] at HN HDN hok
  obtain ⟨e, k, d, n⟩ := X
  simp only at HN HDN hok
  have HDA : Hid (AreBytes d) := by
    rcases next_bad hb with h0 | h0
    · rw [hX] at h0
      obtain ⟨_, _, _, _, _, h5, _⟩ := hok h0
      exact h5
    · rw [hX] at h0
      have := h0.2
      injection this with _ _ h3 _
      rw [h3]
      exact AreBytes.nil
  have HOK := Lib.hid hok
  have hlen : Hid (b.length ≤ 5000) := h
  clear hX hok hb hq ht h
  go_enter Tryd.func4, Tryd.ntmps4
  go_wp2_with (fail)
  refine HN.out.mono ?_
  rintro r w1 ⟨v, rfl, own, hb1⟩
  obtain ⟨a1, c1, rfl, p1, -, -⟩ := own.part HDA.out
  have hall1 : Below w1.heap.size w1 (w1.alloc (.cells #[.int .i64 (k : Nat), .slice a1 d.length c1] 27)) := (Below.refl _ _).alloc (Nat.le_refl _) _
  have B1 : Hid (Below w.heap.size w (w1.alloc (.cells #[.int .i64 (k : Nat), .slice a1 d.length c1] 27))) := hb1.alloc hb1.size _
  have P1 : Hid ((⟨a1, d, c1⟩ : Part).ok (w1.alloc (.cells #[.int .i64 (k : Nat), .slice a1 d.length c1] 27))) := p1.alloc _
  have K1 : Hid (Blk2 (w1.alloc (.cells #[.int .i64 (k : Nat), .slice a1 d.length c1] 27)) w1.heap.size [.int .i64 (k : Nat), .slice a1 d.length c1]) := blk2_new w1 _ _
  have hcv := conv_str (w1.alloc (.cells #[.int .i64 (k : Nat), .slice a1 d.length c1] 27)) A b c (HQ.out.below B1.out).at_
  clear own hb1 p1 HN hall1
  go_wp2_with (fail)
  obtain ⟨x1, hx1⟩ : ∃ x, x = w1.heap.size := ⟨_, rfl⟩
  rw [← hx1] at K1 ⊢
  generalize w1.alloc (.cells #[.int .i64 (k : Nat), .slice a1 d.length c1] 27) = w2 at *
  clear hcv hx1
  refine (HDN.out w2).mono ?_
  rintro r w3 ⟨rfl, hb3⟩
  have hl2 : x1 < w2.heap.size := World.block_lt_of_cell? w2 _ (K1.out.cell2 0)
  have B3 : Hid (Below w.heap.size w (w3.alloc (.cells #[.int .i64 (k : Nat), .string (strOf d)] 30))) := (B1.out.trans (hb3.mono B1.out.size)).alloc (Nat.le_trans B1.out.size hb3.size) _
  have P3 : Hid ((⟨a1, d, c1⟩ : Part).ok (w3.alloc (.cells #[.int .i64 (k : Nat), .string (strOf d)] 30))) := (P1.out.below hb3).alloc _
  have K3 : Hid (Blk2 (w3.alloc (.cells #[.int .i64 (k : Nat), .string (strOf d)] 30)) x1 [.int .i64 (k : Nat), .slice a1 d.length c1]) := (K1.out.trans' (hb3.block _ hl2)).trans' (Below.heap_alloc _ _ _ (by have := hb3.size; omega))
  have D3 : Hid (Blk2 (w3.alloc (.cells #[.int .i64 (k : Nat), .string (strOf d)] 30)) w3.heap.size [.int .i64 (k : Nat), .string (strOf d)]) := blk2_new w3 _ _
  have t1 : ((e : Int) != (e : Int)) = false := by simp
  have t2 : ((n : Int) != (n : Int)) = false := by simp
  clear hb3 hl2 HDN B1 P1 K1
  go_wp2_with (fail)
  obtain ⟨x3, hx3⟩ : ∃ x, x = w3.heap.size := ⟨_, rfl⟩
  rw [← hx3] at D3 ⊢
  generalize w3.alloc (.cells #[.int .i64 (k : Nat), .string (strOf d)] 30) = w4 at *
  clear hx3
  have HRF : Hid (∀ W, Below w4.heap.size w4 W → Calls Tryd.prog 11 #[.agg #[.int .i64 (k : Nat), .slice a1 d.length c1]] W fun e w' => e = .returned (.agg #[.int .i64 (k : Nat), .string (strOf d)]) ∧ Below W.heap.size W w') := fun W hW => ref_rec_any ⟨(k : Nat), a1, d, c1⟩ W (P3.out.below hW)
  have HKB : Hid (∀ W, Below w4.heap.size w4 W → Blk2 W x1 [.int .i64 (k : Nat), .slice a1 d.length c1] ∧ Blk2 W x3 [.int .i64 (k : Nat), .string (strOf d)]) := fun W hW =>
    ⟨K3.out.trans' (hW.block _ (World.block_lt_of_cell? w4 _ (K3.out.cell2 0))), D3.out.trans' (hW.block _ (World.block_lt_of_cell? w4 _ (D3.out.cell2 0)))⟩
  have a0 : w4.cell? ⟨x1, 0, none⟩ = some (.int .i64 (k : Nat)) := K3.out.cell2 0
  have a1' : w4.cell? ⟨x1, 1, none⟩ = some (.slice a1 d.length c1) := K3.out.cell2 1
  have b0 : w4.cell? ⟨x3, 0, none⟩ = some (.int .i64 (k : Nat)) := D3.out.cell2 0
  have b1 : w4.cell? ⟨x3, 1, none⟩ = some (.string (strOf d)) := D3.out.cell2 1
  have hdr : Below w4.heap.size w4 w4.drew := (Below.refl _ _).drew
  go_region_held3 (fun w' => w'.cell? ⟨x1, 0, none⟩ = some (.int .i64 (k : Nat)) ∧ w'.cell? ⟨x1, 1, none⟩ = some (.slice a1 d.length c1) ∧ w'.cell? ⟨x3, 0, none⟩ = some (.int .i64 (k : Nat)) ∧ w'.cell? ⟨x3, 1, none⟩ = some (.string (strOf d)))
    (first | exact ⟨a0, a1', b0, b1⟩ | exact ⟨kk.1.cell2 0, kk.1.cell2 1, kk.2.cell2 0, kk.2.cell2 1⟩ | go_keep)
    ((first | (go_at_call 11; refine (HRF.out _ hdr).mono ?_; rintro r w5 ⟨rfl, hb5⟩; have hb45 : Below w4.heap.size w4 w5 := hdr.trans hb5; have kk := HKB.out _ hb45)))
  have B5 : Hid (Below w.heap.size w w5) := B3.out.trans (hb45.mono B3.out.size)
  have P5 : Hid ((⟨a1, d, c1⟩ : Part).ok w5) := P3.out.below hb45
  have K5 := Lib.hid kk.1
  clear hb5 hb45 kk B3 P3 HRF HKB a0 a1' b0 b1 hdr K3 D3 t1 t2
  by_cases he : e = 0
  · subst he
    obtain ⟨y, h1, h2, h3, h4, h5, h6, h7, h8, h9⟩ := HOK.out rfl
    have hfe : firstE [⟨(k : Nat), a1, d, c1⟩] = 0 := firstE_one (rightR_of (by simp only; omega) (by simp only; omega) (by simp only; omega))
    have hbe : bytesL [⟨(k : Nat), a1, d, c1⟩] = recB k d := by simp [bytesL]
    have hdl : d.length ≤ 5000 := by have := hlen.out; omega
    have B6 : Hid (Below w.heap.size w (w5.alloc (.cells #[.int .i64 (k : Nat), .slice a1 d.length c1] 27))) := B5.out.alloc B5.out.size _
    have HB := Lib.hid (bytes_any (some ⟨w5.heap.size, 0, none⟩) [⟨(k : Nat), a1, d, c1⟩] 1 _ (one_row w5 ⟨(k : Nat), a1, d, c1⟩ 27 rfl) (fun x hx => by
      obtain rfl := List.mem_singleton.1 hx
      exact ⟨P5.out.alloc _, hdl⟩) (by simp) (tab_below HT.out B6.out))
    have x0 : w5.cell? ⟨x1, 0, none⟩ = some (.int .i64 (k : Nat)) := K5.out.cell2 0
    have x2 : w5.cell? ⟨x1, 1, none⟩ = some (.slice a1 d.length c1) := K5.out.cell2 1
    have hxl : x1 < w5.heap.size := World.block_lt_of_cell? w5 _ x0
    have t0 : ((0 : Int) != 0) = false := by decide
    have HBE := Lib.hid hbe
    have HFE := Lib.hid hfe
    have H9 := Lib.hid h9
    have HRA : Hid (AreBytes (recB k d)) := recB_are h4 h5
    have hnb : (n : Int) ≤ (b.length : Int) := by omega
    have hbc : b.length ≤ c := HQ.out.room
    have hnc : (n : Int) ≤ (c : Int) := by omega
    have hcm : (c : Int) ≤ 9223372036854775807 := by have := HQ.out.max; unfold maxLen at this; simp only at this; omega
    have hn0 : 0 < n := by rw [h7]; have := (recB_le (k := k) (l := d) (by omega)).2; omega
    have H7 := Lib.hid h7
    obtain ⟨gb, ob, hA, -⟩ := HQ.out.at_ (by simp only; omega)
    simp only at hA
    subst hA
    clear h1 h2 h3 h4 h5 h6 h7 h8 h9 hfe hbe hdl HOK
    go_wp2_with (fail)
    refine HB.out.mono ?_
    rintro r w6 ⟨v6, rfl, h6, -, hb6⟩
    have own6 := h6 HFE.out
    rw [HBE.out] at own6
    rw [HFE.out]
    obtain ⟨a6, c6, rfl, p6, -, -⟩ := own6.part HRA.out
    have B7 : Hid (Below w.heap.size w w6) := B6.out.trans (hb6.mono B6.out.size)
    have hc6 := conv_str w6 a6 (recB k d) c6 p6.at_
    have hc7 := conv_str w6 (some ⟨gb, ob, none⟩) (b.take n) c ((HQ.out.below B7.out).at_.take n)
    have hln : (b.take n).length = n := by rw [List.length_take]; omega
    rw [hln, H9.out] at hc7
    have hte : ((strOf (recB k d)).toList == (strOf (recB k d)).toList) = true := by simp
    have hdr : Hid (Below w.heap.size w w6.drew) := B7.out.drew
    have K6 : Hid (Blk2 w6 x1 [.int .i64 (k : Nat), .slice a1 d.length c1]) := (K5.out.trans' (Below.heap_alloc _ _ _ hxl)).trans' (hb6.block _ (by simp; omega))
    have y0 : w6.cell? ⟨x1, 0, none⟩ = some (.int .i64 (k : Nat)) := K6.out.cell2 0
    have hxl6 : x1 < w6.heap.size := World.block_lt_of_cell? w6 _ y0
    clear own6 h6 hb6 x0 x2 hxl HB
    go_wp2_with (fail)
    have HCV : Hid (∀ W, Below w6.heap.size w6 W → (convert 25 9 (.slice a6 (recB k d).length c6)).run Tryd.prog W = .ok (.string (strOf (recB k d))) W ∧ (convert 25 9 (.slice (some ⟨gb, ob, none⟩) n c)).run Tryd.prog W = .ok (.string (strOf (recB k d))) W) := fun W hW => by
      have h1 := conv_str W a6 (recB k d) c6 (p6.at_.below hW)
      have h2 := conv_str W (some ⟨gb, ob, none⟩) (b.take n) c ((HQ.out.below (B7.out.trans (hW.mono B7.out.size))).at_.take n)
      rw [hln, H9.out] at h2
      exact ⟨h1, h2⟩
    have hw6 : Below w6.heap.size w6 w6.drew := (Below.refl _ _).drew
    clear hc6 hc7 y0
    go_region_held3 (fun w' => (convert 25 9 (.slice a6 (recB k d).length c6)).run Tryd.prog w' = .ok (.string (strOf (recB k d))) w' ∧ (convert 25 9 (.slice (some ⟨gb, ob, none⟩) n c)).run Tryd.prog w' = .ok (.string (strOf (recB k d))) w')
      (first | exact HCV.out _ hw6 | exact HCV.out _ (Below.refl _ _) | exact HCV.out _ (hw6.trans hb8) | go_keep)
      ((first | (go_at_call 9; refine (awake_any _ (tab_below HT.out hdr.out)).mono ?_; rintro r w8 ⟨rfl, hb8⟩)))
    all_goals
      have B8 : Hid (Below w.heap.size w w8) := hdr.out.trans (hb8.mono hdr.out.size)
      clear hb8
      go_wp2_with (fail)
      go_ret
      exact ⟨rfl, B8.out⟩
  · have t0 : ((e : Int) != 0) = true := by simp; omega
    go_wp2_with (fail)
    refine (awake_any w5 (tab_below HT.out B5.out)).mono ?_
    rintro r w6 ⟨rfl, hb6⟩
    have B6 : Hid (Below w.heap.size w w6) := B5.out.trans (hb6.mono B5.out.size)
    clear hb6
    go_wp2_with (fail)
    go_ret
    exact ⟨rfl, B6.out⟩
theorem rnext_walk (q : Part) (w : World) (hq : q.ok w) (ht : TabAt w) :
    Calls Tryd.prog 4 #[.slice q.a q.l.length q.c] w fun e w' => e = .returned (.bool true) ∧ Below w.heap.size w w' := by
  by_cases h : q.l.length ≤ 5000
  · exact rnext_on q w hq h ht
  · exact rnext_long q w (by omega) ht
end Go.Proofs.YtoipokjoklhfjaaDoor
