/-
  The document's own: the record with which a text begins.
-/
import Derived.Test.YtoipokjoklhfjaaDoorRcI
namespace Go.Proofs.YtoipokjoklhfjaaDoor
open Go.RowKit numb

def DNextQ (b : List Nat) (w : World) (e : Ending) (w' : World) : Prop :=
  e = .returned (.tuple #[.agg #[.int .i64 ((nextS b).k : Nat), .string (strOf (nextS b).d)], .int .i64 ((nextS b).n : Nat), .int .i64 ((nextS b).e : Nat)]) ∧ Below w.heap.size w w'
theorem dnextq {b : List Nat} {e k n : Nat} {d : List Nat} {t : ByteArray} {w W : World} (h : nextS b = ⟨e, k, d, n⟩) (ht : t = strOf d) (hB : Below w.heap.size w W) : DNextQ b w (.returned (.tuple #[.agg #[.int .i64 (k : Nat), .string t], .int .i64 (n : Nat), .int .i64 (e : Nat)])) W := by
  unfold DNextQ
  rw [h, ht]
  exact ⟨rfl, hB⟩
theorem dnext_ret {tmps : Array Value} {W : World} {Q : Ending → World → Prop} {g : Nat} {k v n e : Value} (hp : tmps.getD 2 undef = .pointer (some ⟨g, 0, none⟩)) (hq : tmps.getD 3 undef = n) (hr : tmps.getD 4 undef = e) (hB : Blk2 W g [k, v])
    (h : Q (.returned (.tuple #[.agg #[k, v], n, e])) W) : bodyPost Tryd.prog Tryd.f18 Q Exit.ret { tmps := tmps, defers := [] } W := by
  obtain ⟨T, hg⟩ := hB
  refine bodyPost_ret_by ?_ rfl h
  have hp' : tmps[2]?.getD undef = .pointer (some ⟨g, 0, none⟩) := by simpa using hp
  have hq' : tmps[3]?.getD undef = n := by simpa using hq
  have hr' : tmps[4]?.getD undef = e := by simpa using hr
  simp [results, hp', hq', hr', asAddr, run_loadVar_row W g T 30 _ _ _ hg Tryd.underlying30 rfl (by kernel_rfl)]
set_option maxRecDepth 100000 in
set_option maxHeartbeats 4000000 in
theorem dnext_any (s : ByteArray) (w : World) (hsz : s.size ≤ 1000000) :
    Calls Tryd.prog 18 #[.string s] w (DNextQ (natsOf s) w) := by
  have HB0 : Hid (Below w.heap.size w (w.alloc (.cells #[.int .i64 0, .string ⟨#[]⟩] 30))) := (Below.refl _ _).alloc (Nat.le_refl _) _
  have HBK0 : Hid (Blk2 (w.alloc (.cells #[.int .i64 0, .string ⟨#[]⟩] 30)) w.heap.size [.int .i64 0, .string ⟨#[]⟩]) := blk2_new w _ _
  have HD := Lib.hid (rin_below_any s 0 1048576 (w.alloc (.cells #[.int .i64 0, .string ⟨#[]⟩] 30)) (by omega) (by unfold I64; omega))
  have hb := natsOf_are s
  have hbl : (natsOf s).length = s.size := natsOf_length s
  obtain ⟨z1, -⟩ := below_zero hb
  have HE := Lib.hid (fun h => next_err (b := natsOf s) h)
  have HZ1 := Lib.hid z1
  have HBL := Lib.hid hbl
  unfold rbelow rin at HD
  obtain ⟨p, hp⟩ : ∃ p, St.below ⟨natsOf s, 0⟩ 1048576 = p := ⟨_, rfl⟩
  rw [hp] at HD HE HZ1
  obtain ⟨⟨rl, re⟩, n⟩ := p
  simp only at HD HE HZ1
  clear hp z1 hb hbl
  go_enter Tryd.func18, Tryd.ntmps18
  go_wp2_with (fail)
  refine HD.out.mono ?_
  rintro e w1 ⟨rfl, hb1⟩
  have B1 : Hid (Below w.heap.size w (w1.alloc (.cells #[.string (strOf rl), .int .i64 (re : Nat)] 64))) := (HB0.out.trans (hb1.mono (by simp))).alloc (Nat.le_trans HB0.out.size hb1.size) _
  have BK1 : Hid (Blk2 (w1.alloc (.cells #[.string (strOf rl), .int .i64 (re : Nat)] 64)) w.heap.size [.int .i64 0, .string ⟨#[]⟩]) := (HBK0.out.trans' (hb1.block _ (by simp))).trans' (Below.heap_alloc _ _ _ (by have := hb1.size; simp at this; omega))
  have BI1 : Hid (Blk2 (w1.alloc (.cells #[.string (strOf rl), .int .i64 (re : Nat)] 64)) w1.heap.size [.string (strOf rl), .int .i64 (re : Nat)]) := blk2_new w1 _ _
  have BP : Hid (Below w.heap.size w w1) := HB0.out.trans (hb1.mono (by simp))
  have BKP : Hid (Blk2 w1 w.heap.size [.int .i64 0, .string ⟨#[]⟩]) := HBK0.out.trans' (hb1.block _ (by simp))
  have hlt1 : w.heap.size < w1.heap.size := by have := hb1.size; simp at this; omega
  clear hb1 HD HB0 HBK0
  by_cases he : re = 0
  · subst he
    have hcast : ((0 : Nat) : Int) = 0 := rfl
    rw [hcast] at B1 BK1 BI1 ⊢
    clear hcast
    obtain ⟨r, hr, hrl, hn⟩ := HZ1.out rfl
    have hrl : rl = r := by injection hrl
    subst hrl
    have hH : Head (natsOf s) n rl := ⟨hr, hn⟩
    have hbl : s.size = (uint n).length + rl.length := by rw [← HBL.out, hr, List.length_append]
    have hu1 := uint_pos n
    have hu2 := uint_length_le (v := n) (k := 10) (by omega) (by omega)
    have HSH := Lib.hid (fun hs => next_short hH hs)
    have HRE := Lib.hid (fun hs => next_rest hH hs)
    have hrs : (strOf rl).size = rl.length := strOf_size rl
    obtain ⟨h, hh⟩ : ∃ h, h = (uint n).length := ⟨_, rfl⟩
    rw [← hh] at hbl hu1 hu2 HRE
    obtain ⟨z, hz⟩ : ∃ z, z = h + n + 1 := ⟨_, rfl⟩
    obtain ⟨Z, hZ⟩ : ∃ Z, Z = h + n + 5 := ⟨_, rfl⟩
    rw [← hZ, ← hz] at HRE
    have t : ((0 : Int) != 0) = false := by decide
    have HRA : Hid (AreBytes rl) := by
      have := (natsOf_are s).drop (uint n).length
      rw [hr, List.drop_left] at this
      exact this
    have HR := Lib.hid hr
    have k0 : w1.cell? ⟨w.heap.size, 0, none⟩ = some (.int .i64 0) := BKP.out.cell2 0
    have k1 : w1.cell? ⟨w.heap.size, 1, none⟩ = some (.string ⟨#[]⟩) := BKP.out.cell2 1
    have v0 : w1.frozen? ⟨w.heap.size, 0, none⟩ = false := BKP.out.free2 0
    have v1 : w1.frozen? ⟨w.heap.size, 1, none⟩ = false := BKP.out.free2 1
    by_cases hsh : rl.length < n + 5
    · have HF := Lib.hid (HSH.out hsh)
      have t2 : (rl.length : Int) < (n : Int) + 5 := by omega
      clear HE HZ1 HBL hr hH hh hz hZ hbl hsh HSH HRE
      go_wp2_with (fail)
      have hzz : ((w1.setCell ⟨w.heap.size, 0, none⟩ (.int .i64 0)).setCell ⟨w.heap.size, 1, none⟩ (.string ⟨#[]⟩)).heap.size = w1.heap.size := by simp [World.setCell]
      exact dnext_ret rfl rfl rfl (((BKP.out.set2 0 (.int .i64 0)).set2 1 (.string ⟨#[]⟩)).trans' (Below.heap_alloc _ _ _ (by omega))) (dnextq HF.out rfl (((BP.out.setCell (p := ⟨w.heap.size, 0, none⟩) (Nat.le_refl _) _).setCell (p := ⟨w.heap.size, 1, none⟩) (Nat.le_refl _) _).alloc (by rw [hzz]; omega) _))
    · have HF := Lib.hid (HRE.out hsh)
      have HSZ : Hid (Z ≤ s.size) := by show _ ≤ _; omega
      have HL5 : Hid (n + 5 ≤ rl.length) := by show _ ≤ _; omega
      have t2 : ¬ (rl.length : Int) < (n : Int) + 5 := by omega
      have e1 : (s.size : Int) - (rl.length : Int) = (h : Int) := by omega
      have HZz := Lib.hid (And.intro hz hZ)
      have HH := Lib.hid hh
      have hni : (n : Int) ≤ 1048576 := by omega
      have hhi : (h : Int) ≤ 10 := by omega
      clear HE HZ1 HBL hr hH hh hz hZ hbl hsh HSH HRE
      go_wp2_with (fail)
      rw [show ((h : Int) + (n : Int) + 5) = (Z : Int) from by have := HZz.out; omega]
      obtain ⟨g, hg⟩ : ∃ g, g = w1.heap.size := ⟨_, rfl⟩
      rw [← hg] at BI1 hlt1 ⊢
      generalize w1.alloc (.cells #[.string (strOf rl), .int .i64 0] 64) = w2 at *
      have hzs := HSZ.out
      have zZ : (z : Int) ≤ (Z : Int) := by have := HZz.out; omega
      have zs : (z : Int) ≤ (s.size : Int) := by have := HZz.out; omega
      have Zs : (Z : Int) ≤ (s.size : Int) := by have := HZz.out; omega
      have G1 : Hid (wrap64 ((Z : Int) - 4) = (z : Int) ∧ IntKind.i64.wrap ((Z : Int) - 4) = (z : Int)) := by
        have := HZz.out
        show _ ∧ _
        rw [show ((Z : Int) - 4) = (z : Int) by omega]
        exact ⟨IntWalk.wrap64_in _ (by omega), IntWalk.i64_in _ (by omega)⟩
      have q1 := G1.out.1
      have q2 := G1.out.2
      have j0 : w2.cell? ⟨g, 0, none⟩ = some (.string (strOf rl)) := BI1.out.cell2 0
      clear k0 k1 v0 v1 e1 hg hzs
      have HSU : Hid (∀ W, Calls Tryd.prog 21 #[.string (s.extract 0 z)] W fun e w' => e = .returned (.string (strOf (sumB ((natsOf s).take z)))) ∧ Below W.heap.size W w') := fun W => by
        have := dsum_any (s.extract 0 z) W (by rw [strOf_take, strOf_size, List.length_take]; unfold maxLen; have := natsOf_length s; omega)
        rw [strOf_take, natsOf_strOf ((natsOf_are s).take z), ← strOf_take] at this
        exact this
      have hex : s.extract z Z = strOf (((natsOf s).drop z).take 4) := natsOf_inj (by
        rw [natsOf_extract, natsOf_strOf (((natsOf_are s).drop z).take 4), List.drop_take]
        have := HZz.out
        rw [show Z - z = 4 by omega])
      have HEX := Lib.hid hex
      have hxe : ((s.extract z Z).toList == (strOf (sumB ((natsOf s).take z))).toList) = decide (((natsOf s).drop z).take 4 = sumB ((natsOf s).take z)) := by
        rw [hex]
        exact str_eqN (((natsOf_are s).drop z).take 4) (sumB_are _)
      have hlw2 : g < w2.heap.size := World.block_lt_of_cell? w2 _ j0
      have BI2 := Lib.hid BI1.out
      by_cases hsum : ((natsOf s).drop z).take 4 = sumB ((natsOf s).take z)
      · rw [if_pos hsum] at HF
        rw [decide_eq_true hsum] at hxe
        have hxn : ((s.extract z Z).toList != (strOf (sumB ((natsOf s).take z))).toList) = false := by simpa using hxe
        clear hex hsum HEX
        generalize strOf (sumB ((natsOf s).take z)) = SB at *
        go_region_held3 (fun w' => w'.cell? ⟨g, 0, none⟩ = some (.string (strOf rl))) (first | exact bk3.cell2 0 | go_keep) ((first | (go_at_call 21; refine (HSU.out _).mono ?_; rintro e w3 ⟨rfl, hb3⟩; have bk3 : Blk2 w3 g [.string (strOf rl), .int .i64 0] := BI1.out.trans' (hb3.block _ hlw2))))
        have HB3 : Hid (Below w.heap.size w w3) := B1.out.drew.trans (hb3.mono B1.out.size)
        have HK3 : Hid (Blk2 w3 w.heap.size [.int .i64 0, .string ⟨#[]⟩]) := BK1.out.trans' (hb3.block _ (by show _ < w2.heap.size; omega))
        have HI3 := Lib.hid bk3
        clear hb3 bk3 hxe hxn
        go_wp2_with (fail)
        have i0 : w3.cell? ⟨g, 0, none⟩ = some (.string (strOf rl)) := HI3.out.cell2 0
        have c0 : w3.cell? ⟨w.heap.size, 0, none⟩ = some (.int .i64 0) := HK3.out.cell2 0
        have c1 : w3.cell? ⟨w.heap.size, 1, none⟩ = some (.string ⟨#[]⟩) := HK3.out.cell2 1
        have f0 : w3.frozen? ⟨w.heap.size, 0, none⟩ = false := HK3.out.free2 0
        have f1 : w3.frozen? ⟨w.heap.size, 1, none⟩ = false := HK3.out.free2 1
        have hl2 : w.heap.size < w3.heap.size := World.block_lt_of_cell? w3 _ c0
        have hl3 : g < w3.heap.size := World.block_lt_of_cell? w3 _ i0
        have hne : ¬ g = w.heap.size := by omega
        have hl5 := HL5.out
        have hr0 : 0 < rl.length := by omega
        obtain ⟨m, hm⟩ : ∃ m, m = n + 1 := ⟨_, rfl⟩
        have hr1 : (m : Int) ≤ (rl.length : Int) := by omega
        have hr2 : (1 : Int) ≤ (m : Int) := by omega
        have G3 : Hid (wrap64 ((n : Int) + 1) = (m : Int) ∧ IntKind.i64.wrap ((n : Int) + 1) = (m : Int)) := by
          show _ ∧ _
          rw [show ((n : Int) + 1) = (m : Int) by omega]
          exact ⟨IntWalk.wrap64_in _ (by omega), IntWalk.i64_in _ (by omega)⟩
        have HM := Lib.hid hm
        have q3 := G3.out.1
        have q4 := G3.out.2
        clear hm
        have HK : Hid (∀ (W : World) (a b : Value), Blk2 W g [.string (strOf rl), .int .i64 0] → Blk2 ((W.setCell ⟨w.heap.size, 0, none⟩ a).setCell ⟨w.heap.size, 1, none⟩ b) g [.string (strOf rl), .int .i64 0]) := fun W a b h => h.trans' (by rw [heap_setCell_other _ _ _ _ hne, heap_setCell_other _ _ _ _ hne])
        clear hl5
        go_region_held3 (fun w' => w'.cell? ⟨g, 0, none⟩ = some (.string (strOf rl))) (first | exact (HK.out _ _ _ HI3.out).cell2 0 | go_keep) ((first | fail))
        clear q1 q2 q3 q4
        go_wp2_with (fail)
        have hz0 : 0 < (strOf rl).size := by rw [strOf_size]; exact hr0
        have e0 : (strOf rl)[0].toNat = rl.getD 0 0 := by
          rw [strOf_at HRA.out hz0, List.getD_eq_getElem?_getD, List.getElem?_eq_getElem hr0]
          rfl
        have ew : IntKind.i64.wrap (((strOf rl)[0].toNat : Nat) : Int) = ((rl.getD 0 0 : Nat) : Int) := by
          rw [e0]
          refine IntWalk.i64_in _ ?_
          have : rl.getD 0 0 < 256 := by
            rw [List.getD_eq_getElem?_getD, List.getElem?_eq_getElem hr0]
            exact HRA.out.at_ hr0
          omega
        have et : (strOf rl).extract 1 m = strOf ((rl.drop 1).take n) := natsOf_inj (by
          rw [natsOf_extract, natsOf_strOf HRA.out, natsOf_strOf ((HRA.out.drop 1).take n), List.drop_take]
          have := HM.out
          rw [show m - 1 = n by omega])
        rw [ew]
        have BKF : Blk2 (((w3.setCell ⟨w.heap.size, 0, none⟩ (.int .i64 ((rl.getD 0 0 : Nat) : Int))).setCell ⟨w.heap.size, 1, none⟩ (.string ((strOf rl).extract 1 m))).drew) w.heap.size [.int .i64 ((rl.getD 0 0 : Nat) : Int), .string ((strOf rl).extract 1 m)] := (HK3.out.set2 0 _).set2 1 _
        exact dnext_ret rfl rfl rfl BKF (dnextq HF.out et (((HB3.out.setCell (p := ⟨w.heap.size, 0, none⟩) (Nat.le_refl _) _).setCell (p := ⟨w.heap.size, 1, none⟩) (Nat.le_refl _) _).drew))
      · rw [if_neg hsum] at HF
        rw [decide_eq_false hsum] at hxe
        have hxn : ((s.extract z Z).toList != (strOf (sumB ((natsOf s).take z))).toList) = true := by
          rw [bne, hxe]
          rfl
        clear hex hsum HEX
        generalize strOf (sumB ((natsOf s).take z)) = SB at *
        go_region_held3 (fun w' => w'.cell? ⟨g, 0, none⟩ = some (.string (strOf rl))) (first | exact bk3.cell2 0 | go_keep) ((first | (go_at_call 21; refine (HSU.out _).mono ?_; rintro e w3 ⟨rfl, hb3⟩; have bk3 : Blk2 w3 g [.string (strOf rl), .int .i64 0] := BI1.out.trans' (hb3.block _ hlw2))))
        clear q1 q2
        have HB3 : Hid (Below w.heap.size w w3) := B1.out.drew.trans (hb3.mono B1.out.size)
        have HK3 : Hid (Blk2 w3 w.heap.size [.int .i64 0, .string ⟨#[]⟩]) := BK1.out.trans' (hb3.block _ (by show _ < w2.heap.size; omega))
        have c0 : w3.cell? ⟨w.heap.size, 0, none⟩ = some (.int .i64 0) := HK3.out.cell2 0
        have c1 : w3.cell? ⟨w.heap.size, 1, none⟩ = some (.string ⟨#[]⟩) := HK3.out.cell2 1
        have f0 : w3.frozen? ⟨w.heap.size, 0, none⟩ = false := HK3.out.free2 0
        have f1 : w3.frozen? ⟨w.heap.size, 1, none⟩ = false := HK3.out.free2 1
        have hl2 : w.heap.size < w3.heap.size := World.block_lt_of_cell? w3 _ c0
        clear hb3 bk3 hxe hxn
        go_wp2_with (fail)
        exact dnext_ret rfl rfl rfl ((HK3.out.set2 0 (.int .i64 0)).set2 1 (.string ⟨#[]⟩)) (dnextq HF.out rfl ((HB3.out.setCell (p := ⟨w.heap.size, 0, none⟩) (Nat.le_refl _) _).setCell (p := ⟨w.heap.size, 1, none⟩) (Nat.le_refl _) _))
  · have t : ((re : Int) != 0) = true := by simp; omega
    have HF := Lib.hid (HE.out he)
    go_wp2_with (fail)
    obtain ⟨g, hg⟩ : ∃ g, g = w1.heap.size := ⟨_, rfl⟩
    rw [← hg] at BI1 hlt1 ⊢
    generalize w1.alloc (.cells #[.string (strOf rl), .int .i64 (re : Nat)] 64) = w2 at *
    have i1 : w2.cell? ⟨g, 1, none⟩ = some (.int .i64 (re : Nat)) := BI1.out.cell2 1
    have c0 : w2.cell? ⟨w.heap.size, 0, none⟩ = some (.int .i64 0) := BK1.out.cell2 0
    have c1 : w2.cell? ⟨w.heap.size, 1, none⟩ = some (.string ⟨#[]⟩) := BK1.out.cell2 1
    have f0 : w2.frozen? ⟨w.heap.size, 0, none⟩ = false := BK1.out.free2 0
    have f1 : w2.frozen? ⟨w.heap.size, 1, none⟩ = false := BK1.out.free2 1
    have hl2 : w.heap.size < w2.heap.size := World.block_lt_of_cell? w2 _ c0
    have hl3 : g < w2.heap.size := World.block_lt_of_cell? w2 _ i1
    have hne : ¬ g = w.heap.size := by omega
    have HK : Hid (∀ (W : World), Blk2 W g [.string (strOf rl), .int .i64 (re : Nat)] → Blk2 ((W.setCell ⟨w.heap.size, 0, none⟩ (.int .i64 0)).setCell ⟨w.heap.size, 1, none⟩ (.string ⟨#[]⟩)) g [.string (strOf rl), .int .i64 (re : Nat)]) := fun W h => h.trans' (by rw [heap_setCell_other _ _ _ _ hne, heap_setCell_other _ _ _ _ hne])
    clear hg HE HZ1 he
    go_region_held3 (fun w' => w'.cell? ⟨g, 1, none⟩ = some (.int .i64 (re : Nat))) (first | with_reducible exact (HK.out _ BI1.out).cell2 1 | exact (HK.out _ BI1.out).cell2 1 | go_keep) ((first | fail))
    go_wp2_with (fail)
    have BKF : Blk2 (((w2.setCell ⟨w.heap.size, 0, none⟩ (.int .i64 0)).setCell ⟨w.heap.size, 1, none⟩ (.string ⟨#[]⟩)).drew) w.heap.size [.int .i64 0, .string ⟨#[]⟩] := (BK1.out.set2 0 (.int .i64 0)).set2 1 (.string ⟨#[]⟩)
    exact dnext_ret rfl rfl rfl BKF (dnextq HF.out rfl (((B1.out.setCell (p := ⟨w.heap.size, 0, none⟩) (Nat.le_refl _) _).setCell (p := ⟨w.heap.size, 1, none⟩) (Nat.le_refl _) _).drew))
end Go.Proofs.YtoipokjoklhfjaaDoor
