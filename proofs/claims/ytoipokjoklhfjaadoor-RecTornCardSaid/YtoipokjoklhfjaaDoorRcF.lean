/-
  The record with which bytes begin.
-/
import Derived.Test.YtoipokjoklhfjaaDoorRcE
import Derived.Test.YtoipokjoklhfjaaDoorCoG
import Derived.Deep.RegionHeld3
namespace Go.Proofs.YtoipokjoklhfjaaDoor
open Go.RowKit numb

def NextQ (b : List Nat) (w : World) (e : Ending) (w' : World) : Prop :=
  ∃ v, e = .returned (.tuple #[.agg #[.int .i64 ((nextS b).k : Nat), v], .int .i64 ((nextS b).n : Nat), .int .i64 ((nextS b).e : Nat)]) ∧ Own w' w.heap.size v (nextS b).d ∧ Below w.heap.size w w'
theorem nextq_err {b : List Nat} {e : Nat} {w W : World} (h : nextS b = ⟨e, 0, [], 0⟩) (hB : Below w.heap.size w W) : NextQ b w (.returned (.tuple #[.agg #[.int .i64 0, .slice none 0 0], .int .i64 0, .int .i64 (e : Nat)])) W := by
  unfold NextQ
  rw [h]
  exact ⟨.slice none 0 0, rfl, own_nil _ _, hB⟩
theorem nextq_ok {b : List Nat} {k : Nat} {d : List Nat} {n : Nat} {w W : World} {v : Value} (h : nextS b = ⟨0, k, d, n⟩) (ho : Own W w.heap.size v d) (hB : Below w.heap.size w W) : NextQ b w (.returned (.tuple #[.agg #[.int .i64 (k : Nat), v], .int .i64 (n : Nat), .int .i64 0])) W := by
  unfold NextQ
  rw [h]
  exact ⟨v, rfl, ho, hB⟩
theorem Blk2.free2 {w : World} {g : Nat} {cs : List Value} (h : Blk2 w g cs) (i : Nat) : w.frozen? ⟨g, i, none⟩ = false := by
  obtain ⟨T, h⟩ := h
  simp [World.frozen?, h]
theorem Blk2.set2 {w : World} {g : Nat} {cs : List Value} (h : Blk2 w g cs) (i : Nat) (u : Value) : Blk2 (w.setCell ⟨g, i, none⟩ u) g (cs.set i u) := by
  obtain ⟨T, h⟩ := h
  refine ⟨T, ?_⟩
  simp [World.setCell, Array.getElem?_modify, h]
theorem next_ret {tmps : Array Value} {W : World} {Q : Ending → World → Prop} {g : Nat} {k v n e : Value} (hp : tmps.getD 2 undef = .pointer (some ⟨g, 0, none⟩)) (hq : tmps.getD 3 undef = n) (hr : tmps.getD 4 undef = e) (hB : Blk2 W g [k, v])
    (h : Q (.returned (.tuple #[.agg #[k, v], n, e])) W) : bodyPost Tryd.prog Tryd.f17 Q Exit.ret { tmps := tmps, defers := [] } W := by
  obtain ⟨T, hg⟩ := hB
  refine bodyPost_ret_by ?_ rfl h
  have hp' : tmps[2]?.getD undef = .pointer (some ⟨g, 0, none⟩) := by simpa using hp
  have hq' : tmps[3]?.getD undef = n := by simpa using hq
  have hr' : tmps[4]?.getD undef = e := by simpa using hr
  simp [results, hp', hq', hr', asAddr, run_loadVar_row W g T 27 _ _ _ hg Tryd.underlying27 rfl (by kernel_rfl)]
set_option maxRecDepth 100000 in
set_option maxHeartbeats 4000000 in
theorem next_any (q : Part) (w : World) (hq : q.ok w) (ht : TabAt w) (hsz : q.l.length ≤ 549755813888) :
    Calls Tryd.prog 17 #[.slice q.a q.l.length q.c] w (NextQ q.l w) := by
  obtain ⟨A, b, c⟩ := q
  simp only at hsz ⊢
  have HT := Lib.hid ht
  have HQ := Lib.hid hq
  have hroom : b.length ≤ c := hq.room
  have hmax : c ≤ maxLen := hq.max
  have hcm : c ≤ 9223372036854775807 := by unfold maxLen at hmax; omega
  clear hq ht
  have hb := HQ.out.bytes
  simp only at hb
  have HB0 : Hid (Below w.heap.size w (w.alloc (.cells #[.int .i64 0, .slice none 0 0] 27))) := (Below.refl _ _).alloc (Nat.le_refl _) _
  have HNI : Hid (∀ n : Nat, n = (b.take 10).length → Calls Tryd.prog 26 #[.slice A n c] (w.alloc (.cells #[.int .i64 0, .slice none 0 0] 27)) fun r w' => ∃ x, r = .returned (In x) ∧ w.heap.size + 1 ≤ x ∧ InAt w' (w.heap.size + 1) x ⟨b.take 10, 0⟩ ∧ Below (w.heap.size + 1) (w.alloc (.cells #[.int .i64 0, .slice none 0 0] 27)) w') := fun n hn => by
    subst hn
    have := newin_any A (b.take 10) c (w.alloc (.cells #[.int .i64 0, .slice none 0 0] 27)) ((HQ.out.at_.alloc _).take 10) (hb.take 10) (by rw [List.length_take]; omega)
    simpa using this
  obtain ⟨b1, b2⟩ := below_take hb
  obtain ⟨z1, z2⟩ := below_zero hb
  have HZ1 := Lib.hid z1
  have HZ2 := Lib.hid z2
  have HE := Lib.hid (fun h => next_err (b := b) h)
  rw [← b1] at HZ1 HZ2 HE
  rw [← b2] at HZ1
  have HBE := Lib.hid b1
  have HBV := Lib.hid b2
  clear b1 b2 z1 z2 hb
  go_enter Tryd.func17, Tryd.ntmps17
  go_wp2_with (fail)
  all_goals
    refine (HNI.out _ (by rw [List.length_take]; omega)).mono ?_
    rintro e w1 ⟨x, rfl, hx, hi, hb1⟩
    have HI := Lib.hid hi
    have HB1 : Hid (Below w.heap.size w w1) := HB0.out.trans (hb1.mono (by omega))
    have blk : Blk2 w1 w.heap.size [.int .i64 0, .slice none 0 0] := (blk2_new w _ _).trans' (hb1.block _ (by omega))
    have HBK := Lib.hid blk
    have HX := Lib.hid hx
    clear hi hb1 blk hx HNI
    simp only [In]
    go_wp2_with (fail)
    refine (in_below_any _ x _ 1048576 w1 HI.out (by unfold I64; omega)).mono ?_
    rintro e w2 ⟨rfl, hi, hs⟩
    have HI2 := Lib.hid hi
    have hxw := HX.out
    have HB2 : Hid (Below w.heap.size w w2) := HB1.out.trans (hs.to_below HB1.out.size (by omega))
    have HBK2 : Hid (Blk2 w2 w.heap.size [.int .i64 0, .slice none 0 0]) := HBK.out.trans' (hs.far _ (by have := HI.out.lt; omega) (by omega))
    clear hi hs HI HB1 HBK
    go_wp2_with (fail)
    refine (in_err_any _ x _ w2 HI2.out).mono ?_
    rintro e w3 ⟨rfl, rfl⟩
    obtain ⟨p, hp⟩ : ∃ p, St.below ⟨b.take 10, 0⟩ 1048576 = p := ⟨_, rfl⟩
    rw [hp] at HZ1 HZ2 HE HBE HBV ⊢
    obtain ⟨⟨rl, re⟩, n⟩ := p
    simp only at HZ1 HZ2 HE HBE HBV ⊢
    clear hp HI2
    by_cases he : re = 0
    · obtain ⟨r, hr, -, hn⟩ := HZ1.out he
      have hH : Head b n r := ⟨hr, hn⟩
      have hbl : b.length = (uint n).length + r.length := by rw [hr, List.length_append]
      have hu1 := uint_pos n
      have hu2 := uint_length_le (v := n) (k := 10) (by omega) (by omega)
      obtain ⟨h, hh⟩ : ∃ h, h = (uint n).length := ⟨_, rfl⟩
      have hsize : sizeI (n : Nat) = ((h + n + 5 : Nat) : Int) := by
        unfold sizeI
        rw [if_neg (by omega), hh]
        simp only [Int.toNat_natCast]
        omega
      have HSZ := Lib.hid (fun w => size_any (n : Nat) w (by omega) (by omega))
      rw [hsize] at HSZ
      have HSH := Lib.hid (fun hs => next_short hH hs)
      have HRE := Lib.hid (fun hs => next_rest hH hs)
      rw [← hh] at hbl hu1 hu2 HRE
      obtain ⟨z, hz⟩ : ∃ z, z = h + n + 1 := ⟨_, rfl⟩
      obtain ⟨Z, hZ⟩ : ∃ Z, Z = h + n + 5 := ⟨_, rfl⟩
      rw [← hZ] at HSZ HRE
      rw [← hz] at HRE
      have t : ((0 : Int) != 0) = false := by decide
      subst he
      clear HZ1 HZ2 HE hsize HBE HBV
      by_cases hsh : r.length < n + 5
      · have HF := Lib.hid (HSH.out hsh)
        have t2 : b.length < Z := by omega
        have HR0 := Lib.hid hr
        clear HRE HSH hr hbl hsh
        go_wp2_with (fail)
        refine (HSZ.out _).mono ?_
        rintro e w3 ⟨rfl, hb3⟩
        have HBK3 : Hid (Blk2 w3 w.heap.size [.int .i64 0, .slice none 0 0]) := HBK2.out.trans' (hb3.block _ (by have := World.block_lt_of_cell? w2 _ (HBK2.out.cell2 0); exact this))
        have HB3 : Hid (Below w.heap.size w w3) := HB2.out.trans (hb3.mono HB2.out.size)
        clear hb3 HBK2 HB2
        have c0 : w3.cell? ⟨w.heap.size, 0, none⟩ = some (.int .i64 0) := HBK3.out.cell2 0
        have c1 : w3.cell? ⟨w.heap.size, 1, none⟩ = some (.slice none 0 0) := HBK3.out.cell2 1
        have f0 : w3.frozen? ⟨w.heap.size, 0, none⟩ = false := HBK3.out.free2 0
        have f1 : w3.frozen? ⟨w.heap.size, 1, none⟩ = false := HBK3.out.free2 1
        have hlt : w.heap.size < w3.heap.size := World.block_lt_of_cell? w3 _ c0
        go_wp2_with (fail)
        exact next_ret rfl rfl rfl ((HBK3.out.set2 0 _).set2 1 _) (nextq_err HF.out ((HB3.out.setCell (p := ⟨w.heap.size, 0, none⟩) (Nat.le_refl _) _).setCell (p := ⟨w.heap.size, 1, none⟩) (Nat.le_refl _) _))
      · have HF := Lib.hid (HRE.out hsh)
        have t2 : decide (b.length < Z) = false := by simp; omega
        obtain ⟨g, o, hA, hcell⟩ := HQ.out.at_ (by simp only; omega)
        simp only at hA hcell
        subst hA
        have HLR : Hid (b.length = h + r.length) := hbl
        have HR0 := Lib.hid hr
        have hzc : (z : Int) < (c : Int) := by omega
        have hzb : (z : Int) ≤ (b.length : Int) := by omega
        have hZc : (Z : Int) ≤ (c : Int) := by omega
        have hZb : (Z : Int) ≤ (b.length : Int) := by omega
        have hzZ : (z : Int) ≤ (Z : Int) := by omega
        have hck : ¬ c = z := by omega
        have HW1 : Hid (wrap64 ((Z : Int) - 4) = (z : Int)) := by
          show _ = _
          rw [show ((Z : Int) - 4) = (z : Int) by omega]
          exact IntWalk.wrap64_in _ (by omega)
        have HW2 : Hid (IntKind.i64.wrap ((Z : Int) - 4) = (z : Int)) := by
          show _ = _
          rw [show ((Z : Int) - 4) = (z : Int) by omega]
          exact IntWalk.i64_in _ (by omega)
        have HZ := Lib.hid (And.intro hz hZ)
        have hl1 : (b.take z).length = z := by rw [List.length_take]; omega
        have hl2 : ((b.drop z).take 4).length = Z - z := by rw [List.length_take, List.length_drop]; omega
        have HP1 : Hid (∀ W, Below w.heap.size w W → (⟨some ⟨g, o, none⟩, b.take z, c⟩ : Part).ok W) := fun W hW => ⟨by simp only; omega, hmax, (HQ.out.below hW).at_.take z, HQ.out.bytes.take z⟩
        have HP2 : Hid (∀ W, Below w.heap.size w W → (⟨some ⟨g, o + z, none⟩, (b.drop z).take 4, c - z⟩ : Part).ok W) := fun W hW =>
          ⟨by simp only; omega, by simp only; unfold maxLen at hmax ⊢; omega, ((show Row e8 W (some ⟨g, o, none⟩) b from (HQ.out.below hW).at_).drop z).take 4, (HQ.out.bytes.drop z).take 4⟩
        have hdn : ((r.drop 1).take n).length = n := by rw [List.length_take, List.length_drop]; omega
        obtain ⟨y, hy⟩ : ∃ y, y = h + 1 := ⟨_, rfl⟩
        have hzy : z - y = n := by omega
        have hdy : (b.drop y).take n = (r.drop 1).take n := by rw [hr, hy, hh, List.drop_append, List.drop_of_length_le (by omega), List.nil_append, show (uint n).length + 1 - (uint n).length = 1 by omega]
        have HRF : Hid (∀ W, Below w.heap.size w W → Calls Tryd.prog 30 #[.slice (some ⟨g, o + y, none⟩) (z - y) (c - y)] W fun e w' => ∃ v', e = .returned v' ∧ Own w' W.heap.size v' ((r.drop 1).take n) ∧ Below W.heap.size W w') := fun W hW => by
          have := rfresh_any (some ⟨g, o + y, none⟩) ((r.drop 1).take n) (c - y) W (by rw [← hdy]; exact ((show Row e8 W (some ⟨g, o, none⟩) b from (HQ.out.below hW).at_).drop y).take n) (by omega)
          rw [hdn] at this
          rw [hzy]
          exact this
        have hhb : h < b.length := by omega
        have hkd : b[h] = r.getD 0 0 := by
          have e1 : b[h] = (uint n ++ r)[h]'(by rw [← hr]; exact hhb) := by simp only [hr]
          rw [e1, List.getElem_append_right (by omega)]
          simp only [hh, Nat.sub_self]
          rw [List.getD_eq_getElem?_getD, List.getElem?_eq_getElem (by omega)]
          rfl
        have hkc := hcell h hhb
        rw [hkd] at hkc
        unfold e8 at hkc
        obtain ⟨kd, hkdd⟩ : ∃ kd, kd = r.getD 0 0 := ⟨_, rfl⟩
        have hkb : kd < 256 := by rw [hkdd, ← hkd]; exact HQ.out.bytes.at_ hhb
        rw [← hkdd] at hkc HF
        have HKC : Hid (∀ W, Below w.heap.size w W → W.cell? ⟨g, o + h, none⟩ = some (.int .u8 (kd : Nat))) := fun W hW => (hW.cell (p := ⟨g, o + h, none⟩) (World.block_lt_of_cell? w _ hkc)).trans hkc
        have HV1 : Hid (wrap64 ((z : Int) - (n : Int)) = (y : Int) ∧ IntKind.i64.wrap ((z : Int) - (n : Int)) = (y : Int)) := by
          show _ ∧ _
          rw [show ((z : Int) - (n : Int)) = (y : Int) by omega]
          exact ⟨IntWalk.wrap64_in _ (by omega), IntWalk.i64_in _ (by omega)⟩
        have HV2 : Hid (wrap64 ((y : Int) - 1) = (h : Int) ∧ IntKind.i64.wrap ((y : Int) - 1) = (h : Int)) := by
          show _ ∧ _
          rw [show ((y : Int) - 1) = (h : Int) by omega]
          exact ⟨IntWalk.wrap64_in _ (by omega), IntWalk.i64_in _ (by omega)⟩
        have hyc : (y : Int) < (c : Int) := by omega
        have hyz : (y : Int) ≤ (z : Int) := by omega
        have hhy : (h : Int) < (y : Int) := by omega
        have hcy : ¬ c = y := by omega
        clear hdy hdn hhb hkd hkc hkdd hy hzy
        clear HRE HSH hr hbl hsh hz hZ hh hcell hH
        go_wp2_with (fail)
        refine (HSZ.out _).mono ?_
        rintro e w3 ⟨rfl, hb3⟩
        have HBK3 : Hid (Blk2 w3 w.heap.size [.int .i64 0, .slice none 0 0]) := HBK2.out.trans' (hb3.block _ (by have := World.block_lt_of_cell? w2 _ (HBK2.out.cell2 0); exact this))
        have HB3 : Hid (Below w.heap.size w w3) := HB2.out.trans (hb3.mono HB2.out.size)
        clear hb3 HBK2 HB2 HSZ
        go_wp2_with (fail)
        have q1 := HW1.out
        have q2 := HW2.out
        go_quiet (fail)
        clear q1 q2
        have HB4 : Hid (Below w.heap.size w (w3.drewN nq)) := HB3.out.trans ⟨rfl, rfl, rfl, Nat.le_refl _, fun _ _ => rfl⟩
        have HBK4 : Hid (Blk2 (w3.drewN nq) w.heap.size [.int .i64 0, .slice none 0 0]) := HBK3.out.trans' rfl
        clear HB3 HBK3
        generalize w3.drewN nq = w4 at *
        go_wp2_with (fail)
        have HSO := sumOf_any ⟨some ⟨g, o, none⟩, b.take z, c⟩ w4 (HP1.out _ HB4.out) (tab_below HT.out HB4.out)
        unfold Part.v at HSO
        simp only [hl1] at HSO
        refine HSO.mono ?_
        clear HSO
        rintro e w5 ⟨v5, rfl, own5, hb5⟩
        obtain ⟨a5, c5, rfl, hp5, -, -⟩ := own5.part (sumB_are _)
        have HB5 : Hid (Below w.heap.size w w5) := HB4.out.trans (hb5.mono HB4.out.size)
        have HBK5 : Hid (Blk2 w5 w.heap.size [.int .i64 0, .slice none 0 0]) := HBK4.out.trans' (hb5.block _ (by have := World.block_lt_of_cell? w4 _ (HBK4.out.cell2 0); exact this))
        have HBQ := bequal_any ⟨a5, sumB (b.take z), c5⟩ ⟨some ⟨g, o + z, none⟩, (b.drop z).take 4, c - z⟩ w5 hp5 (HP2.out _ HB5.out)
        unfold Part.v at HBQ
        simp only [hl2] at HBQ
        have HBQ2 := Lib.hid HBQ
        clear own5 hb5 hp5 HB4 HBK4 HBQ
        go_wp2_with (fail)
        refine HBQ2.out.mono ?_
        rintro e w6 ⟨rfl, rfl⟩
        by_cases hsum : (b.drop z).take 4 = sumB (b.take z)
        · rw [if_pos hsum] at HF
          rw [decide_eq_true hsum.symm]
          clear hsum HBQ2 hl1 hl2
          go_wp2_with (fail)
          have q1 := HV1.out.1
          have q2 := HV1.out.2
          go_quiet (fail)
          clear q1 q2
          have HB6 : Hid (Below w.heap.size w (w5.drewN nq)) := HB5.out.trans ⟨rfl, rfl, rfl, Nat.le_refl _, fun _ _ => rfl⟩
          have HBK6 : Hid (Blk2 (w5.drewN nq) w.heap.size [.int .i64 0, .slice none 0 0]) := HBK5.out.trans' rfl
          clear HB5 HBK5
          generalize w5.drewN nq = w6 at *
          go_wp2_with (fail)
          have q1 := HV2.out.1
          have q2 := HV2.out.2
          have qc := HKC.out w6 HB6.out
          have hlt6 : w.heap.size < w6.heap.size := by have := World.block_lt_of_cell? w6 _ (HBK6.out.cell2 0); exact this
          have HR6 := HRF.out w6 HB6.out
          have HRF6 := Lib.hid (fun W hW => (HRF.out W hW))
          have HBD : Hid (Below w.heap.size w w6.drew) := HB6.out.drew
          clear HR6
          have q3 : IntKind.i64.wrap (kd : Int) = (kd : Int) := IntWalk.i64_in _ (by omega)
          go_region_held3 (fun w' => w'.cell? ⟨g, o + h, none⟩ = some (.int .u8 (kd : Nat)))
            (first | with_reducible exact HKC.out _ HB6.out | with_reducible exact HKC.out _ HBD.out | with_reducible exact HKC.out _ hbx | with_reducible exact HKC.out _ ((hbx.setCell (p := ⟨w.heap.size, 0, none⟩) (Nat.le_refl _) _).setCell (p := ⟨w.heap.size, 1, none⟩) (Nat.le_refl _) _) | go_keep)
            ((first | (go_at_call 30; refine (HRF6.out _ HBD.out).mono ?_; rintro e w7 ⟨v7, rfl, own7, hb7⟩; obtain ⟨a7, n7, c7, rfl⟩ := own7.val; have hbx : Below w.heap.size w w7 := HBD.out.trans (hb7.mono HBD.out.size); have bk7 : Blk2 w7 w.heap.size [.int .i64 0, .slice none 0 0] := HBK6.out.trans' (hb7.block _ hlt6); have y0 : w7.cell? ⟨w.heap.size, 0, none⟩ = some (.int .i64 0) := bk7.cell2 0; have y1 : w7.cell? ⟨w.heap.size, 1, none⟩ = some (.slice none 0 0) := bk7.cell2 1; have z0 : w7.frozen? ⟨w.heap.size, 0, none⟩ = false := bk7.free2 0; have z1 : w7.frozen? ⟨w.heap.size, 1, none⟩ = false := bk7.free2 1; have hlt7 : w.heap.size < w7.heap.size := World.block_lt_of_cell? w7 _ y0)))
          go_wp2_with (fail)
          have hsz6 : w6.drew.heap.size = w6.heap.size := rfl
          have hown := (own7.mono (base' := w.heap.size) (by omega)).stays (w' := (w7.setCell ⟨w.heap.size, 0, none⟩ (.int .i64 (kd : Nat))).setCell ⟨w.heap.size, 1, none⟩ (.slice a7 n7 c7)) (fun gg hgg => by
            have hgb := (own7.block hgg).1
            have hgn : gg ≠ w.heap.size := by omega
            rw [heap_setCell_other _ _ _ _ hgn, heap_setCell_other _ _ _ _ hgn])
          exact next_ret rfl rfl rfl ((bk7.set2 0 _).set2 1 _) (nextq_ok HF.out hown ((hbx.setCell (p := ⟨w.heap.size, 0, none⟩) (Nat.le_refl _) _).setCell (p := ⟨w.heap.size, 1, none⟩) (Nat.le_refl _) _))
        · rw [if_neg hsum] at HF
          rw [decide_eq_false (fun h => hsum h.symm)]
          clear hsum HBQ2 hl1 hl2
          have c0 : w5.cell? ⟨w.heap.size, 0, none⟩ = some (.int .i64 0) := HBK5.out.cell2 0
          have c1 : w5.cell? ⟨w.heap.size, 1, none⟩ = some (.slice none 0 0) := HBK5.out.cell2 1
          have f0 : w5.frozen? ⟨w.heap.size, 0, none⟩ = false := HBK5.out.free2 0
          have f1 : w5.frozen? ⟨w.heap.size, 1, none⟩ = false := HBK5.out.free2 1
          have hlt : w.heap.size < w5.heap.size := World.block_lt_of_cell? w5 _ c0
          go_wp2_with (fail)
          exact next_ret rfl rfl rfl ((HBK5.out.set2 0 _).set2 1 _) (nextq_err HF.out ((HB5.out.setCell (p := ⟨w.heap.size, 0, none⟩) (Nat.le_refl _) _).setCell (p := ⟨w.heap.size, 1, none⟩) (Nat.le_refl _) _))
    · have t : ((re : Int) != 0) = true := by simp; omega
      have HF := Lib.hid (HE.out he)
      have c0 : w2.cell? ⟨w.heap.size, 0, none⟩ = some (.int .i64 0) := HBK2.out.cell2 0
      have c1 : w2.cell? ⟨w.heap.size, 1, none⟩ = some (.slice none 0 0) := HBK2.out.cell2 1
      have f0 : w2.frozen? ⟨w.heap.size, 0, none⟩ = false := HBK2.out.free2 0
      have f1 : w2.frozen? ⟨w.heap.size, 1, none⟩ = false := HBK2.out.free2 1
      have hlt : w.heap.size < w2.heap.size := World.block_lt_of_cell? w2 _ c0
      go_wp2_with (fail)
      exact next_ret rfl rfl rfl ((HBK2.out.set2 0 _).set2 1 _) (nextq_err HF.out ((HB2.out.setCell (p := ⟨w.heap.size, 0, none⟩) (Nat.le_refl _) _).setCell (p := ⟨w.heap.size, 1, none⟩) (Nat.le_refl _) _))
end Go.Proofs.YtoipokjoklhfjaaDoor
