/-
  The walk of the law RecBytes.
-/
import Derived.Test.YtoipokjoklhfjaaDoorRcL
namespace Go.Proofs.YtoipokjoklhfjaaDoor
open Go.RowKit numb

theorem plainB_at {l : List Rc} {r : List (Nat × List Nat)} (h : l.map plainR = r.map toI) : l.length = r.length ∧ ∀ (i : Nat) (h1 : i < l.length) (h2 : i < r.length), l[i].k = (r[i].1 : Nat) ∧ l[i].p.l = r[i].2 := by
  have hl : l.length = r.length := by simpa using congrArg List.length h
  refine ⟨hl, fun i h1 h2 => ?_⟩
  have e : (l.map plainR)[i]? = (r.map toI)[i]? := by rw [h]
  simp only [List.getElem?_map, List.getElem?_eq_getElem h1, List.getElem?_eq_getElem h2, Option.map_some, Option.some.injEq, plainR, toI, Prod.mk.injEq] at e
  exact e
theorem firstE_snoc (l : List Rc) (x : Rc) : firstE (l ++ [x]) = if firstE l = 0 then rightR x else firstE l := by
  induction l with
  | nil =>
    simp only [List.nil_append, firstE, if_true]
    split
    · rename_i h
      exact h.symm
    · rfl
  | cons y l ih =>
    simp only [List.cons_append, firstE]
    split
    · exact ih
    · rfl
theorem firstE_next {l : List Rc} {k : Nat} (hk : k < l.length) : firstE (l.take (k + 1)) = if firstE (l.take k) = 0 then rightR l[k] else firstE (l.take k) := by
  rw [List.take_succ_eq_append_getElem hk]
  exact firstE_snoc _ _
theorem bytesL_cons (x : Rc) (l : List Rc) : bytesL (x :: l) = recB x.k.toNat x.p.l ++ bytesL l := by simp [bytesL]
theorem allS_bytes {l : List Rc} (h : ∀ x ∈ l, rightR x = 0 ∧ AreBytes x.p.l) : allS (bytesL l) = (l.map (fun x => (x.k.toNat, x.p.l)), (bytesL l).length, 0) := by
  induction l with
  | nil => exact allS_nil (by simp [bytesL])
  | cons x l ih =>
    have hx := h x (by simp)
    have ho := rightR_ok hx.1
    have h2 := ih fun y hy => h y (by simp [hy])
    have hA : AreBytes (bytesL (x :: l)) := bytesL_are h
    have hn := next_rec (k := x.k.toNat) x.p.l ho.2.2 (bytesL l)
    rw [← bytesL_cons] at hn
    have hlen := (recB_le (k := x.k.toNat) (l := x.p.l) ho.2.2).2
    rw [allS_go hA (by rw [bytesL_cons, List.length_append]; omega) (by rw [hn]), hn]
    simp only
    have hd : (bytesL (x :: l)).drop (recB x.k.toNat x.p.l).length = bytesL l := by rw [bytesL_cons, List.drop_left]
    rw [hd, h2, bytesL_cons, List.length_append]
    rfl
theorem small_of {l : List Rc} (h : smallB l = true) : l.length ≤ 30 ∧ ∀ x ∈ l, x.p.l.length ≤ 2000 := by
  unfold smallB at h
  simp only [Bool.and_eq_true, decide_eq_true_eq] at h
  exact ⟨h.2, fun x hx => by simpa [smallR] using List.all_eq_true.1 h.1 x hx⟩
set_option maxHeartbeats 1000000 in
theorem rbytes_off (A : Option Addr) (l : List Rc) (c : Nat) (w : World) (hr : RcRow w A l) (hlen : l.length ≤ 9223372036854775807) (hs : smallB l = false) (ht : TabAt w) :
    Calls Tryd.prog 3 #[.slice A l.length c] w fun e w' => e = .returned (.bool true) ∧ Below w.heap.size w w' := by
  have HS := Lib.hid (small_any A l c w hr hlen)
  rw [hs] at HS
  have HT := Lib.hid ht
  clear hr hlen hs ht
  go_enter Tryd.func3, Tryd.ntmps3
  go_wp2_with (fail)
  refine HS.out.mono ?_
  rintro e w1 ⟨rfl, hb⟩
  have B1 := Lib.hid hb
  clear hb
  go_wp2_with (fail)
  refine (awake_any w1 (tab_below HT.out B1.out)).mono ?_
  rintro e w2 ⟨rfl, hb⟩
  have B2 := Lib.hid (B1.out.trans (hb.mono B1.out.size))
  clear hb
  go_wp2_with (fail)
  go_ret
  exact ⟨rfl, B2.out⟩
set_option maxRecDepth 100000 in
set_option maxHeartbeats 8000000 in
theorem rbytes_on (A : Option Addr) (l : List Rc) (c : Nat) (w : World) (hr : RcRow w A l) (hok : ∀ x ∈ l, x.p.ok w) (hs : smallB l = true) (ht : TabAt w) :
    Calls Tryd.prog 3 #[.slice A l.length c] w fun e w' => e = .returned (.bool true) ∧ Below w.heap.size w w' := by
  obtain ⟨hl30, hl2⟩ := small_of hs
  have HS := Lib.hid (small_any A l c w hr (by omega))
  rw [hs] at HS
  have HT := Lib.hid ht
  have HROW := Lib.hid hr
  have HOK := Lib.hid hok
  have H30 : Hid (l.length ≤ 30) := hl30
  have H2 := Lib.hid hl2
  clear hr hok hs ht hl2
  go_enter Tryd.func3, Tryd.ntmps3
  go_wp2_with (fail)
  refine HS.out.mono ?_
  rintro e w1 ⟨rfl, hb⟩
  have B1 := Lib.hid hb
  clear hb HS
  go_wp2_with (fail)
  go_loopw [3, 4, 20] (fun s f i wr => ∃ (k : Nat) (t : ByteArray) (F : Int), k ≤ l.length ∧ i = .int .i64 k ∧ s = .string t ∧ f = .int .i64 F ∧ Hid (F = firstE (l.take k)) ∧ Hid (F = 0 → t = strOf (bytesL (l.take k))) ∧ Hid (Below w.heap.size w wr)) (fun _ _ i _ => l.length - (intOf i).toNat)
  case atStart => exact ⟨0, ⟨#[]⟩, 0, Nat.zero_le _, rfl, rfl, rfl, rfl, fun _ => rfl, B1⟩
  case round =>
    obtain ⟨k, t, F, hk, rfl, rfl, rfl, HF, HTT, hb⟩ := hrel
    by_cases hlt : k < l.length
    · obtain ⟨rb, off, ra, hcell⟩ := (HROW.out.below hb.out) (by omega)
      subst ra
      obtain ⟨q0, q1⟩ := hcell k hlt
      have hne := firstE_next hlt
      rw [← HF.out] at hne
      have hsn := bytesL_snoc hlt
      have hle := bytesL_le (l := l.take k) (fun x hx => by have := H2.out x (List.mem_of_mem_take hx); omega)
      rw [List.length_take] at hle
      have ho := HOK.out l[k] (List.getElem_mem hlt)
      have hx2 := H2.out l[k] (List.getElem_mem hlt)
      have hbp : ∀ y ∈ l.take k, AreBytes y.p.l := fun y hy => (HOK.out y (List.mem_of_mem_take hy)).bytes
      obtain ⟨x, hx⟩ : ∃ x, x = l[k] := ⟨_, rfl⟩
      rw [← hx] at q0 q1 hne hsn ho hx2
      have hbl : rb < wr.heap.size := World.block_lt_of_cell? wr _ q0
      have HRF := fun W hW => ref_rec_any x W (ho.below hW)
      have HRI : Hid (rightI x.k x.p.l.length = rightR x) := rfl
      have HRT := fun W => right_any x.k (strOf x.p.l) W (by rw [strOf_size]; unfold maxLen; omega)
      rw [strOf_size, HRI.out] at HRT
      obtain ⟨xk, xa, xl, xc⟩ := x
      unfold Part.v at q1
      unfold Rc.v Part.v at HRF
      simp only at q0 q1 hsn ho hx2 HRF HRT
      have HB2 : Hid (Below w.heap.size w (wr.alloc (.cells #[.int .i64 xk, .slice xa xl.length xc] 27))) := hb.out.trans (((Below.refl _ _).alloc (Nat.le_refl _) _).mono hb.out.size)
      have HX2 : Hid (xl.length ≤ 2000) := hx2
      have hkk : (k : Int) ≤ 30 := by omega
      have HBS : Hid ((strOf (recB xk.toNat xl)).size ≤ 2015) := by show _ ≤ _; rw [strOf_size]; have := (recB_le (k := xk.toNat) (l := xl) (by omega)).1; omega
      by_cases hF : F = 0
      · subst hF
        have hne0 : firstE (l.take (k + 1)) = rightR ⟨xk, xa, xl, xc⟩ := by rw [hne]; exact if_pos rfl
        have HNE := Lib.hid hne0
        clear hne0
        have htt := HTT.out rfl
        have HTS : Hid (t.size ≤ 150450) := by show _ ≤ _; rw [htt, strOf_size]; omega
        have hrk := rightR_ok (x := ⟨xk, xa, xl, xc⟩)
        have hare : rightR ⟨xk, xa, xl, xc⟩ = 0 → AreBytes (bytesL (l.take k)) := fun h0 => by
          have hfe := HF.out.symm
          exact bytesL_are fun y hy => ⟨firstE_all hfe y hy, hbp y hy⟩
        have hrr := rightR_range ⟨xk, xa, xl, xc⟩
        have HARE := Lib.hid hare
        have HSN := Lib.hid hsn
        have HTE := Lib.hid htt
        have HO := Lib.hid ho
        have HRFh := Lib.hid HRF
        have HRTh := Lib.hid HRT
        have HRK := Lib.hid hrk
        obtain ⟨R, hR⟩ : ∃ R, R = rightR ⟨xk, xa, xl, xc⟩ := ⟨_, rfl⟩
        rw [← hR] at hrr HNE HARE HRTh HRK
        clear hcell hx hne hsn hle ho hbp HRF HRI HRT htt hare hrk hR HF HTT hx2
        go_wp2_with (fail)
        have K1 : Hid (Blk2 (wr.alloc (.cells #[.int .i64 xk, .slice xa xl.length xc] 27)) wr.heap.size [.int .i64 xk, .slice xa xl.length xc]) := blk2_new wr _ _
        refine (HRFh.out _ HB2.out).mono ?_
        rintro e w2 ⟨rfl, hb2⟩
        have K2 : Hid (Blk2 w2 wr.heap.size [.int .i64 xk, .slice xa xl.length xc]) := K1.out.trans' (hb2.block _ (by simp))
        have HB3 : Hid (Below w.heap.size w w2) := HB2.out.trans (hb2.mono HB2.out.size)
        clear hb2 K1 HB2
        go_wp2_with (fail)
        refine (HRTh.out w2).mono ?_
        rintro e w3 ⟨rfl, hb3⟩
        have K3 : Hid (Blk2 w3 wr.heap.size [.int .i64 xk, .slice xa xl.length xc]) := K2.out.trans' (hb3.block _ (World.block_lt_of_cell? w2 _ (K2.out.cell2 0)))
        have HB4 : Hid (Below w.heap.size w w3) := HB3.out.trans (hb3.mono HB3.out.size)
        have u0 : w3.cell? ⟨wr.heap.size, 0, none⟩ = some (.int .i64 xk) := K3.out.cell2 0
        have u1 : w3.cell? ⟨wr.heap.size, 1, none⟩ = some (.slice xa xl.length xc) := K3.out.cell2 1
        clear hb3 K2 HB3
        by_cases hR : R = 0
        · subst hR
          obtain ⟨hr1, hr2, hr3⟩ := HRK.out rfl
          obtain ⟨kn, rfl⟩ := Int.eq_ofNat_of_zero_le hr1
          have hkn : kn < 256 := by omega
          have hA := HARE.out rfl
          have hadd : ∀ w', (Op.stringOp .add t (strOf (recB kn xl))).run Tryd.prog w' = .ok (.string (t ++ strOf (recB kn xl))) w' := fun w' => run_string_add_sum w' _ _ (by have := HBS.out; have := HTS.out; simp only [Int.toNat_natCast] at *; omega)
          have hcat : Hid (t ++ strOf (recB kn xl) = strOf (bytesL (l.take (k + 1)))) := by
            show _ = _
            rw [HTE.out, HSN.out, strOf_append hA (recB_are hkn HO.out.bytes)]
            rfl
          have HF2 : Hid ((0 : Int) = firstE (l.take (k + 1))) := HNE.out.symm
          have HDB := Lib.hid (fun w => dbytes_any kn xl w hkn HO.out.bytes (by have := HX2.out; omega))
          rw [hcat.out] at hadd
          obtain ⟨t2, ht2⟩ : ∃ t2, t2 = strOf (bytesL (l.take (k + 1))) := ⟨_, rfl⟩
          rw [← ht2] at hadd
          have HT2 := Lib.hid ht2
          clear hr1 hr2 hr3 hA hrr HSN HTE HARE HRTh HRK HNE HTS HBS ht2 hcat
          go_wp2_with (fail)
          refine (HRFh.out _ HB4.out).mono ?_
          rintro e w4 ⟨rfl, hb4⟩
          have HB5 : Hid (Below w.heap.size w w4) := HB4.out.trans (hb4.mono HB4.out.size)
          clear hb4 u0 u1 K3 HB4
          go_wp2_with (fail)
          refine (HDB.out w4).mono ?_
          rintro e w5 ⟨rfl, hb5⟩
          have HB6 : Hid (Below w.heap.size w w5) := HB5.out.trans (hb5.mono HB5.out.size)
          clear hb5 HB5
          go_wp2_with (fail)
          go_roundw
          case rel => exact ⟨k + 1, t2, 0, by omega, by go_num, rfl, rfl, HF2, fun _ => HT2.out, HB6⟩
          case measure => simp [intOf]; omega
        · have tR : (R == 0) = false := by simpa using hR
          have HF2 : Hid (R = firstE (l.take (k + 1))) := HNE.out.symm
          have HT2 : Hid (R ≠ 0) := hR
          clear hrr HSN HTE HARE HRTh HRK HNE HTS HBS hR
          go_wp2_with (fail)
          go_roundw
          case rel => exact ⟨k + 1, t, R, by omega, by go_num, rfl, rfl, HF2, fun h => absurd h HT2.out, HB4⟩
          case measure => simp [intOf]; omega
      · have tF : (F == 0) = false := by simpa using hF
        have HF2 : Hid (F = firstE (l.take (k + 1))) := by
          show _ = _
          rw [hne, if_neg hF]
        have HT2 : Hid (F ≠ 0) := hF
        clear hcell hx hne hsn hle ho hbp HRF HRI HRT hF HF HTT hx2 HBS HX2
        go_wp2_with (fail)
        go_roundw
        case rel => exact ⟨k + 1, t, F, by omega, by go_num, rfl, rfl, HF2, fun h => absurd h HT2.out, HB2⟩
        case measure => simp [intOf]; omega
    · have hall : F = firstE l := by
        have := HF.out
        rwa [List.take_of_length_le (by omega)] at this
      have htt : F = 0 → t = strOf (bytesL l) := by
        have := HTT.out
        rwa [List.take_of_length_le (by omega)] at this
      have HALL := Lib.hid hall
      have HTA := Lib.hid htt
      have HBY := Lib.hid (bytes_any A l c wr (HROW.out.below hb.out) (fun x hx => ⟨(HOK.out x hx).below hb.out, by have := H2.out x hx; omega⟩) (by omega) (tab_below HT.out hb.out))
      clear hall htt HF HTT
      go_wp2_with (fail)
      refine HBY.out.mono ?_
      rintro e w2 ⟨v, rfl, hown, hnil, hb2⟩
      rw [← HALL.out] at hown hnil ⊢
      have B2 : Hid (Below w.heap.size w w2) := hb.out.trans (hb2.mono hb.out.size)
      clear hb2 HBY
      by_cases hF : F = 0
      · subst hF
        have hown2 := hown rfl
        have hts := HTA.out rfl
        have hright := firstE_all HALL.out.symm
        have hra : ∀ x ∈ l, rightR x = 0 ∧ AreBytes x.p.l := fun x hx => ⟨hright x hx, (HOK.out x hx).bytes⟩
        have hbar := bytesL_are hra
        have hbll := bytesL_le (l := l) (fun x hx => by have := H2.out x hx; omega)
        obtain ⟨a2, c2, rfl, p2, -, -⟩ := hown2.part hbar
        have HAL := Lib.hid (all_any ⟨a2, bytesL l, c2⟩ w2 p2 (tab_below HT.out B2.out) (by simp only; omega))
        have hS := allS_bytes hra
        unfold AllQ at HAL
        simp only at HAL
        rw [hS] at HAL
        have P2 := Lib.hid p2
        have HTS := Lib.hid hts
        have HRA := Lib.hid hra
        have HBL : Hid ((bytesL l).length ≤ 150450) := by show _ ≤ _; omega
        obtain ⟨B, hB⟩ : ∃ B, B = (bytesL l).length := ⟨_, rfl⟩
        rw [← hB] at HAL HBL ⊢
        have HB := Lib.hid hB
        have t0 : ((0 : Int) != 0) = false := by decide
        clear hown2 hts hright hra hbar hbll p2 hS hown hnil HTA HALL hB
        go_wp2_with (fail)
        refine HAL.out.mono ?_
        rintro e w3 ⟨l3, v3, rfl, own3, ours3, hm, hb3⟩
        obtain ⟨hll, hat⟩ := plainB_at hm
        rw [List.length_map] at hll
        obtain ⟨A3, c3, rfl, hc3, row3⟩ := own3.row
        have B3 : Hid (Below w.heap.size w w3) := B2.out.trans (hb3.mono B2.out.size)
        have ROW3 := Lib.hid row3
        have OURS := Lib.hid ours3.ok
        have HAT := Lib.hid hat
        have hcv := conv_str w3 a2 (bytesL l) c2 (P2.out.below hb3).at_
        rw [← HTS.out, ← HB.out] at hcv
        obtain ⟨L, hL⟩ : ∃ L, L = l.length := ⟨_, rfl⟩
        have hL3 : l3.length = L := by omega
        have HLL : Hid (l.length = L ∧ l3.length = L) := ⟨hL.symm, hL3⟩
        have hc3' : L ≤ c3 := by omega
        have tL : ((L : Int) != (L : Int)) = false := by simp
        have tB : ((B : Int) != (B : Int)) = false := by simp
        have hL30 : (L : Int) ≤ 30 := by omega
        have tt : (t.toList != t.toList) = false := by simp
        rw [hL3, ← hL]
        clear hb3 own3 ours3 row3 hat hm hll hL hL3 hc3 HAL hl30
        go_wp2_with (fail)
        clear hcv tt tL tB t0
        go_loopw [12, 88] (fun s i wr => ∃ (k z : Nat), k ≤ L ∧ i = .int .i64 k ∧ s = .int .i64 z ∧ Hid (z = (bytesL (l.take k)).length) ∧ Hid (Below w3.heap.size w3 wr)) (fun _ i _ => L - (intOf i).toNat)
        case atStart => exact ⟨0, 0, Nat.zero_le _, rfl, rfl, rfl, Below.refl _ _⟩
        case round =>
          obtain ⟨k, z, hk, rfl, rfl, HZ, hb⟩ := hrel
          have HBW0 : Hid (Below w.heap.size w wr) := B3.out.trans (hb.out.mono B3.out.size)
          by_cases hlt : k < L
          · have h1 : k < l3.length := by have := HLL.out.2; omega
            have h2 : k < l.length := by have := HLL.out.1; omega
            obtain ⟨b1, o1, ra1, hcell1⟩ := (ROW3.out.below hb.out) (by omega)
            obtain ⟨b2, o2, ra2, hcell2⟩ := (HROW.out.below HBW0.out) (by omega)
            subst ra1 ra2
            obtain ⟨q0, q1⟩ := hcell1 k h1
            obtain ⟨p0, p1⟩ := hcell2 k h2
            have h2' : k < (l.map fun x => (x.k.toNat, x.p.l)).length := by rw [List.length_map]; exact h2
            obtain ⟨e1, e2⟩ := HAT.out k h1 h2'
            rw [List.getElem_map] at e1 e2
            have hok1 := OURS.out l3[k] (List.getElem_mem h1)
            have hok2 := HOK.out l[k] (List.getElem_mem h2)
            have hr0 := rightR_ok (HRA.out l[k] (List.getElem_mem h2)).1
            have hsn := bytesL_snoc h2
            have hle := bytesL_le (l := l.take k) (fun x hx => by have := H2.out x (List.mem_of_mem_take hx); omega)
            have hx2 := H2.out l[k] (List.getElem_mem h2)
            rw [List.length_take, ← HZ.out] at hle
            have hzs : (bytesL (l.take (k + 1))).length = z + (recB l[k].k.toNat l[k].p.l).length := by rw [hsn, List.length_append, HZ.out]
            obtain ⟨x, hx⟩ : ∃ x, x = l3[k] := ⟨_, rfl⟩
            obtain ⟨y, hy⟩ : ∃ y, y = l[k] := ⟨_, rfl⟩
            rw [← hx] at q0 q1 e1 e2 hok1
            rw [← hy] at p0 p1 e1 e2 hok2 hr0 hx2 hzs
            have hek : x.k = y.k := by rw [e1]; simp only; omega
            have hel : x.p.l = y.p.l := e2
            have HEQ : Hid (∀ W, Below wr.heap.size wr W → Calls Tryd.prog 15 #[x.v, y.v] W fun e w' => e = .returned (.bool true) ∧ Below W.heap.size W w') := fun W hW => requal_yes x y W ((hok1.below hb.out).below hW) ((hok2.below HBW0.out).below hW) ⟨hek, hel⟩
            obtain ⟨xk, xa, xl, xc⟩ := x
            obtain ⟨yk, ya, yl, yc⟩ := y
            unfold Part.v at q1 p1
            unfold Rc.v Part.v at HEQ
            simp only at q0 q1 p0 p1 hr0 hx2 hzs HEQ
            have hbl1 : b1 < wr.heap.size := World.block_lt_of_cell? wr _ q0
            have hbl2 : b2 < wr.heap.size := World.block_lt_of_cell? wr _ p0
            have HKB : Hid (∀ W, Below wr.heap.size wr W → W.cell? ⟨b1, o1 + k * 2, none⟩ = some (.int .i64 xk) ∧ W.cell? ⟨b1, o1 + k * 2 + 1, none⟩ = some (.slice xa xl.length xc) ∧ W.cell? ⟨b2, o2 + k * 2, none⟩ = some (.int .i64 yk) ∧ W.cell? ⟨b2, o2 + k * 2 + 1, none⟩ = some (.slice ya yl.length yc)) := fun W hW =>
              ⟨(hW.cell (p := ⟨b1, _, none⟩) hbl1).trans q0, (hW.cell (p := ⟨b1, _, none⟩) hbl1).trans q1, (hW.cell (p := ⟨b2, _, none⟩) hbl2).trans p0, (hW.cell (p := ⟨b2, _, none⟩) hbl2).trans p1⟩
            have HSZ := Lib.hid (fun w => size_any (yl.length : Nat) w (by omega) (by omega))
            have hszz : sizeI (yl.length : Nat) = ((recB yk.toNat yl).length : Int) := recB_size (by omega)
            rw [hszz] at HSZ
            have hrl := (recB_le (k := yk.toNat) (l := yl) (by omega)).1
            obtain ⟨Z, hZ⟩ : ∃ Z, Z = (recB yk.toNat yl).length := ⟨_, rfl⟩
            rw [← hZ] at HSZ hzs hrl
            have HZ2 : Hid (z + Z = (bytesL (l.take (k + 1))).length) := hzs.symm
            have hki : (k : Int) < (L : Int) := by omega
            have hzi : (z : Int) ≤ 150450 := by omega
            have hZi : (Z : Int) ≤ 2015 := by omega
            have hdr : Below wr.heap.size wr wr.drew := (Below.refl _ _).drew
            have tk : decide (k < L) = true := by simpa using hlt
            have hlle : (k : Int) < (l.length : Int) := by omega
            clear hcell1 hcell2 h1 h2 h2' hx hy hok1 hok2 hr0 hsn hle hx2 hzs hek hel hszz hrl hZ e1 e2 hlt
            go_wp2_with (fail)
            go_region_held3 (fun w' => w'.cell? ⟨b1, o1 + k * 2, none⟩ = some (.int .i64 xk) ∧ w'.cell? ⟨b1, o1 + k * 2 + 1, none⟩ = some (.slice xa xl.length xc) ∧ w'.cell? ⟨b2, o2 + k * 2, none⟩ = some (.int .i64 yk) ∧ w'.cell? ⟨b2, o2 + k * 2 + 1, none⟩ = some (.slice ya yl.length yc))
              (first | exact ⟨q0, q1, p0, p1⟩ | exact HKB.out _ hbw | go_keep)
              ((first | (go_at_call 15; refine (HEQ.out _ hdr).mono ?_; rintro e4 w5 ⟨rfl, hb5⟩; have hbw : Below wr.heap.size wr w5 := hdr.trans hb5)))
            have HBW : Hid (Below w3.heap.size w3 w5) := hb.out.trans (hbw.mono hb.out.size)
            have u3 := (HKB.out _ hbw).2.2.2
            clear hb5 hbw q0 q1 p0 p1 HKB HEQ hdr
            go_wp2_with (fail)
            refine (HSZ.out w5).mono ?_
            rintro e4 w6 ⟨rfl, hb6⟩
            have HBX : Hid (Below w3.heap.size w3 w6) := HBW.out.trans (hb6.mono HBW.out.size)
            clear hb6 u3
            go_wp2_with (fail)
            go_roundw
            case rel => exact ⟨k + 1, z + Z, by omega, by go_num, by go_num, HZ2, HBX⟩
            case measure => simp [intOf]; omega
          · have hzb : z = B := by
              have := HZ.out
              rw [List.take_of_length_le (by have := HLL.out.1; omega)] at this
              rw [this, HB.out]
            subst hzb
            have tk : decide (k < L) = false := by simpa using hlt
            have tz : ((z : Int) == (z : Int)) = true := by simp
            clear HZ
            go_wp2_with (fail)
            refine (awake_any wr (tab_below HT.out HBW0.out)).mono ?_
            rintro e4 w4 ⟨rfl, hb4⟩
            have B4 : Hid (Below w.heap.size w w4) := HBW0.out.trans (hb4.mono HBW0.out.size)
            clear hb4
            go_wp2_with (fail)
            go_ret
            exact ⟨rfl, B4.out⟩
      · have tF : (F != 0) = true := by simpa using hF
        have tFF : (F == F) = true := by simp
        obtain rfl := hnil hF
        clear hF hown hnil
        go_wp2_with (fail)
        refine (awake_any w2 (tab_below HT.out B2.out)).mono ?_
        rintro e w3 ⟨rfl, hb3⟩
        have B3 : Hid (Below w.heap.size w w3) := B2.out.trans (hb3.mono B2.out.size)
        clear hb3
        go_wp2_with (fail)
        go_ret
        exact ⟨rfl, B3.out⟩
theorem rbytes_walk (A : Option Addr) (l : List Rc) (c : Nat) (w : World) (hr : RcRow w A l) (hok : ∀ x ∈ l, x.p.ok w) (hlen : l.length ≤ 9223372036854775807) (ht : TabAt w) :
    Calls Tryd.prog 3 #[.slice A l.length c] w fun e w' => e = .returned (.bool true) ∧ Below w.heap.size w w' := by
  cases hs : smallB l with
  | true => exact rbytes_on A l c w hr hok hs ht
  | false => exact rbytes_off A l c w hr hlen hs ht
end Go.Proofs.YtoipokjoklhfjaaDoor
