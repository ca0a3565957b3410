/-
  PixelTimes: the law's walk.
-/
import Derived.Test.YtolekbgbcahfgaaPxOpen
namespace Go.Proofs.Ytolekbgbcahfgaa
open Go.RowKit pxm

/-- those ahead are parts -/
def okPart (q : Int) : Bool := decide (0 ≤ q) && decide (q ≤ 255)
def nats (l : List Int) : List Nat := l.map Int.toNat
theorem nats_len (l : List Int) : (nats l).length = l.length := List.length_map _
theorem nats_take (l : List Int) (k : Nat) : nats (l.take k) = (nats l).take k := List.map_take ..
theorem nats_ok {l : List Int} (h : l.all okPart = true) : ∀ q ∈ nats l, q < 256 := by
  intro q hq
  obtain ⟨z, hz, rfl⟩ := List.mem_map.1 hq
  have := List.all_eq_true.1 h z hz
  unfold okPart at this
  simp only [Bool.and_eq_true, decide_eq_true_eq] at this
  omega
theorem nats_row {w : World} {A : Option Addr} {l : List Int} (h : Row eI w A l) (hl : l.all okPart = true) : Row eN w A (nats l) := fun hn => by
  rw [nats_len] at hn
  obtain ⟨b, off, e, hc⟩ := h hn
  refine ⟨b, off, e, fun j hj => ?_⟩
  rw [nats_len] at hj
  rw [hc j hj]
  have := List.all_eq_true.1 hl l[j] (List.getElem_mem hj)
  unfold okPart at this
  simp only [Bool.and_eq_true, decide_eq_true_eq] at this
  have e2 : (nats l)[j] = l[j].toNat := by simp only [nats, List.getElem_map]
  show some (Value.int .i64 l[j]) = some (Value.int .i64 (((nats l)[j] : Nat) : Int))
  rw [e2]
  congr 2
  omega
theorem nats_snoc {P : P4} {l : List Int} {k : Nat} (hk : k < l.length) : timesAll P (nats (l.take (k + 1))) = (timesAll P (nats (l.take k))).times l[k].toNat := by
  unfold nats timesAll
  rw [List.take_succ_eq_append_getElem hk, List.map_append, List.foldl_append]
  rfl
theorem ok_snoc {l : List Int} {k : Nat} (h : (l.take k).all okPart = true) (hk : k < l.length) (h1 : ¬ l[k] < 0) (h2 : ¬ 255 < l[k]) : (l.take (k + 1)).all okPart = true :=
  all_snoc h hk (by unfold okPart; simp only [Bool.and_eq_true, decide_eq_true_eq]; omega)
theorem rightl_one (n : Nat) (hn : n < 4294967296) (w : World) : Calls Try.prog 17 #[.slice (some ⟨w.heap.size, 0, none⟩) 1 1] (w.alloc (.cells #[.int .u32 (n : Nat)] 23)) fun e w' => e = .returned (.bool (rightL [n])) ∧ Below (w.alloc (.cells #[.int .u32 (n : Nat)] 23)).heap.size (w.alloc (.cells #[.int .u32 (n : Nat)] 23)) w' := by
  have hr : Row eW (w.alloc (.cells #[.int .u32 (n : Nat)] 23)) (some ⟨w.heap.size, 0, none⟩) [n] := row_new (enc := eW) w [n] 23
  generalize w.alloc (.cells #[.int .u32 (n : Nat)] 23) = W at *
  have hl : [n].length ≤ maxLen := by unfold maxLen; simp
  have h := rightl_any (some ⟨w.heap.size, 0, none⟩) [n] 1 W (fun z hz => by rw [List.mem_singleton.1 hz]; exact hn) hr hl
  exact h
set_option maxRecDepth 100000 in
set_option maxHeartbeats 4000000 in
theorem times_law (p0 : Int) (A : Option Addr) (l : List Int) (c : Nat) (w : World) (h1 : 0 ≤ p0) (h2 : p0 ≤ 4294967295) (hrow : Row eI w A l) (_hc : l.length ≤ c) (hm : c ≤ maxLen) (_h64 : ∀ z ∈ l, I64 z) :
    Calls Try.prog 6 #[.int .u32 p0, .slice A l.length c] w fun e w' => e = .returned (.bool true) ∧ Below w.heap.size w w' := by
  have HAW := Lib.hid (fun w => awake_any w)
  have hln : l.length ≤ maxLen := Nat.le_trans _hc hm
  unfold maxLen at hln
  obtain ⟨n, rfl⟩ : ∃ n : Nat, p0 = (n : Nat) := ⟨p0.toNat, by omega⟩
  have hn : n < 4294967296 := by omega
  have HROW := Lib.hid hrow
  have HRT := Lib.hid (fun w => rightl_one n hn w)
  have HFR := Lib.hid (fun w => dfrom_any n hn w)
  clear hrow _hc hm _h64 h1 h2
  cases hR : rightL [n] with
  | false =>
    rw [hR] at HRT
    clear hR HFR
    go_enter Try.func6, Try.ntmps6
    go_wp2_with (fail)
    refine (HRT.out _).mono ?_
    rintro e w1 ⟨rfl, hb⟩
    have HB1 := Lib.hid (bel_new (Below.refl _ _) hb)
    clear hb
    go_wp2_with (fail)
    refine (HAW.out _).mono ?_
    rintro e w2 ⟨rfl, hb⟩
    have HB2 := Lib.hid (bel_step HB1.out (Nat.le_refl _) hb)
    clear hb
    go_wp2_with (fail)
    go_ret
    exact ⟨rfl, HB2.out⟩
  | true =>
    have hP := rightL_one hR
    rw [hR] at HRT
    have HNU : Hid ((frm n).num = n) := num_frm
    clear hR
    generalize frm n = P at *
    have HP := Lib.hid hP
    clear hP
    by_cases hlen : 60 < l.length
    · have t : decide ((60 : Int) < (l.length : Int)) = true := by simp; omega
      clear hlen
      go_enter Try.func6, Try.ntmps6
      go_wp2_with (fail)
      refine (HRT.out _).mono ?_
      rintro e w1 ⟨rfl, hb⟩
      have HB1 := Lib.hid (bel_new (Below.refl _ _) hb)
      clear hb
      go_wp2_with (fail)
      refine (HAW.out _).mono ?_
      rintro e w2 ⟨rfl, hb⟩
      have HB2 := Lib.hid (bel_step HB1.out (Nat.le_refl _) hb)
      clear hb
      go_wp2_with (fail)
      go_ret
      exact ⟨rfl, HB2.out⟩
    have t : decide ((60 : Int) < (l.length : Int)) = false := by simp; omega
    go_enter Try.func6, Try.ntmps6
    go_wp2_with (fail)
    refine (HRT.out _).mono ?_
    rintro e w1 ⟨rfl, hb⟩
    have HB1 := Lib.hid (bel_new (Below.refl _ _) hb)
    have HRW1 := Lib.hid ((HROW.out.alloc _).below hb)
    clear hb
    go_wp2_with (fail)
    refine (HFR.out _).mono ?_
    rintro e w2 ⟨rfl, hb⟩
    have HB2 := Lib.hid (bel_step HB1.out (Nat.le_refl _) hb)
    have HRW2 := Lib.hid (HRW1.out.below hb)
    clear hb HFR HRT HROW HRW1 HB1
    go_wp2_with (fail)
    go_loopw [23] (fun i wr => ∃ k : Nat, k ≤ l.length ∧ i = .int .i64 k ∧ Hid ((l.take k).all okPart = true) ∧ Hid (Below w.heap.size w wr) ∧ Hid (Below w2.heap.size w2 wr) ∧ Hid (Blk wr w2.heap.size (timesAll P (nats (l.take k))).cs)) (fun i _ => l.length - (intOf i).toNat)
    case atStart => exact ⟨0, Nat.zero_le _, rfl, rfl, HB2.out.alloc HB2.out.size _, (Below.refl _ _).alloc (Nat.le_refl _) _, blk_new w2 P.cs _⟩
    case round =>
      obtain ⟨k, hk, rfl, HK, HB, HBW, HX⟩ := hrel
      by_cases hlt : k < l.length
      · obtain ⟨b, off, rfl, hc⟩ := Row.at_ (HRW2.out.below HBW.out) hlt
        unfold eI at hc
        have HS := Lib.hid (nats_snoc (P := P) hlt)
        have HOK := Lib.hid (ok_snoc HK.out hlt)
        have hX := timesAll_right HP.out (nats_ok HK.out)
        have hXB := hX.bytes
        have hsz := HB2.out.size
        clear hX
        generalize timesAll P (nats (l.take k)) = X at *
        generalize l[k] = q at *
        by_cases q1 : q < 0
        · have t1 : decide (q < 0) = true := by simpa using q1
          clear q1
          go_wp2_with (fail)
          refine (HAW.out _).mono ?_
          rintro e w3 ⟨rfl, hb⟩
          have HB3 := Lib.hid (bel_step HB.out (Nat.le_refl _) hb)
          clear hb
          go_wp2_with (fail)
          go_ret
          exact ⟨rfl, HB3.out⟩
        have t1 : decide (q < 0) = false := by simpa using q1
        by_cases q2 : 255 < q
        · have t2 : decide (255 < q) = true := by simpa using q2
          clear q1 q2
          go_wp2_with (fail)
          refine (HAW.out _).mono ?_
          rintro e w3 ⟨rfl, hb⟩
          have HB3 := Lib.hid (bel_step HB.out (Nat.le_refl _) hb)
          clear hb
          go_wp2_with (fail)
          go_ret
          exact ⟨rfl, HB3.out⟩
        have t2 : decide (255 < q) = false := by simpa using q2
        have HK2 := Lib.hid (HOK.out q1 q2)
        obtain ⟨Q, rfl⟩ : ∃ Q : Nat, q = (Q : Nat) := ⟨q.toNat, by omega⟩
        have hQ : Q < 256 := by omega
        rw [Int.toNat_natCast] at HS
        have HTI := Lib.hid (fun w => dtimes_any X hXB Q hQ w)
        have hx := HX.out
        rw [show X.cs = [.int .i64 (X.r : Nat), .int .i64 (X.g : Nat), .int .i64 (X.b : Nat), .int .i64 (X.a : Nat)] from rfl] at hx
        clear HX HOK hXB q1 q2 HK
        generalize X.times Q = Y at *
        obtain ⟨yr, yg, yb, ya⟩ := Y
        obtain ⟨xr, xg, xb, xa⟩ := X
        simp only at HTI hx
        obtain ⟨⟨c0, c1, c2, c3⟩, -, ci⟩ := hx.c4
        have HX := Lib.hid hx
        clear hx
        go_wp2_with (fail)
        refine (HTI.out _).mono ?_
        rintro e w3 ⟨rfl, hb⟩
        have HB3 := Lib.hid (bel_step HB.out (Nat.le_refl _) hb)
        have HBW3 := Lib.hid (bel_step HBW.out (Nat.le_refl _) hb)
        have HX3 := Lib.hid (HX.out.below' hb)
        clear hb HB HBW HX c0 c1 c2 c3 ci hc HTI
        obtain ⟨⟨c0, c1, c2, c3⟩, ⟨f0, f1, f2, f3⟩, ci⟩ := HX3.out.c4
        go_wp2_with (fail)
        go_roundw
        case rel => exact ⟨k + 1, by omega, by go_num, HK2, below4 HB3.out hsz _ _ _ _, below4 HBW3.out (Nat.le_refl _) _ _ _ _, by show Blk _ _ _; rw [HS.out]; exact Blk.put4 HX3.out _ _ _ _⟩
        case measure => simp [intOf]; omega
      · obtain rfl : k = l.length := by omega
        rw [List.take_length] at HK HX
        have hX := timesAll_right HP.out (nats_ok HK.out)
        have HBY := Lib.hid (bys_any P HP.out A (nats l) c wr (nats_ok HK.out) (nats_row (HRW2.out.below HBW.out) HK.out) (by rw [nats_len]; unfold maxLen; exact hln))
        rw [nats_len, HNU.out] at HBY
        have HRI := Lib.hid (fun w => right_any (timesAll P (nats l)) hX.bytes w)
        have HDO := Lib.hid (fun w => dof_any (timesAll P (nats l)) hX.bytes w)
        have HT : Hid ((timesAll P (nats l)).rightB = true) := P4.rightB_iff.2 hX
        rw [HT.out] at HRI
        clear hX HK HRW2 HP hlen t hlt hk hln HT
        generalize timesAll P (nats l) = X at *
        generalize X.num = N at *
        have hx := HX.out
        rw [show X.cs = [.int .i64 (X.r : Nat), .int .i64 (X.g : Nat), .int .i64 (X.b : Nat), .int .i64 (X.a : Nat)] from rfl] at hx
        obtain ⟨xr, xg, xb, xa⟩ := X
        simp only at HDO hx
        have HX2 := Lib.hid hx
        clear hx HX
        go_wp2_with (fail)
        refine HBY.out.mono ?_
        rintro e w3 ⟨rfl, hb⟩
        have HB3 := Lib.hid (bel_step HB.out (Nat.le_refl _) hb)
        have HX3 := Lib.hid (HX2.out.below' hb)
        clear hb HB HBW HX2 HBY
        obtain ⟨⟨c0, c1, c2, c3⟩, -, ci⟩ := HX3.out.c4
        go_wp2_with (fail)
        refine (HDO.out _).mono ?_
        rintro e w4 ⟨rfl, hb⟩
        have HB4 := Lib.hid (bel_step HB3.out (Nat.le_refl _) hb)
        clear hb HB3 HX3 c0 c1 c2 c3 ci
        go_wp2_with (fail)
        refine (HRI.out _).mono ?_
        rintro e w5 ⟨rfl, hd⟩
        have HB5 := Lib.hid (bel_step HB4.out (Nat.le_refl _) (hd.below _))
        clear hd HB4
        go_wp2_with (fail)
        refine (HAW.out _).mono ?_
        rintro e w6 ⟨rfl, hb⟩
        have HB6 := Lib.hid (bel_step HB5.out (Nat.le_refl _) hb)
        clear hb HB5
        go_wp2_with (fail)
        go_ret
        exact ⟨rfl, HB6.out⟩
end Go.Proofs.Ytolekbgbcahfgaa
