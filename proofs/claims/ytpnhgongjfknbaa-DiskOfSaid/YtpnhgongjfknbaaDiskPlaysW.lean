/-
  The walk of the law DiskPlays.
-/
import Derived.Test.YtpnhgongjfknbaaPyE
namespace Go.Proofs.Ytpnhgongjfknbaa
open Go.RowKit omap

set_option maxRecDepth 100000 in
set_option maxHeartbeats 1000000 in
theorem plays_off (cap : Int) (A : Option Addr) (l : List Cm) (c : Nat) (w : World) (hr : CmRow w A l) (hlen : l.length ≤ 9223372036854775807) (hs : smallB l = false) :
    Calls Try.prog 3 #[.int .i64 cap, .slice A l.length c] w fun e w' => e = .returned (.bool true) ∧ Below w.heap.size w w' := by
  have HS := Lib.hid (small_any A l c w hr hlen)
  rw [hs] at HS
  clear hr hlen hs
  go_enter Try.func3, Try.ntmps3
  go_wp2_with (fail)
  refine HS.out.mono ?_
  rintro r w1 ⟨rfl, hb1⟩
  have HB1 := Lib.hid hb1
  clear hb1 HS
  go_wp2_with (fail)
  refine (awake_any w1).mono ?_
  rintro r w2 ⟨rfl, hb2⟩
  have HB2 := Lib.hid (HB1.out.trans (hb2.mono HB1.out.size))
  clear hb2 HB1
  go_wp2_with (fail)
  go_ret
  exact ⟨rfl, HB2.out⟩
theorem ofS_bad {cap : Int} (h : cap < 0 ∨ 67108864 < cap) : ofS cap [] = (11, []) := by unfold ofS; rw [if_pos h]
theorem ofS_new {cap : Int} (h : ¬ (cap < 0 ∨ 67108864 < cap)) : ofS cap [] = (0, []) := by
  unfold ofS
  rw [if_neg h]
  rfl
set_option maxRecDepth 100000 in
set_option maxHeartbeats 4000000 in
theorem plays_bad (cap : Int) (A : Option Addr) (l : List Cm) (c : Nat) (w : World) (hr : CmRow w A l) (hlen : l.length ≤ 9223372036854775807) (hs : smallB l = true) (hc : cap < 0 ∨ 67108864 < cap) :
    Calls Try.prog 3 #[.int .i64 cap, .slice A l.length c] w fun e w' => e = .returned (.bool true) ∧ Below w.heap.size w w' := by
  have HS := Lib.hid (small_any A l c w hr hlen)
  rw [hs] at HS
  have HN := Lib.hid (fun w1 => new_any cap w1)
  have HO := Lib.hid (ofS_bad hc)
  have hc2 : (decide (cap < 0) || decide (67108864 < cap)) = true := by simpa using hc
  clear hr hlen hs
  go_enter Try.func3, Try.ntmps3
  go_wp2_with (fail)
  refine HS.out.mono ?_
  rintro r w1 ⟨rfl, hb1⟩
  have HB1 := Lib.hid hb1
  clear hb1 HS
  go_wp2_with (fail)
  refine (HN.out w1).mono ?_
  rintro r w2 ⟨hb2, hm⟩
  rw [HO.out, if_neg (by decide)] at hm
  subst hm
  have HB2 := Lib.hid (HB1.out.trans (hb2.mono HB1.out.size))
  clear hb2 HB1
  by_cases h0 : cap < 0
  · have t0 : decide (cap < 0) = true := by simpa using h0
    clear hc hc2 h0
    go_wp2_with (fail)
    refine (awake_any w2).mono ?_
    rintro r w3 ⟨rfl, hb3⟩
    have HB3 := Lib.hid (HB2.out.trans (hb3.mono HB2.out.size))
    clear hb3 HB2
    go_wp2_with (fail)
    go_ret
    exact ⟨rfl, HB3.out⟩
  · have t0 : decide (cap < 0) = false := by simpa using h0
    have t1 : decide (67108864 < cap) = true := by simpa [h0] using hc
    clear hc hc2 h0
    go_wp2_with (fail)
    refine (awake_any w2).mono ?_
    rintro r w3 ⟨rfl, hb3⟩
    have HB3 := Lib.hid (HB2.out.trans (hb3.mono HB2.out.size))
    clear hb3 HB2
    go_wp2_with (fail)
    go_ret
    exact ⟨rfl, HB3.out⟩
theorem small_of {l : List Cm} (hs : smallB l = true) : l.length ≤ 60 ∧ ∀ x ∈ l, smallC x = true := by
  unfold smallB at hs
  simp only [Bool.and_eq_true, decide_eq_true_eq] at hs
  exact ⟨hs.2, fun x hx => List.all_eq_true.1 hs.1 x hx⟩
/-- a new disk, and the document's beside it -/
theorem run_new {w0 w2 : World} {b : Nat} {S : List Nat} {cap : Nat} (hd : DiskAt w2 b S ⟨⟨0, 0, false⟩, cap, []⟩) (hb : Below w0.heap.size w0 w2) (hS : ∀ g ∈ S, w0.heap.size ≤ g) (T : TypeId) :
    Run w0 (w2.alloc (.cells #[.pointer (some ⟨b, 0, none⟩), .slice none 0 0, .int .i64 (cap : Nat), .int .i64 0, .int .i64 0, .bool false] T)) w2.heap.size b S ⟨none, 0, ⟨⟨0, 0, false⟩, cap, []⟩⟩ :=
  ⟨⟨blk_new w2 _ T, hd.below ((Below.refl _ _).alloc (Nat.le_refl _) _), ⟨fun h => absurd h (by simp), Nat.le_refl _, by simp⟩, fun hm => by have := hd.inside _ hm; omega, fun h => absurd h (by simp)⟩, hb.alloc hb.size _, fun g hg => by
    rcases List.mem_cons.1 hg with rfl | hg
    · exact hb.size
    · exact hS g hg⟩
set_option maxRecDepth 100000 in
set_option maxHeartbeats 8000000 in
theorem plays_on (cap : Nat) (A : Option Addr) (l : List Cm) (c : Nat) (w : World) (hr : CmRow w A l) (hx : ∀ x ∈ l, x.ok w) (hs : smallB l = true) (hc : cap ≤ 67108864) :
    Calls Try.prog 3 #[.int .i64 (cap : Nat), .slice A l.length c] w fun e w' => e = .returned (.bool true) ∧ Below w.heap.size w w' := by
  obtain ⟨hll, hall⟩ := small_of hs
  have HS := Lib.hid (small_any A l c w hr (by omega))
  rw [hs] at HS
  have t0 : decide ((cap : Int) < 0) = false := by simp
  have t1 : decide ((67108864 : Int) < (cap : Int)) = false := by simp; omega
  have HN := Lib.hid (fun w1 => new_any (cap : Int) w1)
  have HOS := Lib.hid (ofS_new (cap := (cap : Int)) (by omega))
  have HROW := Lib.hid hr
  have HX := Lib.hid hx
  have HALL := Lib.hid hall
  have HC := Lib.hid hc
  clear hr hx hs hall hc
  go_enter Try.func3, Try.ntmps3
  go_wp2_with (fail)
  refine HS.out.mono ?_
  rintro r w1 ⟨rfl, hb1⟩
  have HB1 := Lib.hid hb1
  clear hb1 HS
  go_wp2_with (fail)
  refine (HN.out w1).mono ?_
  rintro r w2 ⟨hb2, hm⟩
  rw [HOS.out, if_pos rfl] at hm
  obtain ⟨b, S, rfl, h1, h2⟩ := hm
  simp only [Int.toNat_natCast] at h1
  have HR0 := Lib.hid (run_new h1 (HB1.out.trans (hb2.mono HB1.out.size)) (fun g hg => Nat.le_trans HB1.out.size (h2 g hg)) 34)
  clear hb2 h1 h2 HB1 HN
  go_wp2_with (fail)
  go_loopw [47] (fun i wr => ∃ (k : Nat) (S : List Nat) (x : Rf), k ≤ l.length ∧ i = .int .i64 k ∧ Hid (Run w wr w2.heap.size b S x) ∧ Hid (FineK k x.d)) (fun i _ => l.length - (intOf i).toNat)
  case atStart => exact ⟨0, S, _, Nat.zero_le _, rfl, HR0.out, ⟨Nat.le_refl _, HC.out, Nat.le_refl _, by simp, fun y hy => by cases hy⟩⟩
  case round =>
    obtain ⟨k, S, x, hk, rfl, HH, HF⟩ := hrel
    have hkb : (k : Int) ≤ 60 := by omega
    by_cases hlt : k < l.length
    · obtain ⟨rb, off, ra, hcell⟩ := (HROW.out.below HH.out.below) (by omega)
      subst ra
      obtain ⟨q0, q1, q2, q3, q4, q5, q6⟩ := hcell k hlt
      have hok := HX.out l[k] (List.getElem_mem hlt)
      have hsm := HALL.out l[k] (List.getElem_mem hlt)
      obtain ⟨o, ho⟩ : ∃ o, o = l[k] := ⟨_, rfl⟩
      rw [← ho] at q0 q1 q2 q3 q4 q5 q6 hok hsm
      have hbl : rb < wr.heap.size := World.block_lt_of_cell? wr _ q0
      have HRA := Lib.hid (HH.out.later ((Below.refl wr.heap.size wr).alloc (Nat.le_refl _) (.cells o.cells.toArray 38)))
      have HD := Lib.hid (do_any _ _ b S x o HRA.out.play (HF.out.fine (by omega)) (HRA.out.told hok hsm))
      have HNF := Lib.hid (next_fine (o := o) HF.out hsm hok.n.2)
      unfold Cm.cells at HD HRA
      obtain ⟨kind, name, nto, data, more, no, cA, cs, cc⟩ := o
      unfold Part.v at q3 q4 HD HRA
      simp only at q0 q1 q2 q3 q4 q5 q6 HD HRA
      have hki : (k : Int) < (l.length : Int) := by omega
      clear hcell ho hok hsm HH HF
      go_wp2_with (fail)
      refine HD.out.mono ?_
      rintro r w3 ⟨rfl, S', x', hp, ht, hxd⟩
      have HR3 := Lib.hid (HRA.out.next hp ht)
      rw [← hxd] at HNF
      have HI := Lib.hid (is_any w3 w2.heap.size b S' x' hp HNF.out.names)
      clear hp ht hxd HD HRA
      go_wp2_with (fail)
      refine HI.out.mono ?_
      rintro r w4 ⟨rfl, hb4⟩
      have HR4 := Lib.hid (HR3.out.later hb4)
      clear hb4 HI HR3
      go_wp2_with (fail)
      go_roundw
      case rel => exact ⟨k + 1, S', x', by omega, by go_num, HR4.out, HNF.out⟩
      case measure => simp [intOf]; omega
    · have hk' : k = l.length := by omega
      subst hk'
      clear hlt hk
      go_wp2_with (fail)
      refine (awake_any wr).mono ?_
      rintro r w5 ⟨rfl, hb5⟩
      have HB5 := Lib.hid (HH.out.below.trans (hb5.mono HH.out.below.size))
      clear hb5
      go_wp2_with (fail)
      go_ret
      exact ⟨rfl, HB5.out⟩
theorem plays_walk (cap : Int) (A : Option Addr) (l : List Cm) (c : Nat) (w : World) (hr : CmRow w A l) (hx : ∀ x ∈ l, x.ok w) (hlen : l.length ≤ 9223372036854775807) :
    Calls Try.prog 3 #[.int .i64 cap, .slice A l.length c] w fun e w' => e = .returned (.bool true) ∧ Below w.heap.size w w' := by
  cases hs : smallB l with
  | false => exact plays_off cap A l c w hr hlen hs
  | true =>
    by_cases hc : cap < 0 ∨ 67108864 < cap
    · exact plays_bad cap A l c w hr hlen hs hc
    · obtain ⟨n, rfl⟩ := Int.eq_ofNat_of_zero_le (show 0 ≤ cap by omega)
      exact plays_on n A l c w hr hx hs (by omega)
end Go.Proofs.Ytpnhgongjfknbaa
