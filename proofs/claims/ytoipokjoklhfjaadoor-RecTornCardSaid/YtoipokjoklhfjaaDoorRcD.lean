/-
  The bytes of a row of records.
-/
import Derived.Test.YtoipokjoklhfjaaDoorRcC
namespace Go.Proofs.YtoipokjoklhfjaaDoor
open Go.RowKit numb

def BytesQ (l : List Rc) (w : World) (e : Ending) (w' : World) : Prop :=
  ∃ v, e = .returned (.tuple #[v, .int .i64 (firstE l)]) ∧ (firstE l = 0 → Own w' w.heap.size v (bytesL l)) ∧ (firstE l ≠ 0 → v = .slice none 0 0) ∧ Below w.heap.size w w'
set_option maxRecDepth 100000 in
set_option maxHeartbeats 4000000 in
theorem bytes_any (A : Option Addr) (l : List Rc) (c : Nat) (w : World) (hr : RcRow w A l) (hok : ∀ x ∈ l, x.p.ok w ∧ x.p.l.length ≤ 5000) (hn : l.length ≤ 100) (ht : TabAt w) :
    Calls Tryd.prog 13 #[.slice A l.length c] w (BytesQ l w) := by
  have HROW := Lib.hid hr
  have HOK := Lib.hid hok
  have HT := Lib.hid ht
  have HN : Hid (l.length ≤ 100) := hn
  clear hr hok ht
  go_enter Tryd.func13, Tryd.ntmps13
  go_wp2_with (fail)
  go_loopw [4, 13] (fun z i wr => ∃ k s : Nat, k ≤ l.length ∧ i = .int .i64 k ∧ z = .int .i64 s ∧ Hid (s ≤ 6000 * k) ∧ Hid (firstE (l.take k) = 0) ∧ Hid (Below w.heap.size w wr)) (fun _ i _ => l.length - (intOf i).toNat)
  case atStart => exact ⟨0, 0, Nat.zero_le _, rfl, rfl, Nat.le_refl _, rfl, Below.refl _ _⟩
  case round =>
    obtain ⟨k, s, hk, rfl, rfl, HS, HF, hb⟩ := hrel
    by_cases hlt : k < l.length
    · obtain ⟨rb, off, ra, hcell⟩ := (HROW.out.below hb.out) (by omega)
      subst ra
      obtain ⟨q0, q1⟩ := hcell k hlt
      obtain ⟨p1, p2⟩ := firstE_take HF.out hlt
      have ho := HOK.out l[k] (List.getElem_mem hlt)
      obtain ⟨x, hx⟩ : ∃ x, x = l[k] := ⟨_, rfl⟩
      rw [← hx] at q0 q1 p1 p2 ho
      have hbl : rb < wr.heap.size := World.block_lt_of_cell? wr _ q0
      have P1 := Lib.hid p1
      have P2 := Lib.hid p2
      have HO := Lib.hid ho
      have hdl := ho.2
      have HWR := Lib.hid (fun w => wrong_any x w (by unfold maxLen; omega))
      have HRR : Hid (rightI x.k x.p.l.length = rightR x) := rfl
      obtain ⟨kind, a, d, ca⟩ := x
      unfold Part.v at q1
      unfold Rc.v Part.v at HWR
      simp only at q0 q1 HWR HRR hdl
      rw [HRR.out] at HWR
      have hkk : (k : Int) ≤ 100 := by omega
      have hss : (s : Int) ≤ 600000 := by have := HS.out; omega
      have HB2 : Hid (Below w.heap.size w (wr.alloc (.cells #[.int .i64 kind, .slice a d.length ca] 27))) := hb.out.trans (((Below.refl _ _).alloc (Nat.le_refl _) _).mono hb.out.size)
      have hrr := rightR_range ⟨kind, a, d, ca⟩
      generalize rightR ⟨kind, a, d, ca⟩ = R at *
      clear hcell hx p1 p2 ho HRR
      by_cases hR : R = 0
      · subst hR
        have HF2 := Lib.hid (P1.out rfl)
        have HSZ := Lib.hid (fun w => size_any (d.length : Nat) w (by omega) (by omega))
        have hsz : Hid (sizeI (d.length : Nat) = ((recB kind.toNat d).length : Int) ∧ (recB kind.toNat d).length ≤ d.length + 15) := ⟨recB_size (by omega), (recB_le (by omega)).1⟩
        rw [hsz.out.1] at HSZ
        have hz2 := hsz.out.2
        generalize (recB kind.toNat d).length = Z at *
        clear P1 P2 hrr hsz
        go_wp2_with (fail)
        refine (HWR.out _).mono ?_
        rintro e w2 ⟨rfl, hb2⟩
        obtain ⟨hc2, hf2⟩ := bcell hb2
        have HB3 : Hid (Below w.heap.size w w2) := HB2.out.trans (hb2.mono HB2.out.size)
        have hz : wr.heap.size + 1 ≤ w2.heap.size := by have := hb2.size; simpa using this
        clear hb2 HB2
        go_wp2_with (fail)
        refine (HSZ.out _).mono ?_
        rintro e w3 ⟨rfl, hb3⟩
        have HB4 : Hid (Below w.heap.size w w3) := HB3.out.trans (hb3.mono HB3.out.size)
        clear hb3 HB3 hc2 hf2
        go_wp2_with (fail)
        go_roundw
        case rel => exact ⟨k + 1, s + Z, by omega, by go_num, by go_num, by have := HS.out; show _ ≤ _; omega, HF2, HB4⟩
        case measure => simp [intOf]; omega
      · have HF2 := Lib.hid (P2.out hR)
        have t : (R != 0) = true := by simpa using hR
        clear P1 P2 hrr
        go_wp2_with (fail)
        refine (HWR.out _).mono ?_
        rintro e w2 ⟨rfl, hb2⟩
        have HB3 : Hid (Below w.heap.size w w2) := HB2.out.trans (hb2.mono HB2.out.size)
        have HR0 : Hid (R ≠ 0) := hR
        clear hb2 HB2 hR
        go_wp2_with (fail)
        go_ret2
        exact ⟨.slice none 0 0, by rw [HF2.out]; rfl, fun h => absurd (HF2.out.symm.trans h) HR0.out, fun _ => rfl, HB3.out⟩
    · have hall := HF.out
      rw [List.take_of_length_le (by omega)] at hall
      have HALL := Lib.hid hall
      have hss : (s : Int) ≤ 600000 := by have := HS.out; omega
      clear hall HF HS
      obtain ⟨i, hi, hz, hsize, hby⟩ := info_parts info_byte
      obtain ⟨w0, hrun, hown, hgr⟩ := run_make_own (P := Tryd.prog) wr w.heap.size 25 5 i _ 1 Tryd.underlying25 hi hz hsize .i64 .i64 s (by rw [hby]; omega) (by unfold maxLen; omega) hb.out.size
      have HB0 : Hid (Below w.heap.size w w0) := hb.out.grown hgr hb.out.size (fun k hk => by cases hk)
      have HO0 : Hid (Own w0 w.heap.size (.slice (some ⟨wr.heap.size, 0, none⟩) 0 s) []) := hown
      have HALLR := Lib.hid (firstE_all HALL.out)
      clear hown hgr hi hz hsize hby hb
      go_wp2_with (fail)
      clear hrun
      go_loopw [8, 33] (fun v i wx => ∃ (k : Nat) (a : Option Addr) (n c : Nat), v = .slice a n c ∧ k ≤ l.length ∧ i = .int .i64 k ∧ Hid (Own wx w.heap.size (.slice a n c) (bytesL (l.take k))) ∧ Hid (Below w.heap.size w wx)) (fun _ i _ => l.length - (intOf i).toNat)
      case atStart => exact ⟨0, _, _, _, rfl, Nat.zero_le _, rfl, HO0, HB0⟩
      case round =>
        obtain ⟨k, va, vn, vc, rfl, hk, rfl, HOW, hb⟩ := hrel
        by_cases hlt : k < l.length
        · obtain ⟨rb, off, ra, hcell⟩ := (HROW.out.below hb.out) (by omega)
          subst ra
          obtain ⟨q0, q1⟩ := hcell k hlt
          have ho := HOK.out l[k] (List.getElem_mem hlt)
          have hr0 := rightR_ok (HALLR.out l[k] (List.getElem_mem hlt))
          have hsn := bytesL_snoc hlt
          have hle := bytesL_le (l := l.take k) (fun x hx => (HOK.out x (List.mem_of_mem_take hx)).2)
          have hare := bytesL_are (l := l.take k) (fun x hx => ⟨HALLR.out x (List.mem_of_mem_take hx), (HOK.out x (List.mem_of_mem_take hx)).1.bytes⟩)
          rw [List.length_take] at hle
          obtain ⟨x, hx⟩ : ∃ x, x = l[k] := ⟨_, rfl⟩
          rw [← hx] at q0 q1 ho hr0 hsn
          have hbl : rb < wr.heap.size := World.block_lt_of_cell? wr _ q0
          obtain ⟨kind, a, d, ca⟩ := x
          unfold Part.v at q1
          simp only at q0 q1 ho hr0 hsn
          obtain ⟨kn, rfl⟩ := Int.eq_ofNat_of_zero_le hr0.1
          simp only [Int.toNat_natCast] at hsn
          have hkk : (k : Int) ≤ 100 := by omega
          have HP := Lib.hid (put_any w kn ⟨a, d, ca⟩ (.slice va vn vc) (bytesL (l.take k)) (wr.alloc (.cells #[.int .i64 (kn : Nat), .slice a d.length ca] 27)) (by omega) ho.1 (hb.out.alloc hb.out.size _) HT.out (HOW.out.below ((Below.refl _ _).alloc (Nat.le_refl _) _)) hare hr0.2.2 (by omega))
          unfold Part.v at HP
          simp only at HP
          have HSN := Lib.hid hsn
          clear hcell hx ho hr0 hsn hle hare
          go_wp2_with (fail)
          refine HP.out.mono ?_
          rintro e w2 ⟨v2, rfl, hown2, hb2⟩
          obtain ⟨a2, n2, c2, rfl⟩ := hown2.val
          have HO2 : Hid (Own w2 w.heap.size (.slice a2 n2 c2) (bytesL (l.take (k + 1)))) := by show Own _ _ _ _; rw [HSN.out]; exact hown2
          have HB2 := Lib.hid hb2
          clear hown2 hb2
          go_wp2_with (fail)
          go_roundw
          case rel => exact ⟨k + 1, _, _, _, rfl, by omega, by go_num, HO2, HB2⟩
          case measure => simp [intOf]; omega
        · have HO2 := HOW.out
          rw [List.take_of_length_le (by omega)] at HO2
          have HO3 := Lib.hid HO2
          clear HO2
          go_wp2_with (fail)
          go_ret2
          exact ⟨.slice va vn vc, by rw [HALL.out]; rfl, fun _ => HO3.out, fun h => absurd HALL.out h, hb.out⟩
end Go.Proofs.YtoipokjoklhfjaaDoor
