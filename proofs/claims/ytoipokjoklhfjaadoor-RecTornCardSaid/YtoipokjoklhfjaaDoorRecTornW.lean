/-
  The walk of the law RecTorn.
-/
import Derived.Test.YtoipokjoklhfjaaDoorRcM
import Derived.Laws.BitsAllLaws
namespace Go.Proofs.YtoipokjoklhfjaaDoor
open Go.RowKit numb

theorem bits_u8 (x y : Int) : ∃ z : Nat, z < 256 ∧ bits .xor .u8 x y = (z : Nat) := by
  refine ⟨(bits .xor .u8 x y).toNat, ?_⟩
  unfold bits
  simp only [IntKind.wrap_u8']
  omega
def tornV (A : Option Addr) (n c : Nat) (cut at_ : Int) (flip : Nat) : Value := .agg #[.slice A n c, .int .i64 cut, .int .i64 at_, .int .u8 (flip : Nat)]
set_option maxRecDepth 100000 in
set_option maxHeartbeats 1000000 in
theorem torn_off (A : Option Addr) (l : List Rc) (c : Nat) (cut at_ : Int) (flip : Nat) (w : World) (hr : RcRow w A l) (hlen : l.length ≤ 9223372036854775807) (hs : smallB l = false) (ht : TabAt w) :
    Calls Tryd.prog 6 #[tornV A l.length c cut at_ flip] w fun e w' => e = .returned (.bool true) ∧ Below w.heap.size w w' := by
  have B0 : Hid (Below w.heap.size w (w.alloc (.cells #[.slice A l.length c, .int .i64 cut, .int .i64 at_, .int .u8 (flip : Nat)] 49))) := (Below.refl _ _).alloc (Nat.le_refl _) _
  have HS := Lib.hid (fun w1 (hb : Below w.heap.size w w1) => small_any A l c w1 (hr.below hb) hlen)
  rw [hs] at HS
  have HT := Lib.hid ht
  clear hr hlen hs ht
  unfold tornV
  go_enter Tryd.func6, Tryd.ntmps6
  go_wp2_with (fail)
  go_quiet (fail)
  have B1 : Hid (Below w.heap.size w ((w.alloc (.cells #[.slice A l.length c, .int .i64 cut, .int .i64 at_, .int .u8 (flip : Nat)] 49)).drewN nq)) := B0.out.trans ⟨rfl, rfl, rfl, Nat.le_refl _, fun _ _ => rfl⟩
  generalize ((w.alloc (.cells #[.slice A l.length c, .int .i64 cut, .int .i64 at_, .int .u8 (flip : Nat)] 49)).drewN nq) = w1 at *
  go_wp2_with (fail)
  refine (HS.out _ B1.out).mono ?_
  rintro e w2 ⟨rfl, hb⟩
  have B2 : Hid (Below w.heap.size w w2) := B1.out.trans (hb.mono B1.out.size)
  clear hb
  go_wp2_with (fail)
  refine (awake_any w2 (tab_below HT.out B2.out)).mono ?_
  rintro e w3 ⟨rfl, hb⟩
  have B3 := Lib.hid (B2.out.trans (hb.mono B2.out.size))
  clear hb
  go_wp2_with (fail)
  go_ret
  exact ⟨rfl, B3.out⟩
set_option maxRecDepth 100000 in
set_option maxHeartbeats 8000000 in
theorem torn_on (A : Option Addr) (l : List Rc) (c : Nat) (cut at_ : Int) (flip : Nat) (w : World) (hr : RcRow w A l) (hok : ∀ x ∈ l, x.p.ok w) (hs : smallB l = true) (hc1 : -9223372036854775808 ≤ cut) (hc2 : cut ≤ 9223372036854775807) (ha1 : -9223372036854775808 ≤ at_) (ha2 : at_ ≤ 9223372036854775807) (_ : flip < 256) (ht : TabAt w) :
    Calls Tryd.prog 6 #[tornV A l.length c cut at_ flip] w fun e w' => e = .returned (.bool true) ∧ Below w.heap.size w w' := by
  obtain ⟨hl30, hl2⟩ := small_of hs
  have B0 : Hid (Below w.heap.size w (w.alloc (.cells #[.slice A l.length c, .int .i64 cut, .int .i64 at_, .int .u8 (flip : Nat)] 49))) := (Below.refl _ _).alloc (Nat.le_refl _) _
  have HS := Lib.hid (fun w1 (hb : Below w.heap.size w w1) => small_any A l c w1 (hr.below hb) (by omega))
  rw [hs] at HS
  have HT := Lib.hid ht
  have HROW := Lib.hid hr
  have HOK := Lib.hid hok
  have H30 : Hid (l.length ≤ 30) := hl30
  have H2 := Lib.hid hl2
  clear hr hok hs ht hl2
  unfold tornV
  go_enter Tryd.func6, Tryd.ntmps6
  go_wp2_with (fail)
  go_quiet (fail)
  have B1 : Hid (Below w.heap.size w ((w.alloc (.cells #[.slice A l.length c, .int .i64 cut, .int .i64 at_, .int .u8 (flip : Nat)] 49)).drewN nq)) := B0.out.trans ⟨rfl, rfl, rfl, Nat.le_refl _, fun _ _ => rfl⟩
  generalize ((w.alloc (.cells #[.slice A l.length c, .int .i64 cut, .int .i64 at_, .int .u8 (flip : Nat)] 49)).drewN nq) = w1 at *
  go_wp2_with (fail)
  refine (HS.out _ B1.out).mono ?_
  rintro e w2 ⟨rfl, hb⟩
  have B2 : Hid (Below w.heap.size w w2) := B1.out.trans (hb.mono B1.out.size)
  have HBY := Lib.hid (bytes_any A l c w2 (HROW.out.below B2.out) (fun x hx => ⟨(HOK.out x hx).below B2.out, by have := H2.out x hx; omega⟩) (by omega) (tab_below HT.out B2.out))
  clear hb HS B0 B1
  go_wp2_with (fail)
  refine HBY.out.mono ?_
  rintro e w3 ⟨v, rfl, hown, hnil, hb3⟩
  have B3 : Hid (Below w.heap.size w w3) := B2.out.trans (hb3.mono B2.out.size)
  have HAW := Lib.hid (fun W (hW : Below w.heap.size w W) => awake_any W (tab_below HT.out hW))
  by_cases hE : firstE l = 0
  · have hown2 := hown hE
    rw [hE]
    have hright := firstE_all hE
    have hra : ∀ x ∈ l, rightR x = 0 ∧ AreBytes x.p.l := fun x hx => ⟨hright x hx, (HOK.out x hx).bytes⟩
    have hbar := bytesL_are hra
    have hbll := bytesL_le (l := l) (fun x hx => by have := H2.out x hx; omega)
    obtain ⟨a2, c2, rfl, p2, hblk, -⟩ := hown2.part hbar
    have HOWN : Hid (Own w3 w.heap.size (.slice a2 (bytesL l).length c2) (bytesL l)) := hown2.mono B2.out.size
    have HRA := Lib.hid hra
    have hroom := p2.room
    have hmax := p2.max
    simp only at hroom hmax
    have HBAR := Lib.hid hbar
    have HBLK := Lib.hid hblk
    have HATT := Lib.hid p2.at_
    have HBL : Hid ((bytesL l).length ≤ 150450) := by show _ ≤ _; omega
    obtain ⟨B, hB⟩ : ∃ B, B = (bytesL l).length := ⟨_, rfl⟩
    rw [← hB] at HBL HOWN hroom ⊢
    have HB := Lib.hid hB
    have t0 : ((0 : Int) != 0) = false := by decide
    clear hown2 hright hra hbar hbll p2 hown hnil hB hE hblk hb3 HBY
    by_cases hcn : cut < 0
    · have tc0 : decide (cut < 0) = true := by simpa using hcn
      clear hcn hc1 hc2 ha1 ha2
      go_wp2_with (fail)
      refine (HAW.out w3 B3.out).mono ?_
      rintro e8 w8 ⟨rfl, hb8⟩
      have B8 : Hid (Below w.heap.size w w8) := B3.out.trans (hb8.mono B3.out.size)
      clear hb8
      go_wp2_with (fail)
      go_ret
      exact ⟨rfl, B8.out⟩
    · obtain ⟨cu, rfl⟩ := Int.eq_ofNat_of_zero_le (show 0 ≤ cut by omega)
      by_cases hcb : B < cu
      · have tc0 : decide ((cu : Int) < 0) = false := by simp
        have tc1 : decide (B < cu) = true := by simpa using hcb
        have tc2 : (B : Int) < (cu : Int) := by omega
        clear hcn hcb hc1 hc2 ha1 ha2
        go_wp2_with (fail)
        refine (HAW.out w3 B3.out).mono ?_
        rintro e8 w8 ⟨rfl, hb8⟩
        have B8 : Hid (Below w.heap.size w w8) := B3.out.trans (hb8.mono B3.out.size)
        clear hb8
        go_wp2_with (fail)
        go_ret
        exact ⟨rfl, B8.out⟩
      · have tc0 : decide ((cu : Int) < 0) = false := by simp
        have tc1 : decide (B < cu) = false := by simp; omega
        have hcuB : (cu : Int) ≤ (B : Int) := by omega
        have HCU : Hid (cu ≤ B) := by show _ ≤ _; omega
        clear hcn hcb hc1 hc2
        go_wp2_with (fail)
        go_loopw [9, 10, 55] (fun a n i wr => ∃ (k z j : Nat), k ≤ l.length ∧ i = .int .i64 k ∧ n = .int .i64 z ∧ a = .int .i64 j ∧ j ≤ 30 ∧ Hid (z = (bytesL (l.take k)).length) ∧ Hid (Count l cu k j) ∧ Hid (Below w3.heap.size w3 wr)) (fun _ _ i _ => l.length - (intOf i).toNat)
        case atStart => exact ⟨0, 0, 0, Nat.zero_le _, rfl, rfl, rfl, by omega, rfl, Count.start l cu, Below.refl _ _⟩
        case round =>
          obtain ⟨k, z, j, hk, rfl, rfl, rfl, hj30, HZ, HC, hb⟩ := hrel
          by_cases hlt : k < l.length
          · have HBW0 : Hid (Below w.heap.size w wr) := B3.out.trans (hb.out.mono B3.out.size)
            obtain ⟨rb, off, ra, hcell⟩ := (HROW.out.below HBW0.out) (by omega)
            subst ra
            obtain ⟨q0, q1⟩ := hcell k hlt
            have hsn := bytesL_snoc hlt
            have hle := bytesL_le (l := l.take k) (fun x hx => by have := H2.out x (List.mem_of_mem_take hx); omega)
            have hx2 := H2.out l[k] (List.getElem_mem hlt)
            rw [List.length_take, ← HZ.out] at hle
            have hzs : (bytesL (l.take (k + 1))).length = z + (recB l[k].k.toNat l[k].p.l).length := by rw [hsn, List.length_append, HZ.out]
            have hyes := fun h => HC.out.yes (k := k) h
            have hno := fun h => HC.out.no (k := k) h
            obtain ⟨x, hx⟩ : ∃ x, x = l[k] := ⟨_, rfl⟩
            rw [← hx] at q0 q1 hx2 hzs
            have hbl : rb < wr.heap.size := World.block_lt_of_cell? wr _ q0
            obtain ⟨xk, xa, xl, xc⟩ := x
            unfold Part.v at q1
            simp only at q0 q1 hx2 hzs
            have HSZ := Lib.hid (fun w => size_any (xl.length : Nat) w (by omega) (by omega))
            have hszz : sizeI (xl.length : Nat) = ((recB xk.toNat xl).length : Int) := recB_size (by omega)
            rw [hszz] at HSZ
            have hrl := (recB_le (k := xk.toNat) (l := xl) (by omega)).1
            obtain ⟨Z, hZ⟩ : ∃ Z, Z = (recB xk.toNat xl).length := ⟨_, rfl⟩
            rw [← hZ] at HSZ hzs hrl
            have HZ2 : Hid (z + Z = (bytesL (l.take (k + 1))).length) := hzs.symm
            rw [hzs] at hyes hno
            have HB2 : Hid (Below w3.heap.size w3 (wr.alloc (.cells #[.int .i64 xk, .slice xa xl.length xc] 27))) := hb.out.alloc hb.out.size _
            have hzi : (z : Int) ≤ 150450 := by omega
            have hZi : (Z : Int) ≤ 2015 := by omega
            have hki : (k : Int) ≤ 30 := by omega
            have hji : (j : Int) ≤ 30 := by omega
            have HYES := Lib.hid hyes
            have HNO := Lib.hid hno
            have HJK : Hid (j ≤ 29) := by have := HC.out.le; show _ ≤ _; omega
            clear hcell hx hsn hle hx2 hzs hyes hno hszz hrl hZ hb HC HZ
            by_cases hf : z + Z ≤ cu
            · have tf : (z : Int) + (Z : Int) ≤ (cu : Int) := by omega
              obtain ⟨hc, hjk⟩ := HYES.out hf
              have HC2 := Lib.hid hc
              clear hc hjk hf HYES HNO
              go_wp2_with (fail)
              refine (HSZ.out _).mono ?_
              rintro e w4 ⟨rfl, hb4⟩
              have HB3 : Hid (Below w3.heap.size w3 w4) := HB2.out.trans (hb4.mono HB2.out.size)
              clear hb4 HB2
              go_wp2_with (fail)
              go_roundw
              case rel => exact ⟨k + 1, z + Z, j + 1, by omega, by go_num, by go_num, by go_num, by have := HJK.out; omega, HZ2, HC2, HB3⟩
              case measure => simp [intOf]; omega
            · have tf : (cu : Int) < (z : Int) + (Z : Int) := by omega
              have HC2 := Lib.hid (HNO.out (by omega))
              clear hf HYES HNO
              go_wp2_with (fail)
              refine (HSZ.out _).mono ?_
              rintro e w4 ⟨rfl, hb4⟩
              have HB3 : Hid (Below w3.heap.size w3 w4) := HB2.out.trans (hb4.mono HB2.out.size)
              clear hb4 HB2
              go_wp2_with (fail)
              go_roundw
              case rel => exact ⟨k + 1, z + Z, j, by omega, by go_num, by go_num, rfl, by omega, HZ2, HC2, HB3⟩
              case measure => simp [intOf]; omega
          · obtain rfl : k = l.length := by omega
            have hwh := HC.out.end_
            have HWH := Lib.hid hwh
            have B4 : Hid (Below w.heap.size w wr) := B3.out.trans (hb.out.mono B3.out.size)
            have hcutl : cu ≤ (bytesL l).length := by have := HCU.out; have := HB.out; omega
            obtain ⟨s1, s2, s3⟩ := allS_cut HRA.out hwh hcutl
            have HAL := all_any ⟨a2, (bytesL l).take cu, c2⟩ wr ⟨by simp only [List.length_take]; omega, hmax, ((show Row e8 wr a2 (bytesL l) from (HATT.out.below hb.out)).take cu), HBAR.out.take cu⟩ (tab_below HT.out B4.out) (by simp only [List.length_take]; have := HBL.out; have := HCU.out; omega)
            have hlc : ((bytesL l).take cu).length = cu := by rw [List.length_take]; omega
            unfold AllQ at HAL
            simp only [hlc] at HAL
            obtain ⟨X, hX⟩ : ∃ X, allS ((bytesL l).take cu) = X := ⟨_, rfl⟩
            rw [hX] at HAL s1 s2 s3
            obtain ⟨r3, g3, e3⟩ := X
            simp only at HAL s1 s2 s3
            subst s1 s2
            have hgc : (bytesL (l.take j)).length ≤ cu := hwh.fits
            have hjl : j ≤ l.length := hwh.le
            obtain ⟨G, hG⟩ : ∃ G, G = (bytesL (l.take j)).length := ⟨_, rfl⟩
            rw [← hG] at HAL s3 hgc
            have HAL := Lib.hid HAL
            have hzl : (z : Int) ≤ 150450 := by
              have := HZ.out
              rw [List.take_length] at this
              have := HBL.out
              have := HB.out
              omega
            have HJL := Lib.hid hjl
            have hcuc : (cu : Int) ≤ (c2 : Int) := by omega
            have hc2m : (c2 : Int) ≤ 9223372036854775807 := by unfold maxLen at hmax; omega
            have HMX := Lib.hid (And.intro hroom hmax)
            have tg : decide ((cu : Int) < (G : Int)) = false := by simp; omega
            have tgn : decide (cu < G) = false := by simp; omega
            clear hwh hcutl hlc hX hG HC HZ hjl hmax hroom hlt hk
            go_wp2_with (fail)
            refine HAL.out.mono ?_
            rintro e w5 ⟨l3, v3, rfl, own3, ours3, hm, hb5⟩
            obtain ⟨hll, hat⟩ := plainB_at hm
            have hrn : (recsN (l.take j)).length = j := by have := HJL.out; simp [recsN]; omega
            obtain ⟨A3, c3, rfl, hc3, row3⟩ := own3.row
            have B5 : Hid (Below w.heap.size w w5) := B4.out.trans (hb5.mono B4.out.size)
            have B35 : Hid (Below w3.heap.size w3 w5) := hb.out.trans (hb5.mono hb.out.size)
            have ROW3 := Lib.hid row3
            have OURS := Lib.hid ours3.ok
            have HAT := Lib.hid hat
            have hl3j : l3.length = j := by omega
            have HL3 := Lib.hid hl3j
            rw [hl3j]
            have tj : ((j : Int) != (j : Int)) = false := by simp
            have hjc3 : j ≤ c3 := by omega
            clear hb5 own3 ours3 hm hll hat hrn hc3 row3 hl3j HAL hb
            have hcases : (∃ (_ : G = cu), e3 = 0) ∨ (¬ G = cu ∧ ¬ e3 = 0) := by
              by_cases h : G = cu
              · exact .inl ⟨h, s3.2 h⟩
              · exact .inr ⟨h, fun h' => h (s3.1 h')⟩
            have HSAME : Hid (∀ (i : Nat) (h1 : i < l3.length) (h2 : i < l.length), i < j → l3[i].k = l[i].k ∧ l3[i].p.l = l[i].p.l) := fun i h1 h2 hij => by
              have hrl : i < (recsN (l.take j)).length := by simp [recsN]; omega
              obtain ⟨e1, e2⟩ := HAT.out i h1 hrl
              have hr0 := rightR_ok (HRA.out l[i] (List.getElem_mem h2)).1
              simp only [recsN, List.getElem_map, List.getElem_take] at e1 e2
              exact ⟨by rw [e1]; omega, e2⟩
            have HGC : Hid (G ≤ cu) := hgc
            have hji : (j : Int) ≤ 30 := by omega
            clear s3
            rcases hcases with ⟨hgq, hez⟩ | ⟨hgq, hez⟩
            · subst hgq
              subst hez
              clear HGC hgc tg tgn
              go_wp2_with (fail)
              go_loopw [98] (fun i wr => ∃ (k : Nat), k ≤ j ∧ i = .int .i64 k ∧ Hid (Below w5.heap.size w5 wr)) (fun i _ => j - (intOf i).toNat)
              case atStart => exact ⟨0, Nat.zero_le _, rfl, Below.refl _ _⟩
              case round =>
                obtain ⟨k, hk, rfl, hb⟩ := hrel
                have HBW0 : Hid (Below w.heap.size w wr) := B5.out.trans (hb.out.mono B5.out.size)
                by_cases hlt : k < j
                · have h1 : k < l3.length := by have := HL3.out; omega
                  have h2 : k < l.length := by have := HJL.out; omega
                  obtain ⟨b1, o1, ra1, hcell1⟩ := (ROW3.out.below hb.out) (by omega)
                  obtain ⟨b2, o2, ra2, hcell2⟩ := (HROW.out.below HBW0.out) (by omega)
                  subst ra1 ra2
                  obtain ⟨q0, q1⟩ := hcell1 k h1
                  obtain ⟨p0, p1⟩ := hcell2 k h2
                  obtain ⟨hek, hel⟩ := HSAME.out k h1 h2 hlt
                  have hok1 := OURS.out l3[k] (List.getElem_mem h1)
                  have hok2 := HOK.out l[k] (List.getElem_mem h2)
                  obtain ⟨x, hx⟩ : ∃ x, x = l3[k] := ⟨_, rfl⟩
                  obtain ⟨y, hy⟩ : ∃ y, y = l[k] := ⟨_, rfl⟩
                  rw [← hx] at q0 q1 hek hel hok1
                  rw [← hy] at p0 p1 hek hel hok2
                  have HEQ : Hid (∀ W, Below wr.heap.size wr W → Calls Tryd.prog 15 #[x.v, y.v] W fun e w' => e = .returned (.bool true) ∧ Below W.heap.size W w') := fun W hW => requal_yes x y W ((hok1.below hb.out).below hW) ((hok2.below HBW0.out).below hW) ⟨hek, hel⟩
                  obtain ⟨xk, xa, xl, xc⟩ := x
                  obtain ⟨yk, ya, yl, yc⟩ := y
                  unfold Part.v at q1 p1
                  unfold Rc.v Part.v at HEQ
                  simp only at q0 q1 p0 p1 HEQ
                  have hbl1 : b1 < wr.heap.size := World.block_lt_of_cell? wr _ q0
                  have hbl2 : b2 < wr.heap.size := World.block_lt_of_cell? wr _ p0
                  have tk : decide (k < j) = true := by simpa using hlt
                  have hki : (k : Int) < (j : Int) := by omega
                  have hlle : (k : Int) < (l.length : Int) := by omega
                  clear hcell1 hcell2 h1 h2 hx hy hok1 hok2 hek hel hlt
                  have hal : Below wr.heap.size wr (wr.alloc (.cells #[.int .i64 xk, .slice xa xl.length xc] 27)) := (Below.refl _ _).alloc (Nat.le_refl _) _
                  have KB : Hid (Blk2 (wr.alloc (.cells #[.int .i64 xk, .slice xa xl.length xc] 27)) wr.heap.size [.int .i64 xk, .slice xa xl.length xc]) := blk2_new wr _ _
                  go_wp2_with (fail)
                  obtain ⟨gb, hgb⟩ : ∃ g, g = wr.heap.size := ⟨_, rfl⟩
                  rw [← hgb] at KB ⊢
                  generalize wr.alloc (.cells #[.int .i64 xk, .slice xa xl.length xc] 27) = w6 at *
                  have q0' : w6.cell? ⟨gb, 0, none⟩ = some (.int .i64 xk) := KB.out.cell2 0
                  have q1' : w6.cell? ⟨gb, 1, none⟩ = some (.slice xa xl.length xc) := KB.out.cell2 1
                  have p0' : w6.cell? ⟨b2, o2 + k * 2, none⟩ = some (.int .i64 yk) := (hal.cell (p := ⟨b2, _, none⟩) hbl2).trans p0
                  have p1' : w6.cell? ⟨b2, o2 + k * 2 + 1, none⟩ = some (.slice ya yl.length yc) := (hal.cell (p := ⟨b2, _, none⟩) hbl2).trans p1
                  have HEQ6 : Hid (∀ W, Below w6.heap.size w6 W → Calls Tryd.prog 15 #[.agg #[.int .i64 xk, .slice xa xl.length xc], .agg #[.int .i64 yk, .slice ya yl.length yc]] W fun e w' => e = .returned (.bool true) ∧ Below W.heap.size W w') := fun W hW => HEQ.out W (hal.trans (hW.mono hal.size))
                  have hgl6 : gb < w6.heap.size := World.block_lt_of_cell? w6 _ q0'
                  have hbl6 : b2 < w6.heap.size := by have := hal.size; omega
                  have HKB : Hid (∀ W, Below w6.heap.size w6 W → W.cell? ⟨gb, 0, none⟩ = some (.int .i64 xk) ∧ W.cell? ⟨gb, 1, none⟩ = some (.slice xa xl.length xc) ∧ W.cell? ⟨b2, o2 + k * 2, none⟩ = some (.int .i64 yk) ∧ W.cell? ⟨b2, o2 + k * 2 + 1, none⟩ = some (.slice ya yl.length yc)) := fun W hW =>
                    ⟨(hW.cell (p := ⟨gb, _, none⟩) hgl6).trans q0', (hW.cell (p := ⟨gb, _, none⟩) hgl6).trans q1', (hW.cell (p := ⟨b2, _, none⟩) hbl6).trans p0', (hW.cell (p := ⟨b2, _, none⟩) hbl6).trans p1'⟩
                  have hdr : Below w6.heap.size w6 w6.drew := (Below.refl _ _).drew
                  clear q0 q1 p0 p1 HEQ hgb
                  go_region_held3 (fun w' => w'.cell? ⟨gb, 0, none⟩ = some (.int .i64 xk) ∧ w'.cell? ⟨gb, 1, none⟩ = some (.slice xa xl.length xc) ∧ w'.cell? ⟨b2, o2 + k * 2, none⟩ = some (.int .i64 yk) ∧ w'.cell? ⟨b2, o2 + k * 2 + 1, none⟩ = some (.slice ya yl.length yc))
                    (first | exact ⟨q0', q1', p0', p1'⟩ | exact HKB.out _ hbw | go_keep)
                    ((first | (go_at_call 15; refine (HEQ6.out _ hdr).mono ?_; rintro e4 w7 ⟨rfl, hb7⟩; have hbw : Below w6.heap.size w6 w7 := hdr.trans hb7)))
                  have HBW : Hid (Below w5.heap.size w5 w7) := hb.out.trans ((hal.trans (hbw.mono hal.size)).mono hb.out.size)
                  clear hb7 hbw q0' q1' p0' p1' HKB HEQ6 hdr hal KB hb
                  go_wp2_with (fail)
                  go_roundw
                  case rel => exact ⟨k + 1, by omega, by go_num, HBW⟩
                  case measure => simp [intOf]; omega
                · have tk : decide (k < j) = false := by simpa using hlt
                  clear hlt hk
                  by_cases ha0 : at_ < 0
                  · have ta : decide (at_ < 0) = true := by simpa using ha0
                    clear ha0 ha1 ha2
                    go_wp2_with (fail)
                    refine (HAW.out wr HBW0.out).mono ?_
                    rintro e8 w8 ⟨rfl, hb8⟩
                    have B8 : Hid (Below w.heap.size w w8) := HBW0.out.trans (hb8.mono HBW0.out.size)
                    clear hb8
                    go_wp2_with (fail)
                    go_ret
                    exact ⟨rfl, B8.out⟩
                  · obtain ⟨an, rfl⟩ := Int.eq_ofNat_of_zero_le (show 0 ≤ at_ by omega)
                    have ta : decide ((an : Int) < 0) = false := by simp
                    by_cases hab : B ≤ an
                    · have tb : decide (B ≤ an) = true := by simpa using hab
                      have hab' : (B : Int) ≤ (an : Int) := by omega
                      clear ha0 ha1 ha2 hab
                      go_wp2_with (fail)
                      refine (HAW.out wr HBW0.out).mono ?_
                      rintro e8 w8 ⟨rfl, hb8⟩
                      have B8 : Hid (Below w.heap.size w w8) := HBW0.out.trans (hb8.mono HBW0.out.size)
                      clear hb8
                      go_wp2_with (fail)
                      go_ret
                      exact ⟨rfl, B8.out⟩
                    · have tb : decide (B ≤ an) = false := by simpa using hab
                      have hab' : (an : Int) < (B : Int) := by omega
                      have HAB : Hid (an < B) := by show _ < _; omega
                      by_cases hf0 : flip = 0
                      · have tf : ((flip : Int) == 0) = true := by simp; omega
                        clear ha0 ha1 ha2 hab hf0
                        go_wp2_with (fail)
                        refine (HAW.out wr HBW0.out).mono ?_
                        rintro e8 w8 ⟨rfl, hb8⟩
                        have B8 : Hid (Below w.heap.size w w8) := HBW0.out.trans (hb8.mono HBW0.out.size)
                        clear hb8
                        go_wp2_with (fail)
                        go_ret
                        exact ⟨rfl, B8.out⟩
                      · have tf : ((flip : Int) == 0) = false := by simp; omega
                        clear ha0 ha1 ha2 hab hf0
                        have hBl := HB.out
                        obtain ⟨gx, ox, hax, -⟩ := HATT.out (by have := HAB.out; omega)
                        obtain ⟨g2, hg2, hgo⟩ := HBLK.out _ hax
                        rw [hg2] at hax
                        subst hax
                        have BWR : Hid (Below w3.heap.size w3 wr) := B35.out.trans (hb.out.mono B35.out.size)
                        have ownr := HOWN.out.below BWR.out
                        have hanl : an < (bytesL l).length := by have := HAB.out; omega
                        obtain ⟨cb, fb⟩ := ownr.at_ hanl
                        have hxb := HBAR.out.at_ hanl
                        obtain ⟨x, hx⟩ : ∃ x, x = (bytesL l)[an] := ⟨_, rfl⟩
                        rw [← hx] at cb hxb
                        have hgl : g2 < wr.heap.size := World.block_lt_of_cell? wr _ cb
                        have HOWNR := Lib.hid ownr
                        clear hx hanl ownr hg2 hgo hBl
                        go_wp2_with (fail)
                        obtain ⟨zb, hzb, hbits⟩ := bits_u8 (x : Int) (flip : Int)
                        rw [hbits]
                        have hg2b := (HOWNR.out.block (g := g2) rfl).1
                        have OWN7 : Hid (Own (wr.setCell ⟨g2, an, none⟩ (.int .u8 (zb : Nat))) w.heap.size (.slice (some ⟨g2, 0, none⟩) B c2) ((bytesL l).set an zb)) := HOWNR.out.put an zb
                        have B7 : Hid (Below w.heap.size w (wr.setCell ⟨g2, an, none⟩ (.int .u8 (zb : Nat)))) := HBW0.out.setCell (p := ⟨g2, an, none⟩) hg2b _
                        have HZB : Hid (zb < 256) := hzb
                        clear hbits cb fb hg2b hgl hzb HOWNR hxb hb
                        generalize wr.setCell ⟨g2, an, none⟩ (.int .u8 (zb : Nat)) = w7 at *
                        go_loopw [18, 19, 133] (fun a n i wr => ∃ (k z j : Nat), k ≤ l.length ∧ i = .int .i64 k ∧ n = .int .i64 z ∧ a = .int .i64 j ∧ j ≤ 30 ∧ Hid (z = (bytesL (l.take k)).length) ∧ Hid (Count l an k j) ∧ Hid (Below w7.heap.size w7 wr)) (fun _ _ i _ => l.length - (intOf i).toNat)
                        case atStart => exact ⟨0, 0, 0, Nat.zero_le _, rfl, rfl, rfl, by omega, rfl, Count.start l an, Below.refl _ _⟩
                        case round =>
                          obtain ⟨k, z, j, hk, rfl, rfl, rfl, hj30, HZ, HC, hb⟩ := hrel
                          by_cases hlt : k < l.length
                          · have HBW0 : Hid (Below w.heap.size w wr) := B7.out.trans (hb.out.mono B7.out.size)
                            obtain ⟨rb, off, ra, hcell⟩ := (HROW.out.below HBW0.out) (by omega)
                            subst ra
                            obtain ⟨q0, q1⟩ := hcell k hlt
                            have hsn := bytesL_snoc hlt
                            have hle := bytesL_le (l := l.take k) (fun x hx => by have := H2.out x (List.mem_of_mem_take hx); omega)
                            have hx2 := H2.out l[k] (List.getElem_mem hlt)
                            rw [List.length_take, ← HZ.out] at hle
                            have hzs : (bytesL (l.take (k + 1))).length = z + (recB l[k].k.toNat l[k].p.l).length := by rw [hsn, List.length_append, HZ.out]
                            have hyes := fun h => HC.out.yes (k := k) h
                            have hno := fun h => HC.out.no (k := k) h
                            obtain ⟨x, hx⟩ : ∃ x, x = l[k] := ⟨_, rfl⟩
                            rw [← hx] at q0 q1 hx2 hzs
                            have hbl : rb < wr.heap.size := World.block_lt_of_cell? wr _ q0
                            obtain ⟨xk, xa, xl, xc⟩ := x
                            unfold Part.v at q1
                            simp only at q0 q1 hx2 hzs
                            have HSZ := Lib.hid (fun w => size_any (xl.length : Nat) w (by omega) (by omega))
                            have hszz : sizeI (xl.length : Nat) = ((recB xk.toNat xl).length : Int) := recB_size (by omega)
                            rw [hszz] at HSZ
                            have hrl := (recB_le (k := xk.toNat) (l := xl) (by omega)).1
                            obtain ⟨Z, hZ⟩ : ∃ Z, Z = (recB xk.toNat xl).length := ⟨_, rfl⟩
                            rw [← hZ] at HSZ hzs hrl
                            have HZ2 : Hid (z + Z = (bytesL (l.take (k + 1))).length) := hzs.symm
                            rw [hzs] at hyes hno
                            have HB2 : Hid (Below w7.heap.size w7 (wr.alloc (.cells #[.int .i64 xk, .slice xa xl.length xc] 27))) := hb.out.alloc hb.out.size _
                            have hzi : (z : Int) ≤ 150450 := by omega
                            have hZi : (Z : Int) ≤ 2015 := by omega
                            have hki : (k : Int) ≤ 30 := by omega
                            have hji : (j : Int) ≤ 30 := by omega
                            have HYES := Lib.hid hyes
                            have HNO := Lib.hid hno
                            have HJK : Hid (j ≤ 29) := by have := HC.out.le; show _ ≤ _; omega
                            clear hcell hx hsn hle hx2 hzs hyes hno hszz hrl hZ hb HC HZ
                            by_cases hf : z + Z ≤ an
                            · have tf : (z : Int) + (Z : Int) ≤ (an : Int) := by omega
                              obtain ⟨hc, hjk⟩ := HYES.out hf
                              have HC2 := Lib.hid hc
                              clear hc hjk hf HYES HNO
                              go_wp2_with (fail)
                              refine (HSZ.out _).mono ?_
                              rintro e w4 ⟨rfl, hb4⟩
                              have HBy : Hid (Below w7.heap.size w7 w4) := HB2.out.trans (hb4.mono HB2.out.size)
                              clear hb4 HB2
                              go_wp2_with (fail)
                              go_roundw
                              case rel => exact ⟨k + 1, z + Z, j + 1, by omega, by go_num, by go_num, by go_num, by have := HJK.out; omega, HZ2, HC2, HBy⟩
                              case measure => simp [intOf]; omega
                            · have tf : (an : Int) < (z : Int) + (Z : Int) := by omega
                              have HC2 := Lib.hid (HNO.out (by omega))
                              clear hf HYES HNO
                              go_wp2_with (fail)
                              refine (HSZ.out _).mono ?_
                              rintro e w4 ⟨rfl, hb4⟩
                              have HBy : Hid (Below w7.heap.size w7 w4) := HB2.out.trans (hb4.mono HB2.out.size)
                              clear hb4 HB2
                              go_wp2_with (fail)
                              go_roundw
                              case rel => exact ⟨k + 1, z + Z, j, by omega, by go_num, by go_num, rfl, by omega, HZ2, HC2, HBy⟩
                              case measure => simp [intOf]; omega
                          · obtain rfl : k = l.length := by omega
                            have hwh2 := HC.out.end_
                            have B8 : Hid (Below w.heap.size w wr) := B7.out.trans (hb.out.mono B7.out.size)
                            obtain ⟨r5, hr5⟩ := allS_flip HRA.out HZB.out hwh2
                            have own8 := OWN7.out.below hb.out
                            have hset : ((bytesL l).set an zb).length = B := by rw [List.length_set]; exact HB.out.symm
                            have hare8 := set_are HBAR.out (i := an) HZB.out
                            obtain ⟨a8, c8, e8, p8, -, -⟩ := own8.part hare8
                            rw [hset] at e8
                            simp only [Value.slice.injEq, true_and] at e8
                            obtain ⟨rfl, rfl⟩ := e8
                            have HAL := all_any ⟨some ⟨g2, 0, none⟩, (bytesL l).set an zb, c2⟩ wr p8 (tab_below HT.out B8.out) (by simp only [hset]; have := HBL.out; omega)
                            unfold AllQ at HAL
                            simp only [hset] at HAL
                            rw [hr5] at HAL
                            have HAL := Lib.hid HAL
                            obtain ⟨j2, hj2⟩ : ∃ j2, j2 = j := ⟨_, rfl⟩
                            have hjl2 : j ≤ l.length := hwh2.le
                            have HJ2 : Hid (j ≤ l.length) := hjl2
                            have hzl2 : (z : Int) ≤ 150450 := by
                              have := HZ.out
                              rw [List.take_length] at this
                              have := HBL.out
                              have := HB.out
                              omega
                            have hji2 : (j : Int) ≤ 30 := by omega
                            clear hwh2 hr5 own8 hset hare8 p8 hj2 hjl2 HC HZ hlt hk
                            go_wp2_with (fail)
                            refine HAL.out.mono ?_
                            rintro e9 w9 ⟨l5, v5, rfl, own5, ours5, hm, hb9⟩
                            obtain ⟨hll, hat⟩ := plainB_at hm
                            have hrn : (recsN (l.take j)).length = j := by have := HJ2.out; simp [recsN]; omega
                            rw [List.length_append, hrn] at hll
                            obtain ⟨A5, c5, rfl, hc5, row5⟩ := own5.row
                            have B9 : Hid (Below w.heap.size w w9) := B8.out.trans (hb9.mono B8.out.size)
                            have ROW5 := Lib.hid row5
                            have OURS5 := Lib.hid ours5.ok
                            have HAT5 := Lib.hid hat
                            obtain ⟨L5, hL5⟩ : ∃ L5, L5 = l5.length := ⟨_, rfl⟩
                            have HG5 : Hid (j ≤ l5.length ∧ L5 = l5.length ∧ j ≤ L5) := by show _ ∧ _; omega
                            have hgl5 : ¬ (L5 : Int) < (j : Int) := by omega
                            have hgd5 : decide (L5 < j) = false := by simp; omega
                            have hLc5 : L5 ≤ c5 := by omega
                            have HSAME2 : Hid (∀ (i : Nat) (h1 : i < l5.length) (h2 : i < l.length), i < j → l5[i].k = l[i].k ∧ l5[i].p.l = l[i].p.l) := fun i h1 h2 hij => by
                              have hrl : i < (recsN (l.take j) ++ r5).length := by rw [List.length_append]; simp [recsN]; omega
                              have hrl2 : i < (recsN (l.take j)).length := by simp [recsN]; omega
                              obtain ⟨e1, e2⟩ := HAT5.out i h1 hrl
                              have hr0 := rightR_ok (HRA.out l[i] (List.getElem_mem h2)).1
                              rw [List.getElem_append_left hrl2] at e1 e2
                              simp only [recsN, List.getElem_map, List.getElem_take] at e1 e2
                              exact ⟨by rw [e1]; omega, e2⟩
                            rw [← hL5]
                            clear hb9 own5 ours5 hm hll hat hrn hc5 row5 hL5 HAL hb
                            go_wp2_with (fail)
                            go_loopw [160] (fun i wr => ∃ (k : Nat), k ≤ j ∧ i = .int .i64 k ∧ Hid (Below w9.heap.size w9 wr)) (fun i _ => j - (intOf i).toNat)
                            case atStart => exact ⟨0, Nat.zero_le _, rfl, Below.refl _ _⟩
                            case round =>
                              obtain ⟨k, hk, rfl, hb⟩ := hrel
                              have HBW0 : Hid (Below w.heap.size w wr) := B9.out.trans (hb.out.mono B9.out.size)
                              by_cases hlt : k < j
                              · have h1 : k < l5.length := by have := HG5.out; omega
                                have h2 : k < l.length := by have := HJ2.out; omega
                                obtain ⟨b1, o1, ra1, hcell1⟩ := (ROW5.out.below hb.out) (by omega)
                                obtain ⟨b2, o2, ra2, hcell2⟩ := (HROW.out.below HBW0.out) (by omega)
                                subst ra1 ra2
                                obtain ⟨q0, q1⟩ := hcell1 k h1
                                obtain ⟨p0, p1⟩ := hcell2 k h2
                                obtain ⟨hek, hel⟩ := HSAME2.out k h1 h2 hlt
                                have hok1 := OURS5.out l5[k] (List.getElem_mem h1)
                                have hok2 := HOK.out l[k] (List.getElem_mem h2)
                                obtain ⟨x, hx⟩ : ∃ x, x = l5[k] := ⟨_, rfl⟩
                                obtain ⟨y, hy⟩ : ∃ y, y = l[k] := ⟨_, rfl⟩
                                rw [← hx] at q0 q1 hek hel hok1
                                rw [← hy] at p0 p1 hek hel hok2
                                have HEQ : Hid (∀ W, Below wr.heap.size wr W → Calls Tryd.prog 15 #[x.v, y.v] W fun e w' => e = .returned (.bool true) ∧ Below W.heap.size W w') := fun W hW => requal_yes x y W ((hok1.below hb.out).below hW) ((hok2.below HBW0.out).below hW) ⟨hek, hel⟩
                                obtain ⟨xk, xa, xl, xc⟩ := x
                                obtain ⟨yk, ya, yl, yc⟩ := y
                                unfold Part.v at q1 p1
                                unfold Rc.v Part.v at HEQ
                                simp only at q0 q1 p0 p1 HEQ
                                have hbl1 : b1 < wr.heap.size := World.block_lt_of_cell? wr _ q0
                                have hbl2 : b2 < wr.heap.size := World.block_lt_of_cell? wr _ p0
                                have tk : decide (k < j) = true := by simpa using hlt
                                have hki : (k : Int) < (j : Int) := by omega
                                have hlle : (k : Int) < (l.length : Int) := by omega
                                clear hcell1 hcell2 h1 h2 hx hy hok1 hok2 hek hel hlt
                                have HKB : Hid (∀ W, Below wr.heap.size wr W → W.cell? ⟨b1, o1 + k * 2, none⟩ = some (.int .i64 xk) ∧ W.cell? ⟨b1, o1 + k * 2 + 1, none⟩ = some (.slice xa xl.length xc) ∧ W.cell? ⟨b2, o2 + k * 2, none⟩ = some (.int .i64 yk) ∧ W.cell? ⟨b2, o2 + k * 2 + 1, none⟩ = some (.slice ya yl.length yc)) := fun W hW =>
                                  ⟨(hW.cell (p := ⟨b1, _, none⟩) hbl1).trans q0, (hW.cell (p := ⟨b1, _, none⟩) hbl1).trans q1, (hW.cell (p := ⟨b2, _, none⟩) hbl2).trans p0, (hW.cell (p := ⟨b2, _, none⟩) hbl2).trans p1⟩
                                have hdr : Below wr.heap.size wr wr.drew := (Below.refl _ _).drew
                                have hkg : (k : Int) < (L5 : Int) := by have := HG5.out; omega
                                go_wp2_with (fail)
                                go_region_held3 (fun w' => w'.cell? ⟨b1, o1 + k * 2, none⟩ = some (.int .i64 xk) ∧ w'.cell? ⟨b1, o1 + k * 2 + 1, none⟩ = some (.slice xa xl.length xc) ∧ w'.cell? ⟨b2, o2 + k * 2, none⟩ = some (.int .i64 yk) ∧ w'.cell? ⟨b2, o2 + k * 2 + 1, none⟩ = some (.slice ya yl.length yc))
                                  (first | exact ⟨q0, q1, p0, p1⟩ | exact HKB.out _ hbw | go_keep)
                                  ((first | (go_at_call 15; refine (HEQ.out _ hdr).mono ?_; rintro e4 w11 ⟨rfl, hb7⟩; have hbw : Below wr.heap.size wr w11 := hdr.trans hb7)))
                                have HBW : Hid (Below w9.heap.size w9 w11) := hb.out.trans (hbw.mono hb.out.size)
                                clear hb7 hbw q0 q1 p0 p1 HKB HEQ hdr hb
                                go_wp2_with (fail)
                                go_roundw
                                case rel => exact ⟨k + 1, by omega, by go_num, HBW⟩
                                case measure => simp [intOf]; omega
                              · have tk : decide (k < j) = false := by simpa using hlt
                                clear hlt hk
                                go_wp2_with (fail)
                                refine (HAW.out wr HBW0.out).mono ?_
                                rintro e8 w8 ⟨rfl, hb8⟩
                                have B8 : Hid (Below w.heap.size w w8) := HBW0.out.trans (hb8.mono HBW0.out.size)
                                clear hb8
                                go_wp2_with (fail)
                                go_ret
                                exact ⟨rfl, B8.out⟩


            · have tq1 : ((e3 : Int) == 0) = false := by simp; omega
              have tq2 : ((G : Int) == (cu : Int)) = false := by simp; omega
              have tq3 : (G == cu) = false := by simpa using hgq
              clear hez hgq HGC hgc
              go_wp2_with (fail)
              go_loopw [98] (fun i wr => ∃ (k : Nat), k ≤ j ∧ i = .int .i64 k ∧ Hid (Below w5.heap.size w5 wr)) (fun i _ => j - (intOf i).toNat)
              case atStart => exact ⟨0, Nat.zero_le _, rfl, Below.refl _ _⟩
              case round =>
                obtain ⟨k, hk, rfl, hb⟩ := hrel
                have HBW0 : Hid (Below w.heap.size w wr) := B5.out.trans (hb.out.mono B5.out.size)
                by_cases hlt : k < j
                · have h1 : k < l3.length := by have := HL3.out; omega
                  have h2 : k < l.length := by have := HJL.out; omega
                  obtain ⟨b1, o1, ra1, hcell1⟩ := (ROW3.out.below hb.out) (by omega)
                  obtain ⟨b2, o2, ra2, hcell2⟩ := (HROW.out.below HBW0.out) (by omega)
                  subst ra1 ra2
                  obtain ⟨q0, q1⟩ := hcell1 k h1
                  obtain ⟨p0, p1⟩ := hcell2 k h2
                  obtain ⟨hek, hel⟩ := HSAME.out k h1 h2 hlt
                  have hok1 := OURS.out l3[k] (List.getElem_mem h1)
                  have hok2 := HOK.out l[k] (List.getElem_mem h2)
                  obtain ⟨x, hx⟩ : ∃ x, x = l3[k] := ⟨_, rfl⟩
                  obtain ⟨y, hy⟩ : ∃ y, y = l[k] := ⟨_, rfl⟩
                  rw [← hx] at q0 q1 hek hel hok1
                  rw [← hy] at p0 p1 hek hel hok2
                  have HEQ : Hid (∀ W, Below wr.heap.size wr W → Calls Tryd.prog 15 #[x.v, y.v] W fun e w' => e = .returned (.bool true) ∧ Below W.heap.size W w') := fun W hW => requal_yes x y W ((hok1.below hb.out).below hW) ((hok2.below HBW0.out).below hW) ⟨hek, hel⟩
                  obtain ⟨xk, xa, xl, xc⟩ := x
                  obtain ⟨yk, ya, yl, yc⟩ := y
                  unfold Part.v at q1 p1
                  unfold Rc.v Part.v at HEQ
                  simp only at q0 q1 p0 p1 HEQ
                  have hbl1 : b1 < wr.heap.size := World.block_lt_of_cell? wr _ q0
                  have hbl2 : b2 < wr.heap.size := World.block_lt_of_cell? wr _ p0
                  have tk : decide (k < j) = true := by simpa using hlt
                  have hki : (k : Int) < (j : Int) := by omega
                  have hlle : (k : Int) < (l.length : Int) := by omega
                  clear hcell1 hcell2 h1 h2 hx hy hok1 hok2 hek hel hlt
                  have hal : Below wr.heap.size wr (wr.alloc (.cells #[.int .i64 xk, .slice xa xl.length xc] 27)) := (Below.refl _ _).alloc (Nat.le_refl _) _
                  have KB : Hid (Blk2 (wr.alloc (.cells #[.int .i64 xk, .slice xa xl.length xc] 27)) wr.heap.size [.int .i64 xk, .slice xa xl.length xc]) := blk2_new wr _ _
                  go_wp2_with (fail)
                  obtain ⟨gb, hgb⟩ : ∃ g, g = wr.heap.size := ⟨_, rfl⟩
                  rw [← hgb] at KB ⊢
                  generalize wr.alloc (.cells #[.int .i64 xk, .slice xa xl.length xc] 27) = w6 at *
                  have q0' : w6.cell? ⟨gb, 0, none⟩ = some (.int .i64 xk) := KB.out.cell2 0
                  have q1' : w6.cell? ⟨gb, 1, none⟩ = some (.slice xa xl.length xc) := KB.out.cell2 1
                  have p0' : w6.cell? ⟨b2, o2 + k * 2, none⟩ = some (.int .i64 yk) := (hal.cell (p := ⟨b2, _, none⟩) hbl2).trans p0
                  have p1' : w6.cell? ⟨b2, o2 + k * 2 + 1, none⟩ = some (.slice ya yl.length yc) := (hal.cell (p := ⟨b2, _, none⟩) hbl2).trans p1
                  have HEQ6 : Hid (∀ W, Below w6.heap.size w6 W → Calls Tryd.prog 15 #[.agg #[.int .i64 xk, .slice xa xl.length xc], .agg #[.int .i64 yk, .slice ya yl.length yc]] W fun e w' => e = .returned (.bool true) ∧ Below W.heap.size W w') := fun W hW => HEQ.out W (hal.trans (hW.mono hal.size))
                  have hgl6 : gb < w6.heap.size := World.block_lt_of_cell? w6 _ q0'
                  have hbl6 : b2 < w6.heap.size := by have := hal.size; omega
                  have HKB : Hid (∀ W, Below w6.heap.size w6 W → W.cell? ⟨gb, 0, none⟩ = some (.int .i64 xk) ∧ W.cell? ⟨gb, 1, none⟩ = some (.slice xa xl.length xc) ∧ W.cell? ⟨b2, o2 + k * 2, none⟩ = some (.int .i64 yk) ∧ W.cell? ⟨b2, o2 + k * 2 + 1, none⟩ = some (.slice ya yl.length yc)) := fun W hW =>
                    ⟨(hW.cell (p := ⟨gb, _, none⟩) hgl6).trans q0', (hW.cell (p := ⟨gb, _, none⟩) hgl6).trans q1', (hW.cell (p := ⟨b2, _, none⟩) hbl6).trans p0', (hW.cell (p := ⟨b2, _, none⟩) hbl6).trans p1'⟩
                  have hdr : Below w6.heap.size w6 w6.drew := (Below.refl _ _).drew
                  clear q0 q1 p0 p1 HEQ hgb
                  go_region_held3 (fun w' => w'.cell? ⟨gb, 0, none⟩ = some (.int .i64 xk) ∧ w'.cell? ⟨gb, 1, none⟩ = some (.slice xa xl.length xc) ∧ w'.cell? ⟨b2, o2 + k * 2, none⟩ = some (.int .i64 yk) ∧ w'.cell? ⟨b2, o2 + k * 2 + 1, none⟩ = some (.slice ya yl.length yc))
                    (first | exact ⟨q0', q1', p0', p1'⟩ | exact HKB.out _ hbw | go_keep)
                    ((first | (go_at_call 15; refine (HEQ6.out _ hdr).mono ?_; rintro e4 w7 ⟨rfl, hb7⟩; have hbw : Below w6.heap.size w6 w7 := hdr.trans hb7)))
                  have HBW : Hid (Below w5.heap.size w5 w7) := hb.out.trans ((hal.trans (hbw.mono hal.size)).mono hb.out.size)
                  clear hb7 hbw q0' q1' p0' p1' HKB HEQ6 hdr hal KB hb
                  go_wp2_with (fail)
                  go_roundw
                  case rel => exact ⟨k + 1, by omega, by go_num, HBW⟩
                  case measure => simp [intOf]; omega
                · have tk : decide (k < j) = false := by simpa using hlt
                  clear hlt hk
                  by_cases ha0 : at_ < 0
                  · have ta : decide (at_ < 0) = true := by simpa using ha0
                    clear ha0 ha1 ha2
                    go_wp2_with (fail)
                    refine (HAW.out wr HBW0.out).mono ?_
                    rintro e8 w8 ⟨rfl, hb8⟩
                    have B8 : Hid (Below w.heap.size w w8) := HBW0.out.trans (hb8.mono HBW0.out.size)
                    clear hb8
                    go_wp2_with (fail)
                    go_ret
                    exact ⟨rfl, B8.out⟩
                  · obtain ⟨an, rfl⟩ := Int.eq_ofNat_of_zero_le (show 0 ≤ at_ by omega)
                    have ta : decide ((an : Int) < 0) = false := by simp
                    by_cases hab : B ≤ an
                    · have tb : decide (B ≤ an) = true := by simpa using hab
                      have hab' : (B : Int) ≤ (an : Int) := by omega
                      clear ha0 ha1 ha2 hab
                      go_wp2_with (fail)
                      refine (HAW.out wr HBW0.out).mono ?_
                      rintro e8 w8 ⟨rfl, hb8⟩
                      have B8 : Hid (Below w.heap.size w w8) := HBW0.out.trans (hb8.mono HBW0.out.size)
                      clear hb8
                      go_wp2_with (fail)
                      go_ret
                      exact ⟨rfl, B8.out⟩
                    · have tb : decide (B ≤ an) = false := by simpa using hab
                      have hab' : (an : Int) < (B : Int) := by omega
                      have HAB : Hid (an < B) := by show _ < _; omega
                      by_cases hf0 : flip = 0
                      · have tf : ((flip : Int) == 0) = true := by simp; omega
                        clear ha0 ha1 ha2 hab hf0
                        go_wp2_with (fail)
                        refine (HAW.out wr HBW0.out).mono ?_
                        rintro e8 w8 ⟨rfl, hb8⟩
                        have B8 : Hid (Below w.heap.size w w8) := HBW0.out.trans (hb8.mono HBW0.out.size)
                        clear hb8
                        go_wp2_with (fail)
                        go_ret
                        exact ⟨rfl, B8.out⟩
                      · have tf : ((flip : Int) == 0) = false := by simp; omega
                        clear ha0 ha1 ha2 hab hf0
                        have hBl := HB.out
                        obtain ⟨gx, ox, hax, -⟩ := HATT.out (by have := HAB.out; omega)
                        obtain ⟨g2, hg2, hgo⟩ := HBLK.out _ hax
                        rw [hg2] at hax
                        subst hax
                        have BWR : Hid (Below w3.heap.size w3 wr) := B35.out.trans (hb.out.mono B35.out.size)
                        have ownr := HOWN.out.below BWR.out
                        have hanl : an < (bytesL l).length := by have := HAB.out; omega
                        obtain ⟨cb, fb⟩ := ownr.at_ hanl
                        have hxb := HBAR.out.at_ hanl
                        obtain ⟨x, hx⟩ : ∃ x, x = (bytesL l)[an] := ⟨_, rfl⟩
                        rw [← hx] at cb hxb
                        have hgl : g2 < wr.heap.size := World.block_lt_of_cell? wr _ cb
                        have HOWNR := Lib.hid ownr
                        clear hx hanl ownr hg2 hgo hBl
                        go_wp2_with (fail)
                        obtain ⟨zb, hzb, hbits⟩ := bits_u8 (x : Int) (flip : Int)
                        rw [hbits]
                        have hg2b := (HOWNR.out.block (g := g2) rfl).1
                        have OWN7 : Hid (Own (wr.setCell ⟨g2, an, none⟩ (.int .u8 (zb : Nat))) w.heap.size (.slice (some ⟨g2, 0, none⟩) B c2) ((bytesL l).set an zb)) := HOWNR.out.put an zb
                        have B7 : Hid (Below w.heap.size w (wr.setCell ⟨g2, an, none⟩ (.int .u8 (zb : Nat)))) := HBW0.out.setCell (p := ⟨g2, an, none⟩) hg2b _
                        have HZB : Hid (zb < 256) := hzb
                        clear hbits cb fb hg2b hgl hzb HOWNR hxb hb
                        generalize wr.setCell ⟨g2, an, none⟩ (.int .u8 (zb : Nat)) = w7 at *
                        go_loopw [18, 19, 133] (fun a n i wr => ∃ (k z j : Nat), k ≤ l.length ∧ i = .int .i64 k ∧ n = .int .i64 z ∧ a = .int .i64 j ∧ j ≤ 30 ∧ Hid (z = (bytesL (l.take k)).length) ∧ Hid (Count l an k j) ∧ Hid (Below w7.heap.size w7 wr)) (fun _ _ i _ => l.length - (intOf i).toNat)
                        case atStart => exact ⟨0, 0, 0, Nat.zero_le _, rfl, rfl, rfl, by omega, rfl, Count.start l an, Below.refl _ _⟩
                        case round =>
                          obtain ⟨k, z, j, hk, rfl, rfl, rfl, hj30, HZ, HC, hb⟩ := hrel
                          by_cases hlt : k < l.length
                          · have HBW0 : Hid (Below w.heap.size w wr) := B7.out.trans (hb.out.mono B7.out.size)
                            obtain ⟨rb, off, ra, hcell⟩ := (HROW.out.below HBW0.out) (by omega)
                            subst ra
                            obtain ⟨q0, q1⟩ := hcell k hlt
                            have hsn := bytesL_snoc hlt
                            have hle := bytesL_le (l := l.take k) (fun x hx => by have := H2.out x (List.mem_of_mem_take hx); omega)
                            have hx2 := H2.out l[k] (List.getElem_mem hlt)
                            rw [List.length_take, ← HZ.out] at hle
                            have hzs : (bytesL (l.take (k + 1))).length = z + (recB l[k].k.toNat l[k].p.l).length := by rw [hsn, List.length_append, HZ.out]
                            have hyes := fun h => HC.out.yes (k := k) h
                            have hno := fun h => HC.out.no (k := k) h
                            obtain ⟨x, hx⟩ : ∃ x, x = l[k] := ⟨_, rfl⟩
                            rw [← hx] at q0 q1 hx2 hzs
                            have hbl : rb < wr.heap.size := World.block_lt_of_cell? wr _ q0
                            obtain ⟨xk, xa, xl, xc⟩ := x
                            unfold Part.v at q1
                            simp only at q0 q1 hx2 hzs
                            have HSZ := Lib.hid (fun w => size_any (xl.length : Nat) w (by omega) (by omega))
                            have hszz : sizeI (xl.length : Nat) = ((recB xk.toNat xl).length : Int) := recB_size (by omega)
                            rw [hszz] at HSZ
                            have hrl := (recB_le (k := xk.toNat) (l := xl) (by omega)).1
                            obtain ⟨Z, hZ⟩ : ∃ Z, Z = (recB xk.toNat xl).length := ⟨_, rfl⟩
                            rw [← hZ] at HSZ hzs hrl
                            have HZ2 : Hid (z + Z = (bytesL (l.take (k + 1))).length) := hzs.symm
                            rw [hzs] at hyes hno
                            have HB2 : Hid (Below w7.heap.size w7 (wr.alloc (.cells #[.int .i64 xk, .slice xa xl.length xc] 27))) := hb.out.alloc hb.out.size _
                            have hzi : (z : Int) ≤ 150450 := by omega
                            have hZi : (Z : Int) ≤ 2015 := by omega
                            have hki : (k : Int) ≤ 30 := by omega
                            have hji : (j : Int) ≤ 30 := by omega
                            have HYES := Lib.hid hyes
                            have HNO := Lib.hid hno
                            have HJK : Hid (j ≤ 29) := by have := HC.out.le; show _ ≤ _; omega
                            clear hcell hx hsn hle hx2 hzs hyes hno hszz hrl hZ hb HC HZ
                            by_cases hf : z + Z ≤ an
                            · have tf : (z : Int) + (Z : Int) ≤ (an : Int) := by omega
                              obtain ⟨hc, hjk⟩ := HYES.out hf
                              have HC2 := Lib.hid hc
                              clear hc hjk hf HYES HNO
                              go_wp2_with (fail)
                              refine (HSZ.out _).mono ?_
                              rintro e w4 ⟨rfl, hb4⟩
                              have HBy : Hid (Below w7.heap.size w7 w4) := HB2.out.trans (hb4.mono HB2.out.size)
                              clear hb4 HB2
                              go_wp2_with (fail)
                              go_roundw
                              case rel => exact ⟨k + 1, z + Z, j + 1, by omega, by go_num, by go_num, by go_num, by have := HJK.out; omega, HZ2, HC2, HBy⟩
                              case measure => simp [intOf]; omega
                            · have tf : (an : Int) < (z : Int) + (Z : Int) := by omega
                              have HC2 := Lib.hid (HNO.out (by omega))
                              clear hf HYES HNO
                              go_wp2_with (fail)
                              refine (HSZ.out _).mono ?_
                              rintro e w4 ⟨rfl, hb4⟩
                              have HBy : Hid (Below w7.heap.size w7 w4) := HB2.out.trans (hb4.mono HB2.out.size)
                              clear hb4 HB2
                              go_wp2_with (fail)
                              go_roundw
                              case rel => exact ⟨k + 1, z + Z, j, by omega, by go_num, by go_num, rfl, by omega, HZ2, HC2, HBy⟩
                              case measure => simp [intOf]; omega
                          · obtain rfl : k = l.length := by omega
                            have hwh2 := HC.out.end_
                            have B8 : Hid (Below w.heap.size w wr) := B7.out.trans (hb.out.mono B7.out.size)
                            obtain ⟨r5, hr5⟩ := allS_flip HRA.out HZB.out hwh2
                            have own8 := OWN7.out.below hb.out
                            have hset : ((bytesL l).set an zb).length = B := by rw [List.length_set]; exact HB.out.symm
                            have hare8 := set_are HBAR.out (i := an) HZB.out
                            obtain ⟨a8, c8, e8, p8, -, -⟩ := own8.part hare8
                            rw [hset] at e8
                            simp only [Value.slice.injEq, true_and] at e8
                            obtain ⟨rfl, rfl⟩ := e8
                            have HAL := all_any ⟨some ⟨g2, 0, none⟩, (bytesL l).set an zb, c2⟩ wr p8 (tab_below HT.out B8.out) (by simp only [hset]; have := HBL.out; omega)
                            unfold AllQ at HAL
                            simp only [hset] at HAL
                            rw [hr5] at HAL
                            have HAL := Lib.hid HAL
                            obtain ⟨j2, hj2⟩ : ∃ j2, j2 = j := ⟨_, rfl⟩
                            have hjl2 : j ≤ l.length := hwh2.le
                            have HJ2 : Hid (j ≤ l.length) := hjl2
                            have hzl2 : (z : Int) ≤ 150450 := by
                              have := HZ.out
                              rw [List.take_length] at this
                              have := HBL.out
                              have := HB.out
                              omega
                            have hji2 : (j : Int) ≤ 30 := by omega
                            clear hwh2 hr5 own8 hset hare8 p8 hj2 hjl2 HC HZ hlt hk
                            go_wp2_with (fail)
                            refine HAL.out.mono ?_
                            rintro e9 w9 ⟨l5, v5, rfl, own5, ours5, hm, hb9⟩
                            obtain ⟨hll, hat⟩ := plainB_at hm
                            have hrn : (recsN (l.take j)).length = j := by have := HJ2.out; simp [recsN]; omega
                            rw [List.length_append, hrn] at hll
                            obtain ⟨A5, c5, rfl, hc5, row5⟩ := own5.row
                            have B9 : Hid (Below w.heap.size w w9) := B8.out.trans (hb9.mono B8.out.size)
                            have ROW5 := Lib.hid row5
                            have OURS5 := Lib.hid ours5.ok
                            have HAT5 := Lib.hid hat
                            obtain ⟨L5, hL5⟩ : ∃ L5, L5 = l5.length := ⟨_, rfl⟩
                            have HG5 : Hid (j ≤ l5.length ∧ L5 = l5.length ∧ j ≤ L5) := by show _ ∧ _; omega
                            have hgl5 : ¬ (L5 : Int) < (j : Int) := by omega
                            have hgd5 : decide (L5 < j) = false := by simp; omega
                            have hLc5 : L5 ≤ c5 := by omega
                            have HSAME2 : Hid (∀ (i : Nat) (h1 : i < l5.length) (h2 : i < l.length), i < j → l5[i].k = l[i].k ∧ l5[i].p.l = l[i].p.l) := fun i h1 h2 hij => by
                              have hrl : i < (recsN (l.take j) ++ r5).length := by rw [List.length_append]; simp [recsN]; omega
                              have hrl2 : i < (recsN (l.take j)).length := by simp [recsN]; omega
                              obtain ⟨e1, e2⟩ := HAT5.out i h1 hrl
                              have hr0 := rightR_ok (HRA.out l[i] (List.getElem_mem h2)).1
                              rw [List.getElem_append_left hrl2] at e1 e2
                              simp only [recsN, List.getElem_map, List.getElem_take] at e1 e2
                              exact ⟨by rw [e1]; omega, e2⟩
                            rw [← hL5]
                            clear hb9 own5 ours5 hm hll hat hrn hc5 row5 hL5 HAL hb
                            go_wp2_with (fail)
                            go_loopw [160] (fun i wr => ∃ (k : Nat), k ≤ j ∧ i = .int .i64 k ∧ Hid (Below w9.heap.size w9 wr)) (fun i _ => j - (intOf i).toNat)
                            case atStart => exact ⟨0, Nat.zero_le _, rfl, Below.refl _ _⟩
                            case round =>
                              obtain ⟨k, hk, rfl, hb⟩ := hrel
                              have HBW0 : Hid (Below w.heap.size w wr) := B9.out.trans (hb.out.mono B9.out.size)
                              by_cases hlt : k < j
                              · have h1 : k < l5.length := by have := HG5.out; omega
                                have h2 : k < l.length := by have := HJ2.out; omega
                                obtain ⟨b1, o1, ra1, hcell1⟩ := (ROW5.out.below hb.out) (by omega)
                                obtain ⟨b2, o2, ra2, hcell2⟩ := (HROW.out.below HBW0.out) (by omega)
                                subst ra1 ra2
                                obtain ⟨q0, q1⟩ := hcell1 k h1
                                obtain ⟨p0, p1⟩ := hcell2 k h2
                                obtain ⟨hek, hel⟩ := HSAME2.out k h1 h2 hlt
                                have hok1 := OURS5.out l5[k] (List.getElem_mem h1)
                                have hok2 := HOK.out l[k] (List.getElem_mem h2)
                                obtain ⟨x, hx⟩ : ∃ x, x = l5[k] := ⟨_, rfl⟩
                                obtain ⟨y, hy⟩ : ∃ y, y = l[k] := ⟨_, rfl⟩
                                rw [← hx] at q0 q1 hek hel hok1
                                rw [← hy] at p0 p1 hek hel hok2
                                have HEQ : Hid (∀ W, Below wr.heap.size wr W → Calls Tryd.prog 15 #[x.v, y.v] W fun e w' => e = .returned (.bool true) ∧ Below W.heap.size W w') := fun W hW => requal_yes x y W ((hok1.below hb.out).below hW) ((hok2.below HBW0.out).below hW) ⟨hek, hel⟩
                                obtain ⟨xk, xa, xl, xc⟩ := x
                                obtain ⟨yk, ya, yl, yc⟩ := y
                                unfold Part.v at q1 p1
                                unfold Rc.v Part.v at HEQ
                                simp only at q0 q1 p0 p1 HEQ
                                have hbl1 : b1 < wr.heap.size := World.block_lt_of_cell? wr _ q0
                                have hbl2 : b2 < wr.heap.size := World.block_lt_of_cell? wr _ p0
                                have tk : decide (k < j) = true := by simpa using hlt
                                have hki : (k : Int) < (j : Int) := by omega
                                have hlle : (k : Int) < (l.length : Int) := by omega
                                clear hcell1 hcell2 h1 h2 hx hy hok1 hok2 hek hel hlt
                                have HKB : Hid (∀ W, Below wr.heap.size wr W → W.cell? ⟨b1, o1 + k * 2, none⟩ = some (.int .i64 xk) ∧ W.cell? ⟨b1, o1 + k * 2 + 1, none⟩ = some (.slice xa xl.length xc) ∧ W.cell? ⟨b2, o2 + k * 2, none⟩ = some (.int .i64 yk) ∧ W.cell? ⟨b2, o2 + k * 2 + 1, none⟩ = some (.slice ya yl.length yc)) := fun W hW =>
                                  ⟨(hW.cell (p := ⟨b1, _, none⟩) hbl1).trans q0, (hW.cell (p := ⟨b1, _, none⟩) hbl1).trans q1, (hW.cell (p := ⟨b2, _, none⟩) hbl2).trans p0, (hW.cell (p := ⟨b2, _, none⟩) hbl2).trans p1⟩
                                have hdr : Below wr.heap.size wr wr.drew := (Below.refl _ _).drew
                                have hkg : (k : Int) < (L5 : Int) := by have := HG5.out; omega
                                go_wp2_with (fail)
                                go_region_held3 (fun w' => w'.cell? ⟨b1, o1 + k * 2, none⟩ = some (.int .i64 xk) ∧ w'.cell? ⟨b1, o1 + k * 2 + 1, none⟩ = some (.slice xa xl.length xc) ∧ w'.cell? ⟨b2, o2 + k * 2, none⟩ = some (.int .i64 yk) ∧ w'.cell? ⟨b2, o2 + k * 2 + 1, none⟩ = some (.slice ya yl.length yc))
                                  (first | exact ⟨q0, q1, p0, p1⟩ | exact HKB.out _ hbw | go_keep)
                                  ((first | (go_at_call 15; refine (HEQ.out _ hdr).mono ?_; rintro e4 w11 ⟨rfl, hb7⟩; have hbw : Below wr.heap.size wr w11 := hdr.trans hb7)))
                                have HBW : Hid (Below w9.heap.size w9 w11) := hb.out.trans (hbw.mono hb.out.size)
                                clear hb7 hbw q0 q1 p0 p1 HKB HEQ hdr hb
                                go_wp2_with (fail)
                                go_roundw
                                case rel => exact ⟨k + 1, by omega, by go_num, HBW⟩
                                case measure => simp [intOf]; omega
                              · have tk : decide (k < j) = false := by simpa using hlt
                                clear hlt hk
                                go_wp2_with (fail)
                                refine (HAW.out wr HBW0.out).mono ?_
                                rintro e8 w8 ⟨rfl, hb8⟩
                                have B8 : Hid (Below w.heap.size w w8) := HBW0.out.trans (hb8.mono HBW0.out.size)
                                clear hb8
                                go_wp2_with (fail)
                                go_ret
                                exact ⟨rfl, B8.out⟩


  · obtain ⟨E, hEE⟩ : ∃ E, E = firstE l := ⟨_, rfl⟩
    have hnv := hnil hE
    rw [← hEE] at hE ⊢
    subst hnv
    have t0 : (E != 0) = true := by simpa using hE
    clear hE hEE hnil hown hb3 hc1 hc2 ha1 ha2 HBY
    go_wp2_with (fail)
    refine (HAW.out w3 B3.out).mono ?_
    rintro e8 w8 ⟨rfl, hb8⟩
    have B8 : Hid (Below w.heap.size w w8) := B3.out.trans (hb8.mono B3.out.size)
    clear hb8
    go_wp2_with (fail)
    go_ret
    exact ⟨rfl, B8.out⟩
theorem torn_walk (A : Option Addr) (l : List Rc) (c : Nat) (cut at_ : Int) (flip : Nat) (w : World) (hr : RcRow w A l) (hok : ∀ x ∈ l, x.p.ok w) (hlen : l.length ≤ 9223372036854775807) (hc : -9223372036854775808 ≤ cut ∧ cut ≤ 9223372036854775807) (ha : -9223372036854775808 ≤ at_ ∧ at_ ≤ 9223372036854775807) (_ : flip < 256) (ht : TabAt w) :
    Calls Tryd.prog 6 #[tornV A l.length c cut at_ flip] w fun e w' => e = .returned (.bool true) ∧ Below w.heap.size w w' := by
  cases hs : smallB l with
  | true => exact torn_on A l c cut at_ flip w hr hok hs hc.1 hc.2 ha.1 ha.2 (by assumption) ht
  | false => exact torn_off A l c cut at_ flip w hr hlen hs ht
end Go.Proofs.YtoipokjoklhfjaaDoor
