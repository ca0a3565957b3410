/-
  The walk of the law RecAll.
-/
import Derived.Test.YtoipokjoklhfjaaDoorRcK
namespace Go.Proofs.YtoipokjoklhfjaaDoor
open Go.RowKit numb

set_option maxHeartbeats 1000000 in
theorem rall_long (q : Part) (w : World) (h : 5000 < q.l.length) (ht : TabAt w) :
    Calls Tryd.prog 5 #[.slice q.a q.l.length q.c] w fun e w' => e = .returned (.bool true) ∧ Below w.heap.size w w' := by
  obtain ⟨a, l, c⟩ := q
  simp only at h ⊢
  have t : decide ((5000 : Int) < (l.length : Int)) = true := by simp; omega
  clear h
  go_enter Tryd.func5, Tryd.ntmps5
  go_wp2_with (fail)
  refine (awake_any w ht).mono ?_
  rintro e w' ⟨rfl, hb⟩
  have B := Lib.hid hb
  clear hb ht
  go_wp2_with (fail)
  go_ret
  exact ⟨rfl, B.out⟩
theorem allS_len (b : List Nat) : (allS b).1.length ≤ b.length := by
  rw [allS]
  split
  · simp
  · split
    · simp
    · rename_i h1 h2
      have := allS_len (b.drop (nextS b).n)
      rw [List.length_drop] at this
      simp only [List.length_cons]
      omega
termination_by b.length
decreasing_by all_goals (rw [List.length_drop]; omega)
theorem plain_at {l : List Rc} {r : List (Nat × List Nat)} (h : l.map plainR = r.map toI) : l.length = r.length ∧ ∀ (i : Nat) (h1 : i < l.length) (h2 : i < r.length), l[i].k = (r[i].1 : Nat) ∧ l[i].p.l = r[i].2 := by
  have hl : l.length = r.length := by simpa using congrArg List.length h
  refine ⟨hl, fun i h1 h2 => ?_⟩
  have e : (l.map plainR)[i]? = (r.map toI)[i]? := by rw [h]
  simp only [List.getElem?_map, List.getElem?_eq_getElem h1, List.getElem?_eq_getElem h2, Option.map_some, Option.some.injEq, plainR, toI, Prod.mk.injEq] at e
  exact e
set_option maxRecDepth 100000 in
set_option maxHeartbeats 4000000 in
theorem rall_on (q : Part) (w : World) (hq : q.ok w) (h : q.l.length ≤ 5000) (ht : TabAt w) :
    Calls Tryd.prog 5 #[.slice q.a q.l.length q.c] w fun e w' => e = .returned (.bool true) ∧ Below w.heap.size w w' := by
  obtain ⟨A, b, c⟩ := q
  simp only at h ⊢
  have t : decide ((5000 : Int) < (b.length : Int)) = false := by simp; omega
  have HT := Lib.hid ht
  have HQ := Lib.hid hq
  have hb := hq.bytes
  simp only at hb
  have HN := Lib.hid (all_any ⟨A, b, c⟩ w hq ht (by simp only; omega))
  have HDN : Hid (∀ W, Calls Tryd.prog 19 #[.string (strOf b)] W (DAllQ b W)) := fun W => by
    have := dall_any (strOf b) W (by rw [strOf_size]; omega)
    rwa [natsOf_strOf hb] at this
  obtain ⟨X, hX⟩ : ∃ X, allS b = X := ⟨_, rfl⟩
  unfold AllQ at HN
  unfold DAllQ at HDN
  have hlen := allS_len b
  rw [hX] at HN HDN hlen
  obtain ⟨r, g, e⟩ := X
  simp only at HN HDN hlen
  have HLN : Hid (r.length ≤ 5000) := by show _ ≤ _; omega
  clear hlen
  clear hX hb hq ht h
  go_enter Tryd.func5, Tryd.ntmps5
  go_wp2_with (fail)
  refine HN.out.mono ?_
  rintro e1 w1 ⟨l, v, rfl, own, ours, hm, hb1⟩
  obtain ⟨hll, hat⟩ := plain_at hm
  obtain ⟨A1, c1, rfl, hc1, row1⟩ := own.row
  have B1 := Lib.hid hb1
  have ROW1 := Lib.hid row1
  have OURS := Lib.hid ours
  have HLL := Lib.hid hll
  have HAT := Lib.hid hat
  have hcv := conv_str w1 A b c (HQ.out.below B1.out).at_
  clear hb1 row1 ours own hat HN hm
  go_wp2_with (fail)
  refine (HDN.out w1).mono ?_
  rintro e2 w2 ⟨v2, rfl, own2, hb2⟩
  obtain ⟨A2, c2, rfl, hc2, row2⟩ := own2.row
  have B2 : Hid (Below w.heap.size w w2) := B1.out.trans (hb2.mono B1.out.size)
  have ROW2 : Hid (RcRow w2 A1 l) := ROW1.out.below hb2
  have DROW2 := Lib.hid row2
  have OURS2 : Hid (Ours w2 w.heap.size l) := OURS.out.below hb2
  have t1 : ((e : Int) != (e : Int)) = false := by simp
  have t2 : ((g : Int) != (g : Int)) = false := by simp
  obtain ⟨L, hL⟩ : ∃ L, L = l.length := ⟨_, rfl⟩
  have hLr : r.length = L := by omega
  have t3 : ((L : Int) != (L : Int)) = false := by simp
  rw [hLr]
  have HLL2 : Hid (l.length = L ∧ r.length = L) := ⟨hL.symm, hLr⟩
  have HLB : Hid (L ≤ 2000000000) := by have := HLN.out; show _ ≤ _; omega
  clear hb2 own2 row2 hcv hll hL hLr B1 ROW1 OURS HDN HLL
  have hl1 : L ≤ c1 := by have := HLL2.out.1; omega
  have hl2 : L ≤ c2 := by have := HLL2.out.2; omega
  have HL5 : Hid (L ≤ 2000000000) := HLB.out
  clear hc1 hc2 HLB
  go_wp2_with (fail)
  go_loopw [44] (fun i wr => ∃ (k : Nat), k ≤ L ∧ i = .int .i64 k ∧ Hid (Below w2.heap.size w2 wr)) (fun i _ => L - (intOf i).toNat)
  case atStart => exact ⟨0, Nat.zero_le _, rfl, Below.refl _ _⟩
  case round =>
    obtain ⟨k, hk, rfl, hb⟩ := hrel
    by_cases hlt : k < L
    · have h1 : k < l.length := by have := HLL2.out.1; omega
      have h2 : k < r.length := by have := HLL2.out.2; omega
      obtain ⟨b1, o1, ra1, hcell1⟩ := (ROW2.out.below hb.out) (by omega)
      obtain ⟨b2, o2, ra2, hcell2⟩ := (DROW2.out.below hb.out) (by omega)
      subst ra1 ra2
      obtain ⟨q0, q1⟩ := hcell1 k h1
      obtain ⟨p0, p1⟩ := hcell2 k h2
      obtain ⟨e1, e2⟩ := HAT.out k h1 h2
      have hok := OURS2.out.ok l[k] (List.getElem_mem h1)
      obtain ⟨x, hx⟩ : ∃ x, x = l[k] := ⟨_, rfl⟩
      obtain ⟨y, hy⟩ : ∃ y, y = r[k] := ⟨_, rfl⟩
      rw [← hx] at q0 q1 e1 e2 hok
      rw [← hy] at p0 p1 e1 e2
      obtain ⟨xk, xa, xl, xc⟩ := x
      obtain ⟨yk, yl⟩ := y
      unfold Part.v at q1
      simp only at q0 q1 p0 p1 e1 e2 hok
      subst e1 e2
      have HOK : Hid ((⟨xa, xl, xc⟩ : Part).ok wr) := hok.below hb.out
      have hki : (k : Int) < (L : Int) := by omega
      have hLi : (L : Int) ≤ 2000000000 := by have := HL5.out; omega
      have HRF : Hid (∀ W, Below wr.heap.size wr W → Calls Tryd.prog 11 #[.agg #[.int .i64 (yk : Nat), .slice xa xl.length xc]] W fun e w' => e = .returned (.agg #[.int .i64 (yk : Nat), .string (strOf xl)]) ∧ Below W.heap.size W w') := fun W hW => ref_rec_any ⟨(yk : Nat), xa, xl, xc⟩ W (HOK.out.below hW)
      have hbl1 : b1 < wr.heap.size := World.block_lt_of_cell? wr _ q0
      have hbl2 : b2 < wr.heap.size := World.block_lt_of_cell? wr _ p0
      have HKB : Hid (∀ W, Below wr.heap.size wr W → W.cell? ⟨b1, o1 + k * 2, none⟩ = some (.int .i64 (yk : Nat)) ∧ W.cell? ⟨b1, o1 + k * 2 + 1, none⟩ = some (.slice xa xl.length xc) ∧ W.cell? ⟨b2, o2 + k * 2, none⟩ = some (.int .i64 (yk : Nat)) ∧ W.cell? ⟨b2, o2 + k * 2 + 1, none⟩ = some (.string (strOf xl))) := fun W hW =>
        ⟨(hW.cell (p := ⟨b1, _, none⟩) hbl1).trans q0, (hW.cell (p := ⟨b1, _, none⟩) hbl1).trans q1, (hW.cell (p := ⟨b2, _, none⟩) hbl2).trans p0, (hW.cell (p := ⟨b2, _, none⟩) hbl2).trans p1⟩
      have hdr : Below wr.heap.size wr wr.drew := (Below.refl _ _).drew
      have tk : decide (k < L) = true := by simpa using hlt
      clear hcell1 hcell2 h1 h2 hx hy hok
      generalize strOf xl = S at *
      go_wp2_with (fail)
      go_region_held3 (fun w' => w'.cell? ⟨b1, o1 + k * 2, none⟩ = some (.int .i64 (yk : Nat)) ∧ w'.cell? ⟨b1, o1 + k * 2 + 1, none⟩ = some (.slice xa xl.length xc) ∧ w'.cell? ⟨b2, o2 + k * 2, none⟩ = some (.int .i64 (yk : Nat)) ∧ w'.cell? ⟨b2, o2 + k * 2 + 1, none⟩ = some (.string S))
        (first | exact ⟨q0, q1, p0, p1⟩ | exact HKB.out _ hbw | go_keep)
        ((first | (go_at_call 11; refine (HRF.out _ hdr).mono ?_; rintro e4 w5 ⟨rfl, hb5⟩; have hbw : Below wr.heap.size wr w5 := hdr.trans hb5)))
      have HBW : Hid (Below w2.heap.size w2 w5) := hb.out.trans (hbw.mono hb.out.size)
      clear hb5 hbw q0 q1 p0 p1 HKB HRF hdr
      go_wp2_with (fail)
      exact ⟨⟨k + 1, by omega, by go_num, HBW⟩, by simp [intOf]; omega⟩
    · have B3 : Hid (Below w.heap.size w wr) := B2.out.trans (hb.out.mono B2.out.size)
      have tk : decide (k < L) = false := by simpa using hlt
      go_wp2_with (fail)
      refine (awake_any wr (tab_below HT.out B3.out)).mono ?_
      rintro e4 w4 ⟨rfl, hb4⟩
      have B4 : Hid (Below w.heap.size w w4) := B3.out.trans (hb4.mono B3.out.size)
      clear hb4
      go_wp2_with (fail)
      go_ret
      exact ⟨rfl, B4.out⟩
theorem rall_walk (q : Part) (w : World) (hq : q.ok w) (ht : TabAt w) :
    Calls Tryd.prog 5 #[.slice q.a q.l.length q.c] w fun e w' => e = .returned (.bool true) ∧ Below w.heap.size w w' := by
  by_cases h : q.l.length ≤ 5000
  · exact rall_on q w hq h ht
  · exact rall_long q w (by omega) ht
end Go.Proofs.YtoipokjoklhfjaaDoor
