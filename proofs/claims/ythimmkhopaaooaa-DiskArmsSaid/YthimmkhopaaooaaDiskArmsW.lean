/-
  The walk of the law DiskArms.
-/
import Derived.Test.YthimmkhopaaooaaDkS
namespace Go.Proofs.Ythimmkhopaaooaa
open Go.RowKit omap

/-- how a disk stands that was armed for the N-th command, behind j of them -/
structure ArmI (N j : Nat) (d : Dk) : Prop where
  steps : d.p.steps = min j N
  down : d.p.down = decide (N ≤ j)
  left : ¬ N ≤ j → d.p.left = N - j
  lim : N ≤ j → d.p.left ≤ 9223372036854775807
theorem ArmI.step {N j : Nat} {d : Dk} (h : ArmI N j d) {F G : Fs → Int × Fs} (hF : ∀ fs, (F fs).1 ≠ 24) : ArmI N (j + 1) (cmdS F G d).2 ∧ ((cmdS F G d).1 == 24) = decide (N ≤ j + 1) := by
  obtain ⟨h1, h2, h3, h5⟩ := h
  unfold cmdS
  by_cases hd : N ≤ j
  · have hdn : d.p.down = true := by rw [h2]; simpa using hd
    rw [if_pos hdn]
    have h4 : N ≤ j + 1 := by omega
    exact ⟨⟨by rw [h1]; omega, by rw [h2]; simp [hd, h4], fun h => absurd h4 h, fun _ => h5 hd⟩, by simp [h4]⟩
  · have hdn : ¬ d.p.down = true := by rw [h2]; simpa using hd
    rw [if_neg hdn]
    have hl := h3 hd
    by_cases h1' : d.p.left = 1
    · rw [if_pos h1']
      have h4 : N ≤ j + 1 := by omega
      exact ⟨⟨by simp only; omega, by simp [h4], fun h => absurd h4 h, fun _ => by simp⟩, by simp [h4]⟩
    · rw [if_neg h1']
      have h4 : ¬ N ≤ j + 1 := by omega
      refine ⟨⟨by simp only; omega, by simp [h4], fun _ => by simp only; omega, fun h => absurd h h4⟩, ?_⟩
      simp only [h4, decide_false, beq_eq_false_iff_ne]
      exact hF _
theorem cmdS_cap (F G : Fs → Int × Fs) (d : Dk) : (cmdS F G d).2.cap = d.cap := by
  unfold cmdS
  split
  · rfl
  · split <;> rfl
theorem ne24_1 {k : Nm} (fs : Fs) : (createS k fs).1 ≠ 24 := by
  unfold createS
  split
  · simp
  · split
    · simp
    · split <;> simp
theorem ne24_2 {cap : Nat} {k : Nm} {l : List Nat} (fs : Fs) : (writeS cap k l fs).1 ≠ 24 := by
  unfold writeS
  split
  · simp
  · split <;> simp
theorem ne24_3 {k : Nm} (fs : Fs) : (syncS k fs).1 ≠ 24 := by
  unfold syncS
  split <;> simp
theorem ne24_4 {k : Nm} (fs : Fs) : (removeS k fs).1 ≠ 24 := by
  unfold removeS
  split <;> simp
theorem ne24_5 {k j : Nm} (fs : Fs) : (renameS k j fs).1 ≠ 24 := by
  unfold renameS
  split
  · simp
  · split
    · simp
    · split <;> simp
theorem arms_new : (ofS 500 []).1 = 0 := by rfl
theorem arms_fs : (ofS 500 []).2 = [] := by rfl
set_option maxRecDepth 100000 in
set_option maxHeartbeats 1000000 in
theorem arms_off (A : Option Addr) (l : List Cm) (c : Nat) (n : Int) (w : World) (hr : CmRow w A l) (hlen : l.length ≤ 9223372036854775807) (hs : smallB l = false ∨ n < 1) :
    Calls Try.prog 7 #[.slice A l.length c, .int .i64 n] w fun e w' => e = .returned (.bool true) ∧ Below w.heap.size w w' := by
  have HS := Lib.hid (small_any A l c w hr hlen)
  clear hr hlen
  cases hb : smallB l with
  | false =>
    rw [hb] at HS
    clear hs hb
    go_enter Try.func7, Try.ntmps7
    go_wp2_with (fail)
    refine HS.out.mono ?_
    rintro r w1 ⟨rfl, hb1⟩
    have HB1 := Lib.hid hb1
    clear hb1 HS
    go_wp2_with (fail)
    refine (awake_any w1).mono ?_
    rintro r w2 ⟨rfl, hb2⟩
    have HB2 := Lib.hid (HB1.out.trans (hb2.mono HB1.out.size))
    clear hb2 HB1
    go_wp2_with (fail)
    go_ret
    exact ⟨rfl, HB2.out⟩
  | true =>
    have hn : n < 1 := hs.resolve_left (by rw [hb]; simp)
    have tn : decide (n < 1) = true := by simpa using hn
    rw [hb] at HS
    clear hs hb hn
    go_enter Try.func7, Try.ntmps7
    go_wp2_with (fail)
    refine HS.out.mono ?_
    rintro r w1 ⟨rfl, hb1⟩
    have HB1 := Lib.hid hb1
    clear hb1 HS
    go_wp2_with (fail)
    refine (awake_any w1).mono ?_
    rintro r w2 ⟨rfl, hb2⟩
    have HB2 := Lib.hid (HB1.out.trans (hb2.mono HB1.out.size))
    clear hb2 HB1
    go_wp2_with (fail)
    go_ret
    exact ⟨rfl, HB2.out⟩
set_option maxRecDepth 100000 in
set_option maxHeartbeats 16000000 in
theorem arms_on (A : Option Addr) (l : List Cm) (c : Nat) (N : Nat) (w : World) (hr : CmRow w A l) (hx : ∀ x ∈ l, x.ok w) (hs : smallB l = true) (hN : 1 ≤ N) (hN2 : (N : Int) ≤ 9223372036854775807) :
    Calls Try.prog 7 #[.slice A l.length c, .int .i64 (N : Nat)] w fun e w' => e = .returned (.bool true) ∧ Below w.heap.size w w' := by
  have hll : l.length ≤ 60 := by
    unfold smallB at hs
    simp only [Bool.and_eq_true, decide_eq_true_eq] at hs
    exact hs.2
  have hall : ∀ x ∈ l, smallC x = true := by
    unfold smallB at hs
    simp only [Bool.and_eq_true] at hs
    exact fun x hx => List.all_eq_true.1 hs.1 x hx
  have HS := Lib.hid (small_any A l c w hr (by omega))
  rw [hs] at HS
  have tn : decide ((N : Int) < 1) = false := by simp; omega
  have HROW := Lib.hid hr
  have HX := Lib.hid hx
  have HALL := Lib.hid hall
  have HN2 := Lib.hid hN2
  clear hr hx hs hall hN2
  go_enter Try.func7, Try.ntmps7
  go_wp2_with (fail)
  refine HS.out.mono ?_
  rintro r w1 ⟨rfl, hb1⟩
  have HB1 := Lib.hid hb1
  clear hb1 HS
  go_wp2_with (fail)
  refine (new_any 500 w1).mono ?_
  rintro r w2 ⟨hb2, hm⟩
  rw [if_pos arms_new, arms_fs] at hm
  obtain ⟨b, S, rfl, h1, h2⟩ := hm
  have H2 : Hid (Held w w2 b S ⟨⟨0, 0, false⟩, 500, []⟩) := ⟨h1, HB1.out.trans (hb2.mono HB1.out.size), fun g hg => Nat.le_trans HB1.out.size (h2 g hg)⟩
  clear hb2 h1 h2 HB1
  go_wp2_with (fail)
  refine (arm_cmd H2.out.disk (N : Int)).mono ?_
  rintro r w3 ⟨rfl, k1, k2⟩
  have H3 := Lib.hid (H2.out.turn k1 k2)
  have HI0 : Hid (ArmI N 0 { (⟨⟨0, 0, false⟩, 500, []⟩ : Dk) with p := { (⟨⟨0, 0, false⟩, 500, []⟩ : Dk).p with left := if (⟨⟨0, 0, false⟩, 500, []⟩ : Dk).p.down then (⟨⟨0, 0, false⟩, 500, []⟩ : Dk).p.left else (N : Int).toNat } }) :=
    ⟨by simp, by simp; omega, fun _ => by simp, fun h => by omega⟩
  have HC0 : Hid (({ (⟨⟨0, 0, false⟩, 500, []⟩ : Dk) with p := { (⟨⟨0, 0, false⟩, 500, []⟩ : Dk).p with left := if (⟨⟨0, 0, false⟩, 500, []⟩ : Dk).p.down then (⟨⟨0, 0, false⟩, 500, []⟩ : Dk).p.left else (N : Int).toNat } } : Dk).cap = 500) := rfl
  clear k1 k2 H2
  generalize ({ (⟨⟨0, 0, false⟩, 500, []⟩ : Dk) with p := { (⟨⟨0, 0, false⟩, 500, []⟩ : Dk).p with left := if (⟨⟨0, 0, false⟩, 500, []⟩ : Dk).p.down then (⟨⟨0, 0, false⟩, 500, []⟩ : Dk).p.left else (N : Int).toNat } } : Dk) = d3 at *
  go_wp2_with (fail)
  go_loopw [7, 36] (fun x i wr => ∃ (k j : Nat) (S : List Nat) (d : Dk), k ≤ l.length ∧ j ≤ k ∧ i = .int .i64 k ∧ x = .int .i64 j ∧ Hid (Held w wr b S d) ∧ Hid (ArmI N j d) ∧ Hid (d.cap = 500)) (fun _ i _ => l.length - (intOf i).toNat)
  case atStart => exact ⟨0, 0, S, d3, Nat.zero_le _, Nat.le_refl _, rfl, rfl, H3.out, HI0.out, HC0.out⟩
  case round =>
    obtain ⟨k, j, S, d, hk, hjk, rfl, rfl, HH, HI, HCAP⟩ := hrel
    have hkb : (k : Int) ≤ 60 := by omega
    have hjb : (j : Int) ≤ 60 := by omega
    by_cases hlt : k < l.length
    · obtain ⟨rb, off, ra, hcell⟩ := (HROW.out.below HH.out.below) (by omega)
      subst ra
      obtain ⟨q0, q1, q2, q3, q4, q5, q6⟩ := hcell k hlt
      have hok := HX.out l[k] (List.getElem_mem hlt)
      have hsm := HALL.out l[k] (List.getElem_mem hlt)
      obtain ⟨x, hx⟩ : ∃ x, x = l[k] := ⟨_, rfl⟩
      rw [← hx] at q0 q1 q2 q3 q4 q5 q6 hok hsm
      have hbl : rb < wr.heap.size := World.block_lt_of_cell? wr _ q0
      obtain ⟨s1, s2, s3, s4, s5⟩ := smallC_iff.1 hsm
      obtain ⟨kind, name, to, data, more, no, cA, cs, cc⟩ := x
      unfold Part.v at q3 q4
      simp only at q0 q1 q2 q3 q4 q5 q6 s1 s2 s3 s4 s5
      have HNA : Hid (name.size ≤ 1000) := by show _ ≤ _; omega
      have HNT : Hid (to.size ≤ 1000) := by show _ ≤ _; omega
      have HST : Hid (d.p.steps ≤ 4611686018427387904) := by
        show _ ≤ _
        have := HI.out.steps
        omega
      have HLE : Hid (d.p.left ≤ 9223372036854775807) := by
        show _ ≤ _
        have h1 := HN2.out
        by_cases hd : N ≤ j
        · exact HI.out.lim hd
        · have := HI.out.left hd
          omega
      have HPD : Hid (data.ok wr) := hok.data.below HH.out.below
      have HAD : Hid (Apart S data.a data.l.length) := fun hn x hx hm => by
        obtain ⟨pb, po, pe, pc⟩ := hok.data.at_ hn
        have h1 := World.block_lt_of_cell? w _ (pc 0 hn)
        have h2 := HH.out.base _ hm
        simp only at pe
        rw [pe] at hx
        obtain rfl := Option.some.inj hx
        simp only at h1 h2
        omega
      clear hcell hx hok hsm s1 s2 s3 s4 s5
      rcases (show kind = 1 ∨ kind = 2 ∨ kind = 3 ∨ kind = 4 ∨ kind = 5 ∨ (kind ≠ 1 ∧ kind ≠ 2 ∧ kind ≠ 3 ∧ kind ≠ 4 ∧ kind ≠ 5) by omega) with hk1 | hk1 | hk1 | hk1 | hk1 | hk1
      · have tk : kind = 1 := by omega
        subst tk
        go_wp2_with (fail)
        refine (create_cmd b S d name _ (HH.out.disk.alloc _) HNA.out HST.out HLE.out).mono ?_
        rintro r w2 hcm
        obtain ⟨rfl, S2, h2⟩ := (HH.out.alloc _).cmd hcm
        obtain ⟨i1, i2⟩ := HI.out.step (F := createS name.data.toList) (G := idS) ne24_1
        have HH2 := Lib.hid h2
        have HI2 := Lib.hid i1
        have hcap2 : Hid ((cmdS (createS name.data.toList) (idS) d).2.cap = 500) := (cmdS_cap _ _ _).trans HCAP.out
        clear hcm h2 i1
        generalize cmdS (createS name.data.toList) (idS) d = rr at *
        obtain ⟨en, d2⟩ := rr
        simp only at i2 HH2 HI2 hcap2 ⊢
        have hI := HI2.out
        obtain ⟨hi1, hi2, _, _⟩ := hI
        by_cases hfull : N ≤ j + 1
        · have hen : en = 24 := by simpa [hfull] using i2
          subst hen
          have hd2 : d2.p.down = true := by rw [hi2]; simp [hfull]
          have hs2 : (d2.p.steps : Int) = (N : Int) := by omega
          have tg : decide ((N : Int) ≤ (j : Int) + 1) = true := by simp; omega
          have tmin : min ((j : Int) + 1) (N : Int) = (N : Int) := by omega
          have hj1 : (j : Int) + 1 ≤ 100 := by omega
          clear i2 hi1 hi2 hfull
          go_wp2_with (fail)
          refine (down_cmd HH2.out.disk).mono ?_
          rintro r w3 ⟨rfl, rfl⟩
          rw [hd2]
          go_wp2_with (fail)
          refine (steps_cmd HH2.out.disk).mono ?_
          rintro r w3 ⟨rfl, rfl⟩
          rw [hs2]
          go_wp2_with (fail)
          go_roundw
          case rel => exact ⟨k + 1, j + 1, S2, d2, by omega, by omega, by go_num, by go_num, HH2.out, HI2.out, hcap2.out⟩
          case measure => simp [intOf]; omega
        · have hen : (en == 24) = false := by simpa [hfull] using i2
          have hd2 : d2.p.down = false := by rw [hi2]; simp [hfull]
          have hs2 : (d2.p.steps : Int) = (j : Int) + 1 := by omega
          have tg : decide ((N : Int) ≤ (j : Int) + 1) = false := by simp; omega
          have tmin : min ((j : Int) + 1) (N : Int) = (j : Int) + 1 := by omega
          have hj1 : (j : Int) + 1 ≤ 100 := by omega
          clear i2 hi1 hi2 hfull
          go_wp2_with (fail)
          refine (down_cmd HH2.out.disk).mono ?_
          rintro r w3 ⟨rfl, rfl⟩
          rw [hd2]
          go_wp2_with (fail)
          refine (steps_cmd HH2.out.disk).mono ?_
          rintro r w3 ⟨rfl, rfl⟩
          rw [hs2]
          go_wp2_with (fail)
          go_roundw
          case rel => exact ⟨k + 1, j + 1, S2, d2, by omega, by omega, by go_num, by go_num, HH2.out, HI2.out, hcap2.out⟩
          case measure => simp [intOf]; omega
      · have tk : kind = 2 := by omega
        subst tk
        go_wp2_with (fail)
        have hb2 : Below wr.heap.size wr ((wr.alloc (.cells #[.int .i64 2, .string name, .string to, .slice data.a data.l.length data.c, .slice more.a more.l.length more.c, .int .i64 no, .slice cA cs.length cc] 38)).alloc (.cells #[.slice data.a data.l.length data.c] 35)) := ((Below.refl _ _).alloc (Nat.le_refl _) _).alloc (by simp) _
        have hrow : Row Part.v ((wr.alloc (.cells #[.int .i64 2, .string name, .string to, .slice data.a data.l.length data.c, .slice more.a more.l.length more.c, .int .i64 no, .slice cA cs.length cc] 38)).alloc (.cells #[.slice data.a data.l.length data.c] 35)) (some ⟨wr.heap.size + 1, 0, none⟩) [data] := by
          have := parts_new (wr.alloc (.cells #[.int .i64 2, .string name, .string to, .slice data.a data.l.length data.c, .slice more.a more.l.length more.c, .int .i64 no, .slice cA cs.length cc] 38)) [data] 35
          rw [show (wr.alloc (.cells #[.int .i64 2, .string name, .string to, .slice data.a data.l.length data.c, .slice more.a more.l.length more.c, .int .i64 no, .slice cA cs.length cc] 38)).heap.size = wr.heap.size + 1 by simp] at this
          exact this
        have hfl : flat [data] = data.l := by simp [flat]
        have hA := append_cmd b S d name (some ⟨wr.heap.size + 1, 0, none⟩) [data] 1 _ (HH.out.disk.below hb2) HNA.out HST.out HLE.out hrow (apart_new HH.out.disk (by omega) _) (fun q hq => by
          obtain rfl := List.mem_singleton.1 hq
          exact ⟨HPD.out.below hb2, HAD.out⟩) (by simp)
        rw [hfl] at hA
        refine hA.mono ?_
        rintro r w2 hcm
        obtain ⟨rfl, S2, h2⟩ := (HH.out.later hb2).cmd hcm
        obtain ⟨i1, i2⟩ := HI.out.step (F := writeS d.cap name.data.toList data.l) (G := writeS d.cap name.data.toList data.l) ne24_2
        have HH2 := Lib.hid h2
        have HI2 := Lib.hid i1
        have hcap2 : Hid ((cmdS (writeS d.cap name.data.toList data.l) (writeS d.cap name.data.toList data.l) d).2.cap = 500) := (cmdS_cap _ _ _).trans HCAP.out
        clear hcm h2 i1 hrow hfl hA hb2
        generalize cmdS (writeS d.cap name.data.toList data.l) (writeS d.cap name.data.toList data.l) d = rr at *
        obtain ⟨en, d2⟩ := rr
        simp only at i2 HH2 HI2 hcap2 ⊢
        have hI := HI2.out
        obtain ⟨hi1, hi2, _, _⟩ := hI
        by_cases hfull : N ≤ j + 1
        · have hen : en = 24 := by simpa [hfull] using i2
          subst hen
          have hd2 : d2.p.down = true := by rw [hi2]; simp [hfull]
          have hs2 : (d2.p.steps : Int) = (N : Int) := by omega
          have tg : decide ((N : Int) ≤ (j : Int) + 1) = true := by simp; omega
          have tmin : min ((j : Int) + 1) (N : Int) = (N : Int) := by omega
          have hj1 : (j : Int) + 1 ≤ 100 := by omega
          clear i2 hi1 hi2 hfull
          go_wp2_with (fail)
          refine (down_cmd HH2.out.disk).mono ?_
          rintro r w3 ⟨rfl, rfl⟩
          rw [hd2]
          go_wp2_with (fail)
          refine (steps_cmd HH2.out.disk).mono ?_
          rintro r w3 ⟨rfl, rfl⟩
          rw [hs2]
          go_wp2_with (fail)
          go_roundw
          case rel => exact ⟨k + 1, j + 1, S2, d2, by omega, by omega, by go_num, by go_num, HH2.out, HI2.out, hcap2.out⟩
          case measure => simp [intOf]; omega
        · have hen : (en == 24) = false := by simpa [hfull] using i2
          have hd2 : d2.p.down = false := by rw [hi2]; simp [hfull]
          have hs2 : (d2.p.steps : Int) = (j : Int) + 1 := by omega
          have tg : decide ((N : Int) ≤ (j : Int) + 1) = false := by simp; omega
          have tmin : min ((j : Int) + 1) (N : Int) = (j : Int) + 1 := by omega
          have hj1 : (j : Int) + 1 ≤ 100 := by omega
          clear i2 hi1 hi2 hfull
          go_wp2_with (fail)
          refine (down_cmd HH2.out.disk).mono ?_
          rintro r w3 ⟨rfl, rfl⟩
          rw [hd2]
          go_wp2_with (fail)
          refine (steps_cmd HH2.out.disk).mono ?_
          rintro r w3 ⟨rfl, rfl⟩
          rw [hs2]
          go_wp2_with (fail)
          go_roundw
          case rel => exact ⟨k + 1, j + 1, S2, d2, by omega, by omega, by go_num, by go_num, HH2.out, HI2.out, hcap2.out⟩
          case measure => simp [intOf]; omega
      · have tk : kind = 3 := by omega
        subst tk
        go_wp2_with (fail)
        refine (sync_cmd b S d name _ (HH.out.disk.alloc _) HNA.out HST.out HLE.out).mono ?_
        rintro r w2 hcm
        obtain ⟨rfl, S2, h2⟩ := (HH.out.alloc _).cmd hcm
        obtain ⟨i1, i2⟩ := HI.out.step (F := syncS name.data.toList) (G := idS) ne24_3
        have HH2 := Lib.hid h2
        have HI2 := Lib.hid i1
        have hcap2 : Hid ((cmdS (syncS name.data.toList) (idS) d).2.cap = 500) := (cmdS_cap _ _ _).trans HCAP.out
        clear hcm h2 i1
        generalize cmdS (syncS name.data.toList) (idS) d = rr at *
        obtain ⟨en, d2⟩ := rr
        simp only at i2 HH2 HI2 hcap2 ⊢
        have hI := HI2.out
        obtain ⟨hi1, hi2, _, _⟩ := hI
        by_cases hfull : N ≤ j + 1
        · have hen : en = 24 := by simpa [hfull] using i2
          subst hen
          have hd2 : d2.p.down = true := by rw [hi2]; simp [hfull]
          have hs2 : (d2.p.steps : Int) = (N : Int) := by omega
          have tg : decide ((N : Int) ≤ (j : Int) + 1) = true := by simp; omega
          have tmin : min ((j : Int) + 1) (N : Int) = (N : Int) := by omega
          have hj1 : (j : Int) + 1 ≤ 100 := by omega
          clear i2 hi1 hi2 hfull
          go_wp2_with (fail)
          refine (down_cmd HH2.out.disk).mono ?_
          rintro r w3 ⟨rfl, rfl⟩
          rw [hd2]
          go_wp2_with (fail)
          refine (steps_cmd HH2.out.disk).mono ?_
          rintro r w3 ⟨rfl, rfl⟩
          rw [hs2]
          go_wp2_with (fail)
          go_roundw
          case rel => exact ⟨k + 1, j + 1, S2, d2, by omega, by omega, by go_num, by go_num, HH2.out, HI2.out, hcap2.out⟩
          case measure => simp [intOf]; omega
        · have hen : (en == 24) = false := by simpa [hfull] using i2
          have hd2 : d2.p.down = false := by rw [hi2]; simp [hfull]
          have hs2 : (d2.p.steps : Int) = (j : Int) + 1 := by omega
          have tg : decide ((N : Int) ≤ (j : Int) + 1) = false := by simp; omega
          have tmin : min ((j : Int) + 1) (N : Int) = (j : Int) + 1 := by omega
          have hj1 : (j : Int) + 1 ≤ 100 := by omega
          clear i2 hi1 hi2 hfull
          go_wp2_with (fail)
          refine (down_cmd HH2.out.disk).mono ?_
          rintro r w3 ⟨rfl, rfl⟩
          rw [hd2]
          go_wp2_with (fail)
          refine (steps_cmd HH2.out.disk).mono ?_
          rintro r w3 ⟨rfl, rfl⟩
          rw [hs2]
          go_wp2_with (fail)
          go_roundw
          case rel => exact ⟨k + 1, j + 1, S2, d2, by omega, by omega, by go_num, by go_num, HH2.out, HI2.out, hcap2.out⟩
          case measure => simp [intOf]; omega
      · have tk : kind = 4 := by omega
        subst tk
        go_wp2_with (fail)
        refine (remove_cmd b S d name _ (HH.out.disk.alloc _) HNA.out HST.out HLE.out).mono ?_
        rintro r w2 hcm
        obtain ⟨rfl, S2, h2⟩ := (HH.out.alloc _).cmd hcm
        obtain ⟨i1, i2⟩ := HI.out.step (F := removeS name.data.toList) (G := idS) ne24_4
        have HH2 := Lib.hid h2
        have HI2 := Lib.hid i1
        have hcap2 : Hid ((cmdS (removeS name.data.toList) (idS) d).2.cap = 500) := (cmdS_cap _ _ _).trans HCAP.out
        clear hcm h2 i1
        generalize cmdS (removeS name.data.toList) (idS) d = rr at *
        obtain ⟨en, d2⟩ := rr
        simp only at i2 HH2 HI2 hcap2 ⊢
        have hI := HI2.out
        obtain ⟨hi1, hi2, _, _⟩ := hI
        by_cases hfull : N ≤ j + 1
        · have hen : en = 24 := by simpa [hfull] using i2
          subst hen
          have hd2 : d2.p.down = true := by rw [hi2]; simp [hfull]
          have hs2 : (d2.p.steps : Int) = (N : Int) := by omega
          have tg : decide ((N : Int) ≤ (j : Int) + 1) = true := by simp; omega
          have tmin : min ((j : Int) + 1) (N : Int) = (N : Int) := by omega
          have hj1 : (j : Int) + 1 ≤ 100 := by omega
          clear i2 hi1 hi2 hfull
          go_wp2_with (fail)
          refine (down_cmd HH2.out.disk).mono ?_
          rintro r w3 ⟨rfl, rfl⟩
          rw [hd2]
          go_wp2_with (fail)
          refine (steps_cmd HH2.out.disk).mono ?_
          rintro r w3 ⟨rfl, rfl⟩
          rw [hs2]
          go_wp2_with (fail)
          go_roundw
          case rel => exact ⟨k + 1, j + 1, S2, d2, by omega, by omega, by go_num, by go_num, HH2.out, HI2.out, hcap2.out⟩
          case measure => simp [intOf]; omega
        · have hen : (en == 24) = false := by simpa [hfull] using i2
          have hd2 : d2.p.down = false := by rw [hi2]; simp [hfull]
          have hs2 : (d2.p.steps : Int) = (j : Int) + 1 := by omega
          have tg : decide ((N : Int) ≤ (j : Int) + 1) = false := by simp; omega
          have tmin : min ((j : Int) + 1) (N : Int) = (j : Int) + 1 := by omega
          have hj1 : (j : Int) + 1 ≤ 100 := by omega
          clear i2 hi1 hi2 hfull
          go_wp2_with (fail)
          refine (down_cmd HH2.out.disk).mono ?_
          rintro r w3 ⟨rfl, rfl⟩
          rw [hd2]
          go_wp2_with (fail)
          refine (steps_cmd HH2.out.disk).mono ?_
          rintro r w3 ⟨rfl, rfl⟩
          rw [hs2]
          go_wp2_with (fail)
          go_roundw
          case rel => exact ⟨k + 1, j + 1, S2, d2, by omega, by omega, by go_num, by go_num, HH2.out, HI2.out, hcap2.out⟩
          case measure => simp [intOf]; omega
      · have tk : kind = 5 := by omega
        subst tk
        go_wp2_with (fail)
        refine (rename_cmd b S d name to _ (HH.out.disk.alloc _) HNA.out HNT.out HST.out HLE.out).mono ?_
        rintro r w2 hcm
        obtain ⟨rfl, S2, h2⟩ := (HH.out.alloc _).cmd hcm
        obtain ⟨i1, i2⟩ := HI.out.step (F := renameS name.data.toList to.data.toList) (G := idS) ne24_5
        have HH2 := Lib.hid h2
        have HI2 := Lib.hid i1
        have hcap2 : Hid ((cmdS (renameS name.data.toList to.data.toList) (idS) d).2.cap = 500) := (cmdS_cap _ _ _).trans HCAP.out
        clear hcm h2 i1
        generalize cmdS (renameS name.data.toList to.data.toList) (idS) d = rr at *
        obtain ⟨en, d2⟩ := rr
        simp only at i2 HH2 HI2 hcap2 ⊢
        have hI := HI2.out
        obtain ⟨hi1, hi2, _, _⟩ := hI
        by_cases hfull : N ≤ j + 1
        · have hen : en = 24 := by simpa [hfull] using i2
          subst hen
          have hd2 : d2.p.down = true := by rw [hi2]; simp [hfull]
          have hs2 : (d2.p.steps : Int) = (N : Int) := by omega
          have tg : decide ((N : Int) ≤ (j : Int) + 1) = true := by simp; omega
          have tmin : min ((j : Int) + 1) (N : Int) = (N : Int) := by omega
          have hj1 : (j : Int) + 1 ≤ 100 := by omega
          clear i2 hi1 hi2 hfull
          go_wp2_with (fail)
          refine (down_cmd HH2.out.disk).mono ?_
          rintro r w3 ⟨rfl, rfl⟩
          rw [hd2]
          go_wp2_with (fail)
          refine (steps_cmd HH2.out.disk).mono ?_
          rintro r w3 ⟨rfl, rfl⟩
          rw [hs2]
          go_wp2_with (fail)
          go_roundw
          case rel => exact ⟨k + 1, j + 1, S2, d2, by omega, by omega, by go_num, by go_num, HH2.out, HI2.out, hcap2.out⟩
          case measure => simp [intOf]; omega
        · have hen : (en == 24) = false := by simpa [hfull] using i2
          have hd2 : d2.p.down = false := by rw [hi2]; simp [hfull]
          have hs2 : (d2.p.steps : Int) = (j : Int) + 1 := by omega
          have tg : decide ((N : Int) ≤ (j : Int) + 1) = false := by simp; omega
          have tmin : min ((j : Int) + 1) (N : Int) = (j : Int) + 1 := by omega
          have hj1 : (j : Int) + 1 ≤ 100 := by omega
          clear i2 hi1 hi2 hfull
          go_wp2_with (fail)
          refine (down_cmd HH2.out.disk).mono ?_
          rintro r w3 ⟨rfl, rfl⟩
          rw [hd2]
          go_wp2_with (fail)
          refine (steps_cmd HH2.out.disk).mono ?_
          rintro r w3 ⟨rfl, rfl⟩
          rw [hs2]
          go_wp2_with (fail)
          go_roundw
          case rel => exact ⟨k + 1, j + 1, S2, d2, by omega, by omega, by go_num, by go_num, HH2.out, HI2.out, hcap2.out⟩
          case measure => simp [intOf]; omega
      · have z1 : (kind == 1) = false := by simpa using hk1.1
        have z2 : (kind == 2) = false := by simpa using hk1.2.1
        have z3 : (kind == 3) = false := by simpa using hk1.2.2.1
        have z4 : (kind == 4) = false := by simpa using hk1.2.2.2.1
        have z5 : (kind == 5) = false := by simpa using hk1.2.2.2.2
        have HH2 := Lib.hid (HH.out.alloc (.cells #[.int .i64 kind, .string name, .string to, .slice data.a data.l.length data.c, .slice more.a more.l.length more.c, .int .i64 no, .slice cA cs.length cc] 38))
        clear hk1
        go_wp2_with (fail)
        go_roundw
        case rel => exact ⟨k + 1, j, S, d, by omega, by omega, by go_num, rfl, HH2.out, HI.out, HCAP.out⟩
        case measure => simp [intOf]; omega
    · have hk' : k = l.length := by omega
      subst hk'
      clear hlt
      go_wp2_with (fail)
      refine (awake_any wr).mono ?_
      rintro r w5 ⟨rfl, hb5⟩
      have HB5 := Lib.hid (HH.out.below.trans (hb5.mono HH.out.below.size))
      clear hb5
      go_wp2_with (fail)
      go_ret
      exact ⟨rfl, HB5.out⟩
theorem arms_walk (A : Option Addr) (l : List Cm) (c : Nat) (n : Int) (w : World) (hr : CmRow w A l) (hx : ∀ x ∈ l, x.ok w) (hl : l.length ≤ 9223372036854775807) (hn : n ≤ 9223372036854775807) :
    Calls Try.prog 7 #[.slice A l.length c, .int .i64 n] w fun e w' => e = .returned (.bool true) ∧ Below w.heap.size w w' := by
  cases hs : smallB l with
  | false => exact arms_off A l c n w hr hl (.inl hs)
  | true =>
    by_cases h1 : n < 1
    · exact arms_off A l c n w hr hl (.inr h1)
    · obtain ⟨N, rfl⟩ : ∃ N : Nat, n = (N : Int) := ⟨n.toNat, by omega⟩
      exact arms_on A l c N w hr hx hs (by omega) hn
end Go.Proofs.Ythimmkhopaaooaa
