/-
  Layer 12: the fixed answer.
-/
import Derived.Test.YtokochkjjlbnkaaTtC
namespace Go.Proofs.Ytokochkjjlbnkaa
open Go.RowKit trm

section
variable {W0 w w' : World} {b : Nat} {s s' : Sh} {t t' : T}
/-- a tree of one's own: behind a step it still is -/
theorem own_step (hb : Below W0.heap.size W0 w) (hf : ∀ k, FootT b s t k → W0.heap.size ≤ k) (hp : TurnP (FootT b s t) (FootT b s' t') w w') : Below W0.heap.size W0 w' ∧ ∀ k, FootT b s' t' k → W0.heap.size ≤ k := by
  refine ⟨hb.trans (hp.to_below hb.size hf), fun k hk => Nat.le_of_not_lt fun hlt => ?_⟩
  exact (hp.far k (Nat.lt_of_lt_of_le hlt hb.size) fun e => by have := hf k e; omega).1 hk
theorem aw_add (h : TreeAt w b s t) (hn : t.length ≤ 1000) (i p n : Int) (hi : I64 i) (hp : I64 p) {r : T × Int} (e : addS t i p n = r) : Calls Try.prog 31 #[.pointer (some ⟨b, 0, none⟩), .int .i64 i, .int .i64 p, .int .i64 n] w (DoQ b s t r w) := by
  rw [← e]
  exact tadd h hn i p n hi hp
theorem aw_move (h : TreeAt w b s t) (hn : t.length ≤ 1000) (i p n : Int) (hi : I64 i) (hp : I64 p) {r : T × Int} (e : movS t i p n = r) : Calls Try.prog 26 #[.pointer (some ⟨b, 0, none⟩), .int .i64 i, .int .i64 p, .int .i64 n] w (DoQ b s t r w) := by
  rw [← e]
  exact tmove h hn i p n hi hp
theorem aw_rem (h : TreeAt w b s t) (hn : t.length ≤ 1000) (i : Int) (hi : I64 i) {r : T × List Int × Int} (e : remS t i = r) : Calls Try.prog 32 #[.pointer (some ⟨b, 0, none⟩), .int .i64 i] w (RmQ b s t r w) := by
  rw [← e]
  exact tremove h hn i hi
end
theorem aw_e1 : addS [] 5 0 0 = ([(5, 0)], 0) := by decide
theorem aw_e2 : addS [(5, 0)] 7 0 0 = ([(7, 0), (5, 0)], 0) := by decide
theorem aw_e3 : addS [(7, 0), (5, 0)] 6 5 0 = ([(7, 0), (5, 0), (6, 5)], 0) := by decide
theorem aw_e4 : addS [(7, 0), (5, 0), (6, 5)] 5 0 0 = ([(7, 0), (5, 0), (6, 5)], 15) := by decide
theorem aw_e5 : movS [(7, 0), (5, 0), (6, 5)] 5 6 0 = ([(7, 0), (5, 0), (6, 5)], 32) := by decide
theorem aw_e6 : walkL [(7, 0), (5, 0), (6, 5)] = [(0, 0), (7, 1), (5, 1), (6, 2)] := by decide
theorem aw_e7 : remS [(7, 0), (5, 0), (6, 5)] 5 = ([(7, 0)], [5, 6], 0) := by decide
theorem aw_e8 : kids [(7, 0)] 5 ≠ kids [(7, 0), (5, 0), (6, 5)] 5 := by decide
theorem aw_e9 : within [(7, 0), (5, 0), (6, 5)] 6 0 = true := by decide
theorem aw_e10 : par [(7, 0), (5, 0), (6, 5)] 6 = 5 := by decide
theorem aw_e11 : [(0 : Int), 7].all (has [(7, 0), (5, 0), (6, 5)]) = true := by decide
theorem aw_e12 : kids [(7, 0), (5, 0), (6, 5)] 0 = [7, 5] := by decide
set_option maxRecDepth 100000 in
set_option maxHeartbeats 4000000 in
theorem awake_any (w : World) : Calls Try.prog 9 #[] w fun e w' => e = .returned (.bool true) ∧ Below w.heap.size w w' := by
  go_enter Try.func9, Try.ntmps9
  go_wp2_with (fail)
  refine (tnew w).mono ?_
  rintro e w1 ⟨b, s1, rfl, hT, hb, hf⟩
  have HT := Lib.hid hT
  have HB := Lib.hid (And.intro hb hf)
  clear hT hb hf
  go_wp2_with (fail)
  refine (aw_add HT.out (by decide) 5 0 0 (by constructor <;> decide) (by constructor <;> decide) aw_e1).mono ?_
  rintro e w2 ⟨s2, rfl, hT, hp⟩
  have HT2 := Lib.hid hT
  have HB2 := Lib.hid (own_step HB.out.1 HB.out.2 hp)
  clear hT hp HT HB
  go_wp2_with (fail)
  refine (aw_add HT2.out (by decide) 7 0 0 (by constructor <;> decide) (by constructor <;> decide) aw_e2).mono ?_
  rintro e w3 ⟨s3, rfl, hT, hp⟩
  have HT3 := Lib.hid hT
  have HB3 := Lib.hid (own_step HB2.out.1 HB2.out.2 hp)
  clear hT hp HT2 HB2
  go_wp2_with (fail)
  refine (aw_add HT3.out (by decide) 6 5 0 (by constructor <;> decide) (by constructor <;> decide) aw_e3).mono ?_
  rintro e w4 ⟨s4, rfl, hT, hp⟩
  have HT4 := Lib.hid hT
  have HB4 := Lib.hid (own_step HB3.out.1 HB3.out.2 hp)
  clear hT hp HT3 HB3
  go_wp2_with (fail)
  refine (aw_add HT4.out (by decide) 5 0 0 (by constructor <;> decide) (by constructor <;> decide) aw_e4).mono ?_
  rintro e w5 ⟨s5, rfl, hT, hp⟩
  have HT5 := Lib.hid hT
  have HB5 := Lib.hid (own_step HB4.out.1 HB4.out.2 hp)
  clear hT hp HT4 HB4
  go_wp2_with (fail)
  refine (aw_move HT5.out (by decide) 5 6 0 (by constructor <;> decide) (by constructor <;> decide) aw_e5).mono ?_
  rintro e w6 ⟨s6, rfl, hT, hp⟩
  have HT6 := Lib.hid hT
  have HB6 := Lib.hid (own_step HB5.out.1 HB5.out.2 hp)
  clear hT hp HT5 HB5
  go_wp2_with (fail)
  refine (lwalk HT6.out (by decide)).mono ?_
  rintro e w7 ⟨v7, rfl, ho, hb⟩
  rw [aw_e6] at ho
  obtain ⟨A7, c7, rfl, -, -, -⟩ := SOwn.row ho rcs_len
  have HO7 := Lib.hid ho
  have HT7 : Hid (TreeAt w7 b s6 _) := HT6.out.below hb
  have HB7 : Hid (Below w.heap.size w w7 ∧ w6.heap.size ≤ w7.heap.size) := ⟨HB6.out.1.trans (hb.mono HB6.out.1.size), hb.size⟩
  have HF6 : Hid (∀ k, FootT b s6 [(7, 0), (5, 0), (6, 5)] k → k < w6.heap.size) := HT6.out.raw.inside
  clear ho hb
  go_wp2_with (fail)
  refine (tclone HT7.out (by decide)).mono ?_
  rintro e w8 ⟨d, s8, rfl, hC, hcf, hb⟩
  have HC8 := Lib.hid (And.intro hC hcf)
  have HT8 : Hid (TreeAt w8 b s6 _) := HT7.out.below hb
  have HB8 : Hid (Below w.heap.size w w8) := HB7.out.1.trans (hb.mono HB7.out.1.size)
  have HO8 := Lib.hid (SOwn.below HO7.out hb)
  clear hb hC hcf HO7 HT6
  go_wp2_with (fail)
  refine (aw_rem HT8.out (by decide) 5 (by constructor <;> decide) aw_e7).mono ?_
  rintro e w9 ⟨s9, v9, rfl, hT, ho, hp⟩
  have h68 := HB7.out.2
  have hC : TreeAt w9 d s8 [(7, 0), (5, 0), (6, 5)] := HC8.out.1.stays fun k hk => (hp.far k (HC8.out.1.raw.inside k hk) fun e => by have := HF6.out k e; have := HC8.out.2 k hk; omega).2
  have hO := SOwn.stays HO8.out fun k hk => (hp.far k (SOwn.block HO8.out hk).2 fun e => by have := HF6.out k e; have := (SOwn.block HO8.out hk).1; omega).2
  have HB9 := Lib.hid (own_step HB8.out HB6.out.2 hp).1
  have HT9 := Lib.hid hT
  have HC9 := Lib.hid hC
  obtain ⟨A9, c9, rfl, -, -, hr9⟩ := IOwn.irow ho
  obtain ⟨_, _, e9, -, -, hr7⟩ := SOwn.row hO rcs_len
  cases e9
  obtain ⟨b7, o7, rfl, k7⟩ := SRow.below hr7 (Below.refl _ _) (by decide)
  obtain ⟨b9, o9, rfl, k9⟩ := hr9 (by decide)
  have r1 := k7 1 (by decide) 0 _ rfl
  have r2 := k7 1 (by decide) 1 _ rfl
  have r3 := k7 3 (by decide) 0 _ rfl
  have r4 := k7 3 (by decide) 1 _ rfl
  have r5 : w9.cell? ⟨b9, o9, none⟩ = some (.int .i64 5) := k9 0 (by decide)
  clear hC hO hT ho hp hr9 hr7 k7 k9 h68 HT8 HC8 HO8 HB6 HB7 HB8 HF6 HT7
  have p1 := fun w => pair_eqs 7 1 w
  have p2 := fun w => pair_eqs 6 2 w
  go_wp2_with (fail)
  refine (tlen HT9.out).mono ?_
  rintro e w10 ⟨rfl, hb⟩
  have HB10 : Hid (Below w.heap.size w w10) := HB9.out.trans (hb.mono HB9.out.size)
  have HT10 := Lib.hid (HT9.out.below hb)
  have HC10 := Lib.hid (HC9.out.below hb)
  clear hb r1 r2 r3 r4 r5 p1 p2 HT9 HC9 HB9
  go_wp2_with (fail)
  refine (tlen HC10.out).mono ?_
  rintro e w11 ⟨rfl, hb⟩
  have HB11 : Hid (Below w.heap.size w w11) := HB10.out.trans (hb.mono HB10.out.size)
  have HT11 := Lib.hid (HT10.out.below hb)
  have HC11 := Lib.hid (HC10.out.below hb)
  clear hb HT10 HC10 HB10
  go_wp2_with (fail)
  refine (tsame HT11.out HC11.out (by decide) (by decide)).mono ?_
  rintro e w12 ⟨r, rfl, hr, hb⟩
  have hrf : r = false := by
    cases r with
    | false => rfl
    | true => exact absurd (hr.1 rfl 5) aw_e8
  subst hrf
  have HB12 : Hid (Below w.heap.size w w12) := HB11.out.trans (hb.mono HB11.out.size)
  have HC12 := Lib.hid (HC11.out.below hb)
  clear hb hr HT11 HC11 HB11
  go_wp2_with (fail)
  have hC := twithin HC12.out 6 0 (by constructor <;> decide) (by constructor <;> decide)
  rw [aw_e9] at hC
  refine hC.mono ?_
  rintro e w13 ⟨rfl, hb⟩
  have HB13 : Hid (Below w.heap.size w w13) := HB12.out.trans (hb.mono HB12.out.size)
  have HC13 := Lib.hid (HC12.out.below hb)
  clear hb HC12 HB12 hC
  go_wp2_with (fail)
  have hC := tparent HC13.out 6 (by constructor <;> decide)
  rw [aw_e10] at hC
  refine hC.mono ?_
  rintro e w14 ⟨rfl, hb⟩
  have HB14 : Hid (Below w.heap.size w w14) := HB13.out.trans (hb.mono HB13.out.size)
  have HC14 := Lib.hid (HC13.out.below hb)
  clear hb HC13 HB13 hC
  go_wp2_with (fail)
  have hb1 : Below w14.heap.size w14 (w14.alloc (.cells #[.int .i64 0, .int .i64 7] 3)) := (Below.refl _ _).alloc (Nat.le_refl _) _
  have hC := thas (HC14.out.below hb1) _ [0, 7] 2 (row_new' (enc := eI) w14 [0, 7] 3 rfl) (fun y hy => by
    simp only [List.mem_cons, List.not_mem_nil, or_false] at hy
    rcases hy with rfl | rfl <;> constructor <;> decide) (by decide)
  rw [aw_e11] at hC
  refine hC.mono ?_
  rintro e w15 ⟨rfl, hb⟩
  have hb2 := hb1.trans (hb.mono hb1.size)
  have HB15 : Hid (Below w.heap.size w w15) := HB14.out.trans (hb2.mono HB14.out.size)
  have HC15 := Lib.hid (HC14.out.below hb2)
  clear hb hb1 hb2 HC14 HB14 hC
  go_wp2_with (fail)
  have hC := tkids HC15.out (by decide) 0 (by constructor <;> decide)
  rw [aw_e12] at hC
  refine hC.mono ?_
  rintro e w16 ⟨v, rfl, ho, hb⟩
  obtain ⟨A16, c16, rfl, -, -, -⟩ := IOwn.irow ho
  have HB16 : Hid (Below w.heap.size w w16) := HB15.out.trans (hb.mono HB15.out.size)
  clear hb ho HC15 HB15 hC
  go_wp2_with (fail)
  go_ret
  exact ⟨rfl, HB16.out⟩
end Go.Proofs.Ytokochkjjlbnkaa
