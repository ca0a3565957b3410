/-
  Layer 8: the walk of AffineThens.
-/
import Derived.Test.YtmbfkaodoankaaaAfJ
namespace Go.Proofs.Ytmbfkaodoankaaa
open Go.RowKit

/-- how far the document's own maps have come: f is its error, q its map -/
def ThAt (m : Mp) (l : List Mp) (q : Mp) (f : Int) (k : Nat) : Prop := (f = 0 ∧ m.right = true ∧ l.all Mp.right = true ∧ m.run l = q.run (l.drop k)) ∨ (f ≠ 0 ∧ m.thens l = (Mp.o, f))
theorem ThAt.start {m : Mp} {l : List Mp} (h1 : m.right = true) (h2 : l.all Mp.right = true) : ThAt m l m 0 0 := .inl ⟨rfl, h1, h2, rfl⟩
theorem ThAt.bad {m q : Mp} {l : List Mp} {k : Nat} (h : m.right = false ∨ l.all Mp.right = false) : ThAt m l q 11 k := .inr ⟨by decide, thens_bad h⟩
theorem ThAt.step {m q : Mp} {l : List Mp} {k : Nat} (h : ThAt m l q 0 k) (hk : k < l.length) (ht : q.thenB l[k] = true) : ThAt m l (q.then1 l[k]) 0 (k + 1) := by
  rcases h with ⟨-, h1, h2, h3⟩ | ⟨h, -⟩
  · exact .inl ⟨rfl, h1, h2, by rw [h3, run_step hk rfl, if_pos ht]⟩
  · exact absurd rfl h
theorem ThAt.over {m q : Mp} {l : List Mp} {k : Nat} (h : ThAt m l q 0 k) (hk : k < l.length) (ht : q.thenB l[k] = false) (q' : Mp) (k' : Nat) : ThAt m l q' 35 k' := by
  rcases h with ⟨-, h1, h2, h3⟩ | ⟨h, -⟩
  · rw [run_step hk rfl, if_neg (by rw [ht]; decide)] at h3
    exact .inr ⟨by decide, thens_over h1 h2 h3⟩
  · exact absurd rfl h
theorem ThAt.done {m q : Mp} {l : List Mp} {k : Nat} (h : ThAt m l q 0 k) (hk : l.length ≤ k) : m.thens l = (q, 0) := by
  rcases h with ⟨-, h1, h2, h3⟩ | ⟨h, -⟩
  · rw [List.drop_of_length_le hk] at h3
    exact thens_yes h1 h2 h3
  · exact absurd rfl h
theorem ThAt.told {m q : Mp} {l : List Mp} {f : Int} {k : Nat} (h : ThAt m l q f k) (hf : f ≠ 0) : m.thens l = (Mp.o, f) := by
  rcases h with ⟨h, -⟩ | ⟨-, h⟩
  · exact absurd h hf
  · exact h
theorem all_take1 {α : Type} (p : α → Bool) (l : List α) {k : Nat} (hk : k < l.length) : (l.take (k + 1)).all p = ((l.take k).all p && p l[k]) := by
  rw [List.take_succ_eq_append_getElem hk, List.all_append]
  simp
set_option maxRecDepth 100000 in
set_option maxHeartbeats 8000000 in
theorem thens_walk (m : Mp) (A : Option Addr) (l : List Mp) (c : Nat) (w : World) (hr : MRow w A l) (hn : l.length ≤ 9223372036854775807) :
    Calls Try.prog 4 #[m.v, .slice A l.length c] w fun e w' => e = .returned (.bool true) ∧ Below w.heap.size w w' := by
  by_cases h30 : 30 < l.length
  · have t : decide (30 < (l.length : Int)) = true := by simp; omega
    clear h30 hr hn
    unfold Mp.v
    go_enter Try.func4, Try.ntmps4
    go_wp2_with (fail)
    refine (awake_any _).mono ?_
    rintro e w1 ⟨rfl, hb⟩
    have B1 : Hid (Below w.heap.size w w1) := ((Below.refl _ _).alloc (Nat.le_refl _) _).trans (hb.mono (by simp))
    clear hb
    go_wp2_with (fail)
    go_ret
    exact ⟨rfl, B1.out⟩
  have t30 : decide (30 < (l.length : Int)) = false := by simp; omega
  have HN : Hid (l.length ≤ 30) := by show _ ≤ _; omega
  have HROW := Lib.hid hr
  have HTH := Lib.hid (fun w h => mp_thens m A l c w h hn)
  have HREF := Lib.hid (fun w => mp_ref m w)
  have HDR := Lib.hid (fun w => mp_dright m w)
  obtain ⟨M, HME⟩ : ∃ M : Mp, Hid (m = M) := ⟨m, rfl⟩
  have hMr : M.right = m.right := by rw [HME.out]
  have hMt : M.thens l = m.thens l := by rw [HME.out]
  have HST := Lib.hid (ThAt.start (m := M) (l := l))
  have HBD := Lib.hid (fun q k => ThAt.bad (m := M) (q := q) (l := l) (k := k))
  have HDONE := Lib.hid (fun q k => ThAt.done (m := M) (q := q) (l := l) (k := k))
  have HTOLD := Lib.hid (fun q f k => ThAt.told (m := M) (q := q) (l := l) (f := f) (k := k))
  have HSTEP := Lib.hid (fun q k => ThAt.step (m := M) (q := q) (l := l) (k := k))
  have HOVER := Lib.hid (fun q k => ThAt.over (m := M) (q := q) (l := l) (k := k))
  clear h30 hr hn
  rw [hMr] at HST HBD
  rw [hMt] at HDONE HTOLD
  clear hMr hMt
  obtain ⟨T, hT⟩ : ∃ T, m.thens l = T := ⟨_, rfl⟩
  rw [hT] at HTH HDONE HTOLD
  clear hT
  obtain ⟨TM, TE⟩ := T
  simp only at HTH
  generalize m.right = y at *
  obtain ⟨ka, kb, kc, kd, ke, kf⟩ := m
  obtain ⟨ta, tb, tc, td, te, tf⟩ := TM
  unfold Mp.v at *
  simp only at HTH HREF HDR ⊢
  have HTH2 := Lib.hid (fun o => HTH.out (w.alloc o) (HROW.out.below ((Below.refl _ _).alloc (Nat.le_refl _) o)))
  go_enter Try.func4, Try.ntmps4
  go_wp2_with (fail)
  refine (HTH2.out _).mono ?_
  rintro e w1 ⟨rfl, hb⟩
  have B1 : Hid (Below w.heap.size w w1) := ((Below.refl _ _).alloc (Nat.le_refl _) _).trans (hb.mono (by simp))
  have bm1 : Hid (Blk w1 w.heap.size [.int .i64 ka, .int .i64 kb, .int .i64 kc, .int .i64 kd, .int .i64 ke, .int .i64 kf]) := (blk_new w [.int .i64 ka, .int .i64 kb, .int .i64 kc, .int .i64 kd, .int .i64 ke, .int .i64 kf] _).below' hb
  clear hb HTH HTH2
  have hin1 := bm1.out.inside
  obtain ⟨⟨c0, c1, c2, c3, c4, c5⟩, -, ci⟩ := bm1.out.c6
  go_wp2_with (fail)
  refine (HREF.out _).mono ?_
  rintro e w2 ⟨rfl, hb⟩
  have B2 : Hid (Below w.heap.size w w2) := (B1.out.alloc B1.out.size _).trans (hb.mono (by have := B1.out.size; simp; omega))
  have bg2 : Hid (Blk w2 w1.heap.size [.int .i64 ta, .int .i64 tb, .int .i64 tc, .int .i64 td, .int .i64 te, .int .i64 tf]) := (blk_new w1 [.int .i64 ta, .int .i64 tb, .int .i64 tc, .int .i64 td, .int .i64 te, .int .i64 tf] _).below' hb
  have hg1 : Hid (w.heap.size ≤ w1.heap.size) := B1.out.size
  clear hb B1 bm1 hin1 c0 c1 c2 c3 c4 c5 ci HREF
  generalize w1.heap.size = g1 at *
  go_wp2_with (fail)
  refine (HDR.out _).mono ?_
  rintro e w3 ⟨rfl, hb⟩
  have B3 : Hid (Below w.heap.size w w3) := (B2.out.alloc B2.out.size _).trans (hb.mono (by have := B2.out.size; simp; omega))
  have bg3 := Lib.hid ((bg2.out.alloc _).below' hb)
  have bq3 : Hid (Blk w3 w2.heap.size [.int .i64 ka, .int .i64 kb, .int .i64 kc, .int .i64 kd, .int .i64 ke, .int .i64 kf]) := (blk_new w2 [.int .i64 ka, .int .i64 kb, .int .i64 kc, .int .i64 kd, .int .i64 ke, .int .i64 kf] _).below' hb
  have hg2 : Hid (g1 < w2.heap.size ∧ w.heap.size ≤ w2.heap.size) := ⟨bg2.out.inside, B2.out.size⟩
  clear hb B2 bg2 HDR
  generalize w2.heap.size = g2 at *
  cases y with
  | true =>
    go_wp2_with (fail)
    go_loopw [8, 32] (fun f i wr => ∃ (k : Nat) (F : Int) (b : Bool), k ≤ l.length ∧ i = .int .i64 k ∧ f = .int .i64 F ∧ Hid (F = bif b then 0 else 11) ∧ Hid (b = (true && (l.take k).all Mp.right)) ∧ Hid (Below w.heap.size w wr) ∧ Hid (Blk wr g1 [.int .i64 ta, .int .i64 tb, .int .i64 tc, .int .i64 td, .int .i64 te, .int .i64 tf]) ∧ Hid (Blk wr g2 [.int .i64 ka, .int .i64 kb, .int .i64 kc, .int .i64 kd, .int .i64 ke, .int .i64 kf])) (fun _ i _ => l.length - (intOf i).toNat)
    case atStart => exact ⟨0, _, true, Nat.zero_le _, rfl, rfl, rfl, rfl, B3, bg3, bq3⟩
    case round =>
      clear B3 bg3 bq3
      obtain ⟨k, F, b, hk, rfl, rfl, HF, Hb, HB, HG1, HG2⟩ := hrel
      by_cases hlt : k < l.length
      · obtain ⟨b0, off, rA, q0, q1, q2, q3, q4, q5⟩ := MRow.at_ (HROW.out.below HB.out) hlt
        subst rA
        have hkb : (k : Int) ≤ 1000 := by have := HN.out; omega
        have HALL := Lib.hid (all_take1 Mp.right l hlt)
        have HDN := Lib.hid (fun w => mp_dright l[k] w)
        have HRN := Lib.hid (fun w => mp_ref l[k] w)
        generalize l[k].right = r at *
        generalize l[k] = n at *
        obtain ⟨na, nb_, nc, nd, ne, nf⟩ := n
        unfold Mp.v at HDN HRN
        simp only at q0 q1 q2 q3 q4 q5 HDN HRN
        have hg : b0 < wr.heap.size := World.block_lt_of_cell? wr ⟨b0, _, none⟩ q0
        go_wp2_with (fail)
        refine (HRN.out _).mono ?_
        rintro e w4 ⟨rfl, hb⟩
        have B4 : Hid (Below w.heap.size w w4) := (HB.out.alloc HB.out.size _).trans (hb.mono (by have := HB.out.size; simp; omega))
        have g14 := Lib.hid ((HG1.out.alloc _).below' hb)
        have g24 := Lib.hid ((HG2.out.alloc _).below' hb)
        clear hb HB HG1 HG2 q0 q1 q2 q3 q4 q5 hg HRN
        go_wp2_with (fail)
        refine (HDN.out _).mono ?_
        rintro e w5 ⟨rfl, hb⟩
        have B5 := Lib.hid (B4.out.trans (hb.mono B4.out.size))
        have g15 := Lib.hid (g14.out.below' hb)
        have g25 := Lib.hid (g24.out.below' hb)
        clear hb B4 g14 g24 HDN
        cases r with
        | true =>
          have Hb2 : Hid (b = (true && (l.take (k + 1)).all Mp.right)) := by rw [HALL.out, Bool.and_true]; exact Hb.out
          clear HALL Hb
          go_wp2_with (fail)
          go_roundw
          case rel => exact ⟨k + 1, F, b, by omega, by go_num, rfl, HF, Hb2, B5, g15, g25⟩
          case measure => simp [intOf]; omega
        | false =>
          have Hb2 : Hid (false = (true && (l.take (k + 1)).all Mp.right)) := by rw [HALL.out, Bool.and_false, Bool.and_false]; rfl
          clear HALL Hb HF
          go_wp2_with (fail)
          go_roundw
          case rel => exact ⟨k + 1, 11, false, by omega, by go_num, rfl, rfl, Hb2, B5, g15, g25⟩
          case measure => simp [intOf]; omega
      · have Hb2 : Hid (b = (true && l.all Mp.right)) := by
          have h := Hb.out
          rw [List.take_of_length_le (by omega)] at h
          exact h
        obtain rfl : k = l.length := by omega
        have HAT0 : Hid (ThAt M l ⟨ka, kb, kc, kd, ke, kf⟩ F 0) := by
          show ThAt _ _ _ _ _
          have hM := HME.out
          rw [HF.out]
          cases b with
          | true =>
            have h := Hb2.out
            rw [hM]
            exact HST.out trivial (by simpa using h.symm)
          | false => exact HBD.out _ _ (by have h := Hb2.out; simp at h; exact .inr (by simpa using h))
        clear HF Hb Hb2 hlt hk HST HBD
        go_wp2_with (fail)
        go_loopw [8, 43] (fun f i wr => ∃ (k : Nat) (F : Int) (q : Mp), k ≤ l.length ∧ i = .int .i64 k ∧ f = .int .i64 F ∧ Hid (ThAt M l q F k) ∧ Hid (Below w.heap.size w wr) ∧ Hid (Blk wr g1 [.int .i64 ta, .int .i64 tb, .int .i64 tc, .int .i64 td, .int .i64 te, .int .i64 tf]) ∧ Hid (Blk wr g2 q.cs)) (fun _ i _ => l.length - (intOf i).toNat)
        case atStart => exact ⟨0, _, _, Nat.zero_le _, rfl, rfl, HAT0, HB, HG1, HG2⟩
        case round =>
          clear HB HG1 HG2 HAT0 HME
          obtain ⟨k, F, q, hk, rfl, rfl, HAT, HB, HG1, HG2⟩ := hrel
          obtain ⟨qa, qb, qc, qd, qe, qf⟩ := q
          by_cases hlt : k < l.length
          · obtain ⟨b0, off, rA, q0, q1, q2, q3, q4, q5⟩ := MRow.at_ (HROW.out.below HB.out) hlt
            subst rA
            have hkb : (k : Int) ≤ 1000 := by have := HN.out; omega
            have HOVERk := Lib.hid (fun h => HOVER.out ⟨qa, qb, qc, qd, qe, qf⟩ k h hlt)
            have HSTEPk := Lib.hid (fun h => HSTEP.out ⟨qa, qb, qc, qd, qe, qf⟩ k h hlt)
            have HDTH := Lib.hid (fun w => mp_dthen ⟨qa, qb, qc, qd, qe, qf⟩ l[k] w)
            have HRFN := Lib.hid (fun w => mp_ref l[k] w)
            generalize l[k] = n at *
            generalize Mp.thenB ⟨qa, qb, qc, qd, qe, qf⟩ n = Y at *
            obtain ⟨X, hX⟩ : ∃ X, (if Y = true then Mp.then1 ⟨qa, qb, qc, qd, qe, qf⟩ n else Mp.o) = X := ⟨_, rfl⟩
            rw [hX] at HDTH
            have HXX : Hid (Y = true → Mp.then1 ⟨qa, qb, qc, qd, qe, qf⟩ n = X) := fun h => by rw [← hX, if_pos h]
            clear hX
            generalize Mp.then1 ⟨qa, qb, qc, qd, qe, qf⟩ n = X2 at *
            obtain ⟨na, nb_, nc, nd, ne, nf⟩ := n
            obtain ⟨xa, xb, xc, xd, xe, xf⟩ := X
            unfold Mp.v at HDTH HRFN
            simp only at q0 q1 q2 q3 q4 q5 HDTH HRFN
            have hg : b0 < wr.heap.size := World.block_lt_of_cell? wr ⟨b0, _, none⟩ q0
            have hin1 := HG1.out.inside
            have hin2 := HG2.out.inside
            by_cases hF : F = 0
            · subst hF
              go_wp2_with (fail)
              clear q0 q1 q2 q3 q4 q5 hg
              have HJ : Hid (JBs [(g1, [.int .i64 ta, .int .i64 tb, .int .i64 tc, .int .i64 td, .int .i64 te, .int .i64 tf]), (g2, [.int .i64 qa, .int .i64 qb, .int .i64 qc, .int .i64 qd, .int .i64 qe, .int .i64 qf]), (wr.heap.size, [.int .i64 na, .int .i64 nb_, .int .i64 nc, .int .i64 nd, .int .i64 ne, .int .i64 nf])] (wr.alloc (.cells #[.int .i64 na, .int .i64 nb_, .int .i64 nc, .int .i64 nd, .int .i64 ne, .int .i64 nf] 23))) := ⟨HG1.out.alloc _, HG2.out.alloc _, blk_new wr [.int .i64 na, .int .i64 nb_, .int .i64 nc, .int .i64 nd, .int .i64 ne, .int .i64 nf] _, trivial⟩
              have HB2 : Hid (Below w.heap.size w (wr.alloc (.cells #[.int .i64 na, .int .i64 nb_, .int .i64 nc, .int .i64 nd, .int .i64 ne, .int .i64 nf] 23))) := HB.out.alloc HB.out.size _
              have hgn : Hid (g2 < wr.heap.size) := hin2
              clear HB HG1 HG2 hin1 hin2
              generalize wr.alloc (.cells #[.int .i64 na, .int .i64 nb_, .int .i64 nc, .int .i64 nd, .int .i64 ne, .int .i64 nf] 23) = WB at *
              generalize wr.heap.size = gn at *
              refine regv.wp_region_put (Below WB.heap.size) (fun L V wx => JN WB.heap.size [(g1, [.int .i64 ta, .int .i64 tb, .int .i64 tc, .int .i64 td, .int .i64 te, .int .i64 tf]), (g2, [.int .i64 qa, .int .i64 qb, .int .i64 qc, .int .i64 qd, .int .i64 qe, .int .i64 qf]), (gn, [.int .i64 na, .int .i64 nb_, .int .i64 nc, .int .i64 nd, .int .i64 ne, .int .i64 nf])] [.int .i64 0, .int .i64 0, .int .i64 0, .int .i64 0, .int .i64 0, .int .i64 0] [.int .i64 xa, .int .i64 xb, .int .i64 xc, .int .i64 xd, .int .i64 xe, .int .i64 xf] (L 7) (L 8) (V 13) wx) [50, 51, 52, 53, 49, 54, 55, 13, 14] (by kernel_rfl) (by kernel_rfl) (fun _ => Below.refl _ _) (fun _ _ _ h k => h.trans k) (fun i => (match i with
                | 0 => regs.Say.val _ (.agg #[.int .i64 qa, .int .i64 qb, .int .i64 qc, .int .i64 qd, .int .i64 qe, .int .i64 qf])
                | 1 => regs.Say.val _ (.agg #[.int .i64 na, .int .i64 nb_, .int .i64 nc, .int .i64 nd, .int .i64 ne, .int .i64 nf])
                | 2 => regs.Say.val _ (.agg #[.int .i64 na, .int .i64 nb_, .int .i64 nc, .int .i64 nd, .int .i64 ne, .int .i64 nf])
                | 3 => regs.Say.val _ (.tuple #[.agg #[.int .i64 xa, .int .i64 xb, .int .i64 xc, .int .i64 xd, .int .i64 xe, .int .i64 xf], .bool Y])
                | 4 => regs.Say.val _ (.tuple #[.agg #[.int .i64 xa, .int .i64 xb, .int .i64 xc, .int .i64 xd, .int .i64 xe, .int .i64 xf], .bool Y])
                | 5 => regs.Say.val _ (.agg #[.int .i64 xa, .int .i64 xb, .int .i64 xc, .int .i64 xd, .int .i64 xe, .int .i64 xf])
                | 6 => regs.Say.val _ (.bool Y)
                | 7 => regs.Say.any _
                | 8 => regs.Say.any _
                | 9 => regs.Say.val _ (.bool Y)
                | _ => regs.Say.any _ : regs.Say (Below WB.heap.size)).p) (fun _ => regs.Say.mono _) (by kernel_rfl) ((Below.refl _ _).drew) (JN.start (w := WB.drew) HJ.out) ⟨?_, ?_, ?_, ?_, ?_, ?_, ?_, ?_, ?_, ?_, trivial⟩ ?_
              · refine regv.StepOK.plain rfl fun L a w1 hh => ?_
                have h7 : a.tmps[7]?.getD undef = .pointer (some ⟨g2, 0, none⟩) := by rw [← Array.getD_eq_getD_getElem?]; exact hh.old 7 rfl
                obtain ⟨⟨c0, c1, c2, c3, c4, c5⟩, -, ci⟩ := (hh.st.1.1.2.1).c6
                have hJ := Lib.hid hh.st
                clear hh
                go_simp
                exact ⟨_, rfl, Below.refl _ _, rfl, JN.slots hJ.out (regv.sl_ne (by decide))⟩
              · refine regv.StepOK.plain rfl fun L a w1 hh => ?_
                have h12 : a.tmps[12]?.getD undef = .pointer (some ⟨gn, 0, none⟩) := by rw [← Array.getD_eq_getD_getElem?]; exact hh.old 12 rfl
                obtain ⟨⟨c0, c1, c2, c3, c4, c5⟩, -, ci⟩ := (hh.st.1.1.2.2.1).c6
                have hJ := Lib.hid hh.st
                clear hh
                go_simp
                exact ⟨_, rfl, Below.refl _ _, rfl, JN.slots hJ.out (regv.sl_ne (by decide))⟩
              · refine regv.StepOK.plain rfl fun L a w1 hh => ?_
                have h51 : a.tmps[51]?.getD undef = .agg #[.int .i64 na, .int .i64 nb_, .int .i64 nc, .int .i64 nd, .int .i64 ne, .int .i64 nf] := by rw [← Array.getD_eq_getD_getElem?]; exact hh.dep 1 51 (by kernel_rfl) (by kernel_rfl)
                have := True.intro
                have hJ := Lib.hid hh.st
                clear hh
                go_simp
                refine (HRFN.out w1).mono ?_
                rintro e w9 ⟨rfl, hb9⟩
                exact ⟨_, rfl, hb9.mono hJ.out.1.2.1, rfl, JN.slots (JN.below hJ.out hb9) (regv.sl_ne (by decide))⟩
              · refine regv.StepOK.plain rfl fun L a w1 hh => ?_
                have h50 : a.tmps[50]?.getD undef = .agg #[.int .i64 qa, .int .i64 qb, .int .i64 qc, .int .i64 qd, .int .i64 qe, .int .i64 qf] := by rw [← Array.getD_eq_getD_getElem?]; exact hh.dep 0 50 (by kernel_rfl) (by kernel_rfl)
                have h52 : a.tmps[52]?.getD undef = .agg #[.int .i64 na, .int .i64 nb_, .int .i64 nc, .int .i64 nd, .int .i64 ne, .int .i64 nf] := by rw [← Array.getD_eq_getD_getElem?]; exact hh.dep 2 52 (by kernel_rfl) (by kernel_rfl)
                have := True.intro
                have hJ := Lib.hid hh.st
                clear hh
                go_simp
                refine (HDTH.out w1).mono ?_
                rintro e w9 ⟨rfl, hb9⟩
                exact ⟨_, rfl, hb9.mono hJ.out.1.2.1, rfl, JN.slots (JN.below hJ.out hb9) (regv.sl_ne (by decide))⟩
              · refine regv.StepOK.plain rfl fun L a w1 hh => ?_
                have h53 : a.tmps[53]?.getD undef = .tuple #[.agg #[.int .i64 xa, .int .i64 xb, .int .i64 xc, .int .i64 xd, .int .i64 xe, .int .i64 xf], .bool Y] := by rw [← Array.getD_eq_getD_getElem?]; exact hh.dep 3 53 (by kernel_rfl) (by kernel_rfl)
                have hJ := Lib.hid hh.st
                clear hh
                go_simp
                exact ⟨_, rfl, Below.refl _ _, rfl, JN.slots hJ.out (regv.sl_ne (by decide))⟩
              · refine regv.StepOK.plain rfl fun L a w1 hh => ?_
                have h49 : a.tmps[49]?.getD undef = .tuple #[.agg #[.int .i64 xa, .int .i64 xb, .int .i64 xc, .int .i64 xd, .int .i64 xe, .int .i64 xf], .bool Y] := by rw [← Array.getD_eq_getD_getElem?]; exact hh.dep 4 49 (by kernel_rfl) (by kernel_rfl)
                have hJ := Lib.hid hh.st
                clear hh
                go_simp
                exact ⟨_, rfl, Below.refl _ _, rfl, JN.slots hJ.out (regv.sl_ne (by decide))⟩
              · refine regv.StepOK.plain rfl fun L a w1 hh => ?_
                have h49 : a.tmps[49]?.getD undef = .tuple #[.agg #[.int .i64 xa, .int .i64 xb, .int .i64 xc, .int .i64 xd, .int .i64 xe, .int .i64 xf], .bool Y] := by rw [← Array.getD_eq_getD_getElem?]; exact hh.dep 4 49 (by kernel_rfl) (by kernel_rfl)
                have hJ := Lib.hid hh.st
                clear hh
                go_simp
                exact ⟨_, rfl, Below.refl _ _, rfl, JN.slots hJ.out (regv.sl_ne (by decide))⟩
              · refine regv.StepOK.plain rfl fun L a w1 hh => ?_
                have hJ := Lib.hid hh.st
                have hsz := Lib.hid hh.size
                have hun := Lib.hid hh.un
                clear hh
                go_simp
                exact ⟨_, rfl, (Below.refl _ _).alloc hJ.out.1.2.1 _, trivial, JN.new hJ.out hun.out (regv.sl_same (by rw [hsz.out]; simp))⟩
              · refine regv.StepOK.plain rfl fun L a w1 hh => ?_
                have h54 : a.tmps[54]?.getD undef = .agg #[.int .i64 xa, .int .i64 xb, .int .i64 xc, .int .i64 xd, .int .i64 xe, .int .i64 xf] := by rw [← Array.getD_eq_getD_getElem?]; exact hh.dep 5 54 (by kernel_rfl) (by kernel_rfl)
                obtain ⟨g, h0, hg, hB⟩ := hh.st.2.1 (hh.up 7 (by kernel_rfl))
                have h13 : a.tmps[13]?.getD undef = .pointer (some ⟨g, 0, none⟩) := by rw [← Array.getD_eq_getD_getElem?]; exact h0
                rw [hh.un] at hB
                obtain ⟨⟨c0, c1, c2, c3, c4, c5⟩, ⟨f0, f1, f2, f3, f4, f5⟩, ci⟩ := (show Blk w1 g [.int .i64 0, .int .i64 0, .int .i64 0, .int .i64 0, .int .i64 0, .int .i64 0] from hB).c6
                have hP := Lib.hid (JN.put hh.st rfl (hh.up 7 (by kernel_rfl)) hh.un h0)
                clear hh h0 hB
                go_simp
                exact ⟨hP.out.2, ⟨undef, trivial⟩, hP.out.1⟩
              · refine regv.StepOK.plain rfl fun L a w1 hh => ?_
                have h55 : a.tmps[55]?.getD undef = .bool Y := by rw [← Array.getD_eq_getD_getElem?]; exact hh.dep 6 55 (by kernel_rfl) (by kernel_rfl)
                have hJ := Lib.hid hh.st
                clear hh
                go_simp
                exact ⟨_, rfl, Below.refl _ _, rfl, JN.slots hJ.out (regv.sl_ne (by decide))⟩
              intro L w6 val hL hJ hR hv
              have h14 : val 14 = .bool Y := hv 9 14 (by kernel_rfl)
              obtain ⟨g6, e6, hg6, hB6⟩ := hJ.2.1 (hL 7 (by decide))
              rw [hL 8 (by decide)] at hB6
              have HN6 := Lib.hid (And.intro hg6 (show Blk w6 g6 [.int .i64 xa, .int .i64 xb, .int .i64 xc, .int .i64 xd, .int .i64 xe, .int .i64 xf] from hB6))
              have HK6 := Lib.hid hJ.1.1
              clear hg6 hB6
              have HR6 := Lib.hid hR
              clear hv hL hJ hR
              simp only [regs.putAll, List.map_cons, List.map_nil]
              rw [h14, e6]
              generalize val 50 = v50
              generalize val 51 = v51
              generalize val 52 = v52
              generalize val 53 = v53
              generalize val 49 = v49
              generalize val 54 = v54
              generalize val 55 = v55
              simp only [Act.put, List.setIfInBounds_toArray, List.set_cons_zero, List.set_cons_succ]
              clear h14 e6
              have HB6 : Hid (Below w.heap.size w w6) := HB2.out.trans (HR6.out.mono HB2.out.size)
              have hG1 : Hid (Blk w6 g1 [.int .i64 ta, .int .i64 tb, .int .i64 tc, .int .i64 td, .int .i64 te, .int .i64 tf]) := HK6.out.1
              have hG2 : Hid (Blk w6 g2 [.int .i64 qa, .int .i64 qb, .int .i64 qc, .int .i64 qd, .int .i64 qe, .int .i64 qf]) := HK6.out.2.1
              have hG6 := Lib.hid HN6.out.2
              have hne : g1 ≠ g2 := by have := hg2.out.1; omega
              clear HR6 HK6 HN6 HB2 HJ HDTH HRFN
              obtain ⟨⟨c0, c1, c2, c3, c4, c5⟩, -, ci⟩ := hG6.out.c6
              obtain ⟨⟨d0, d1, d2, d3, d4, d5⟩, ⟨f0, f1, f2, f3, f4, f5⟩, di⟩ := hG2.out.c6
              cases Y with
              | true =>
                obtain rfl := HXX.out rfl
                have HAT2 := Lib.hid (HSTEPk.out HAT.out rfl)
                clear HAT HSTEPk HOVERk HXX
                go_wp2_with (fail)
                go_roundw
                case rel => exact ⟨k + 1, 0, _, by omega, by go_num, rfl, HAT2, below6 HB6.out hg2.out.2 _ _ _ _ _ _, Blk.off6 hG1.out hne _ _ _ _ _ _, Blk.put6 hG2.out _ _ _ _ _ _⟩
                case measure => simp [intOf]; omega
              | false =>
                have HAT2 := Lib.hid (HOVERk.out HAT.out rfl ⟨xa, xb, xc, xd, xe, xf⟩ (k + 1))
                clear HAT HSTEPk HOVERk HXX
                go_wp2_with (fail)
                go_roundw
                case rel => exact ⟨k + 1, 35, _, by omega, by go_num, rfl, HAT2, below6 HB6.out hg2.out.2 _ _ _ _ _ _, Blk.off6 hG1.out hne _ _ _ _ _ _, Blk.put6 hG2.out _ _ _ _ _ _⟩
                case measure => simp [intOf]; omega
            · have HF := Lib.hid hF
              have tF0 : (F != 0) = true := by simpa using hF
              clear hF HSTEPk HOVERk HXX HDTH HRFN hin2
              have HB_ : Hid (Below w.heap.size w (wr.alloc (.cells #[.int .i64 na, .int .i64 nb_, .int .i64 nc, .int .i64 nd, .int .i64 ne, .int .i64 nf] 23))) := HB.out.alloc HB.out.size _
              have HG1_ : Hid (Blk (wr.alloc (.cells #[.int .i64 na, .int .i64 nb_, .int .i64 nc, .int .i64 nd, .int .i64 ne, .int .i64 nf] 23)) g1 [.int .i64 ta, .int .i64 tb, .int .i64 tc, .int .i64 td, .int .i64 te, .int .i64 tf]) := HG1.out.alloc _
              clear HB HG1

              have hT := HTOLD.out _ _ _ HAT.out HF.out
              injection hT with h1 h2
              obtain rfl := h2
              injection h1 with z0 z1 z2 z3 z4 z5
              subst z0; subst z1; subst z2; subst z3; subst z4; subst z5
              have tF : (TE != 0) = true := by simpa using HF.out
              have tFF : (TE == TE) = true := by simp
              clear HG2
              obtain ⟨⟨c0, c1, c2, c3, c4, c5⟩, -, ci⟩ := HG1_.out.c6
              have hms := mp_same Mp.o
              unfold Mp.v Mp.o at hms
              simp only at hms
              clear HAT HF HTOLD HDONE
              go_wp2_with (fail)
              refine (awake_any _).mono ?_
              rintro e w9 ⟨rfl, hb⟩
              have B9 := Lib.hid (HB_.out.trans (hb.mono HB_.out.size))
              clear hb HB_ HG1_
              go_wp2_with (fail)
              go_ret
              exact ⟨rfl, B9.out⟩
          · by_cases hF : F = 0
            · subst hF

              have hT := HDONE.out _ _ HAT.out (by omega)
              injection hT with h1 h2
              obtain rfl := h2
              injection h1 with z0 z1 z2 z3 z4 z5
              subst z0; subst z1; subst z2; subst z3; subst z4; subst z5
              have HJ : Hid (JBs [(g1, [.int .i64 ta, .int .i64 tb, .int .i64 tc, .int .i64 td, .int .i64 te, .int .i64 tf]), (g2, [.int .i64 ta, .int .i64 tb, .int .i64 tc, .int .i64 td, .int .i64 te, .int .i64 tf])] wr) := ⟨HG1.out, HG2.out, trivial⟩
              have HRF := Lib.hid (fun w => mp_ref ⟨ta, tb, tc, td, te, tf⟩ w)
              have HAS := Lib.hid (fun w => arr_same ⟨ta, tb, tc, td, te, tf⟩ w)
              unfold Mp.v at HRF HAS
              simp only at HRF HAS
              clear HAT HTOLD HDONE HG1 HG2
              go_wp2_with (fail)
              refine regs.wp_region_put (regs.bl) (fun _ wx => JBs [(g1, [.int .i64 ta, .int .i64 tb, .int .i64 tc, .int .i64 td, .int .i64 te, .int .i64 tf]), (g2, [.int .i64 ta, .int .i64 tb, .int .i64 tc, .int .i64 td, .int .i64 te, .int .i64 tf])] wx) [73, 74, 75, 76, 77, 78, 79, 80, 81, 82, 83, 4] (by kernel_rfl) (by kernel_rfl) (fun _ => regs.bl_refl _) (regs.bl_trans) (fun i => (match i with
                | 0 => regs.Say.val _ (.int .i64 0)
                | 1 => regs.Say.val _ (.bool true)
                | 2 => regs.Say.val _ (.bool true)
                | 3 => regs.Say.val _ (.agg #[.int .i64 ta, .int .i64 tb, .int .i64 tc, .int .i64 td, .int .i64 te, .int .i64 tf])
                | 4 => regs.Say.val _ (.agg #[.int .i64 ta, .int .i64 tb, .int .i64 tc, .int .i64 td, .int .i64 te, .int .i64 tf])
                | 5 => regs.Say.val _ (.agg #[.int .i64 ta, .int .i64 tb, .int .i64 tc, .int .i64 td, .int .i64 te, .int .i64 tf])
                | 6 => regs.Say.val _ (.bool true)
                | 7 => regs.Say.val _ (.bool true)
                | 8 => regs.Say.val _ (.bool true)
                | 9 => regs.Say.val _ (.bool true)
                | 10 => regs.Say.val _ (.bool true)
                | 11 => regs.Say.val _ (.bool true)
                | _ => regs.Say.any _ : regs.Say (regs.bl)).p) (fun _ => regs.Say.mono _) (by kernel_rfl) ((Below.refl _ _).drew) (HJ.out) ⟨?_, ?_, ?_, ?_, ?_, ?_, ?_, ?_, ?_, ?_, ?_, ?_, trivial⟩ ?_
              · refine regs.StepOK.plain rfl fun L a w1 hh => ?_
                have h6 : a.tmps[6]?.getD undef = .int .i64 0 := by rw [← Array.getD_eq_getD_getElem?]; exact hh.old 6 rfl
                have hJ := Lib.hid hh.st
                clear hh
                go_simp
                exact ⟨_, rfl, regs.bl_refl _, rfl, hJ.out⟩
              · refine regs.StepOK.plain rfl fun L a w1 hh => ?_
                have h73 : a.tmps[73]?.getD undef = .int .i64 0 := by rw [← Array.getD_eq_getD_getElem?]; exact hh.dep 0 73 (by kernel_rfl) (by kernel_rfl)
                have hJ := Lib.hid hh.st
                clear hh
                go_simp
                exact ⟨_, rfl, regs.bl_refl _, rfl, hJ.out⟩
              · refine regs.StepOK.plain rfl fun L a w1 hh => ?_
                have h74 : a.tmps[74]?.getD undef = .bool true := by rw [← Array.getD_eq_getD_getElem?]; exact hh.dep 1 74 (by kernel_rfl) (by kernel_rfl)
                have hJ := Lib.hid hh.st
                clear hh
                go_simp
                exact ⟨_, rfl, regs.bl_refl _, rfl, hJ.out⟩
              · refine regs.StepOK.yes 2 true 75 rfl rfl (fun L a w1 hh => hh.dep 2 75 (by kernel_rfl) (by kernel_rfl)) fun L a w1 hh => ?_
                have h5 : a.tmps[5]?.getD undef = .pointer (some ⟨g1, 0, none⟩) := by rw [← Array.getD_eq_getD_getElem?]; exact hh.old 5 rfl
                obtain ⟨⟨c0, c1, c2, c3, c4, c5⟩, -, ci⟩ := (hh.st.1).c6
                have hJ := Lib.hid hh.st
                clear hh
                go_simp
                exact ⟨_, rfl, regs.bl_refl _, rfl, hJ.out⟩
              · refine regs.StepOK.yes 2 true 75 rfl rfl (fun L a w1 hh => hh.dep 2 75 (by kernel_rfl) (by kernel_rfl)) fun L a w1 hh => ?_
                have h76 : a.tmps[76]?.getD undef = .agg #[.int .i64 ta, .int .i64 tb, .int .i64 tc, .int .i64 td, .int .i64 te, .int .i64 tf] := by rw [← Array.getD_eq_getD_getElem?]; exact hh.dep 3 76 (by kernel_rfl) (by kernel_rfl)
                have := True.intro
                have hJ := Lib.hid hh.st
                clear hh
                go_simp
                refine (HRF.out w1).mono ?_
                rintro e w9 ⟨rfl, hb9⟩
                exact ⟨_, rfl, hb9, rfl, JBs.below hJ.out hb9⟩
              · refine regs.StepOK.yes 2 true 75 rfl rfl (fun L a w1 hh => hh.dep 2 75 (by kernel_rfl) (by kernel_rfl)) fun L a w1 hh => ?_
                have h7 : a.tmps[7]?.getD undef = .pointer (some ⟨g2, 0, none⟩) := by rw [← Array.getD_eq_getD_getElem?]; exact hh.old 7 rfl
                obtain ⟨⟨c0, c1, c2, c3, c4, c5⟩, -, ci⟩ := (hh.st.2.1).c6
                have hJ := Lib.hid hh.st
                clear hh
                go_simp
                exact ⟨_, rfl, regs.bl_refl _, rfl, hJ.out⟩
              · refine regs.StepOK.yes 2 true 75 rfl rfl (fun L a w1 hh => hh.dep 2 75 (by kernel_rfl) (by kernel_rfl)) fun L a w1 hh => ?_
                have h77 : a.tmps[77]?.getD undef = .agg #[.int .i64 ta, .int .i64 tb, .int .i64 tc, .int .i64 td, .int .i64 te, .int .i64 tf] := by rw [← Array.getD_eq_getD_getElem?]; exact hh.dep 4 77 (by kernel_rfl) (by kernel_rfl)
                have h78 : a.tmps[78]?.getD undef = .agg #[.int .i64 ta, .int .i64 tb, .int .i64 tc, .int .i64 td, .int .i64 te, .int .i64 tf] := by rw [← Array.getD_eq_getD_getElem?]; exact hh.dep 5 78 (by kernel_rfl) (by kernel_rfl)
                have eqst := HAS.out
                have hJ := Lib.hid hh.st
                clear hh
                go_simp
                exact ⟨_, rfl, regs.bl_refl _, rfl, hJ.out⟩
              · refine regs.StepOK.plain rfl fun L a w1 hh => ?_
                have h75 : a.tmps[75]?.getD undef = .bool true := by rw [← Array.getD_eq_getD_getElem?]; exact hh.dep 2 75 (by kernel_rfl) (by kernel_rfl)
                have h79 : a.tmps[79]?.getD undef = .bool true := by rw [← Array.getD_eq_getD_getElem?]; exact hh.dep 6 79 (by kernel_rfl) (by kernel_rfl)
                have hJ := Lib.hid hh.st
                clear hh
                go_simp
                exact ⟨_, rfl, regs.bl_refl _, rfl, hJ.out⟩
              · refine regs.StepOK.plain rfl fun L a w1 hh => ?_
                have h80 : a.tmps[80]?.getD undef = .bool true := by rw [← Array.getD_eq_getD_getElem?]; exact hh.dep 7 80 (by kernel_rfl) (by kernel_rfl)
                have hJ := Lib.hid hh.st
                clear hh
                go_simp
                exact ⟨_, rfl, regs.bl_refl _, rfl, hJ.out⟩
              · refine regs.StepOK.yes 8 true 81 rfl rfl (fun L a w1 hh => hh.dep 8 81 (by kernel_rfl) (by kernel_rfl)) fun L a w1 hh => ?_
                have := True.intro
                have hJ := Lib.hid hh.st
                clear hh
                go_simp
                refine (awake_any w1).mono ?_
                rintro e w9 ⟨rfl, hb9⟩
                exact ⟨_, rfl, hb9, rfl, JBs.below hJ.out hb9⟩
              · refine regs.StepOK.plain rfl fun L a w1 hh => ?_
                have h81 : a.tmps[81]?.getD undef = .bool true := by rw [← Array.getD_eq_getD_getElem?]; exact hh.dep 8 81 (by kernel_rfl) (by kernel_rfl)
                have h82 : a.tmps[82]?.getD undef = .bool true := by rw [← Array.getD_eq_getD_getElem?]; exact hh.dep 9 82 (by kernel_rfl) (by kernel_rfl)
                have hJ := Lib.hid hh.st
                clear hh
                go_simp
                exact ⟨_, rfl, regs.bl_refl _, rfl, hJ.out⟩
              · refine regs.StepOK.plain rfl fun L a w1 hh => ?_
                have h83 : a.tmps[83]?.getD undef = .bool true := by rw [← Array.getD_eq_getD_getElem?]; exact hh.dep 10 83 (by kernel_rfl) (by kernel_rfl)
                have hJ := Lib.hid hh.st
                clear hh
                go_simp
                exact ⟨_, rfl, regs.bl_refl _, rfl, hJ.out⟩
              intro L w8 val hL hJ hR hv
              have h4 : val 4 = .bool true := hv 11 4 (by kernel_rfl)
              have HK8 := Lib.hid hJ
              have HR8 := Lib.hid hR
              clear hv hL hJ hR
              simp only [regs.putAll, List.map_cons, List.map_nil]
              rw [h4]
              generalize val 73 = v73
              generalize val 74 = v74
              generalize val 75 = v75
              generalize val 76 = v76
              generalize val 77 = v77
              generalize val 78 = v78
              generalize val 79 = v79
              generalize val 80 = v80
              generalize val 81 = v81
              generalize val 82 = v82
              generalize val 83 = v83
              simp only [Act.put, List.setIfInBounds_toArray, List.set_cons_zero, List.set_cons_succ]
              clear h4
              have B8 := Lib.hid (HB.out.trans (HR8.out.mono HB.out.size))
              clear HB HR8 HK8 HJ
              go_wp2_with (fail)
              go_ret
              exact ⟨rfl, B8.out⟩
            · have HF := Lib.hid hF
              clear hF HG2

              have hT := HTOLD.out _ _ _ HAT.out HF.out
              injection hT with h1 h2
              obtain rfl := h2
              injection h1 with z0 z1 z2 z3 z4 z5
              subst z0; subst z1; subst z2; subst z3; subst z4; subst z5
              have tF : (TE != 0) = true := by simpa using HF.out
              have tFF : (TE == TE) = true := by simp
              obtain ⟨⟨c0, c1, c2, c3, c4, c5⟩, -, ci⟩ := HG1.out.c6
              have hms := mp_same Mp.o
              unfold Mp.v Mp.o at hms
              simp only at hms
              clear HAT HF HTOLD HDONE
              go_wp2_with (fail)
              refine (awake_any _).mono ?_
              rintro e w9 ⟨rfl, hb⟩
              have B9 := Lib.hid (HB.out.trans (hb.mono HB.out.size))
              clear hb HB HG1
              go_wp2_with (fail)
              go_ret
              exact ⟨rfl, B9.out⟩
  | false =>
    go_wp2_with (fail)
    go_loopw [8, 32] (fun f i wr => ∃ (k : Nat) (F : Int) (b : Bool), k ≤ l.length ∧ i = .int .i64 k ∧ f = .int .i64 F ∧ Hid (F = bif b then 0 else 11) ∧ Hid (b = (false && (l.take k).all Mp.right)) ∧ Hid (Below w.heap.size w wr) ∧ Hid (Blk wr g1 [.int .i64 ta, .int .i64 tb, .int .i64 tc, .int .i64 td, .int .i64 te, .int .i64 tf]) ∧ Hid (Blk wr g2 [.int .i64 ka, .int .i64 kb, .int .i64 kc, .int .i64 kd, .int .i64 ke, .int .i64 kf])) (fun _ i _ => l.length - (intOf i).toNat)
    case atStart => exact ⟨0, _, false, Nat.zero_le _, rfl, rfl, rfl, rfl, B3, bg3, bq3⟩
    case round =>
      clear B3 bg3 bq3
      obtain ⟨k, F, b, hk, rfl, rfl, HF, Hb, HB, HG1, HG2⟩ := hrel
      by_cases hlt : k < l.length
      · obtain ⟨b0, off, rA, q0, q1, q2, q3, q4, q5⟩ := MRow.at_ (HROW.out.below HB.out) hlt
        subst rA
        have hkb : (k : Int) ≤ 1000 := by have := HN.out; omega
        have HALL := Lib.hid (all_take1 Mp.right l hlt)
        have HDN := Lib.hid (fun w => mp_dright l[k] w)
        have HRN := Lib.hid (fun w => mp_ref l[k] w)
        generalize l[k].right = r at *
        generalize l[k] = n at *
        obtain ⟨na, nb_, nc, nd, ne, nf⟩ := n
        unfold Mp.v at HDN HRN
        simp only at q0 q1 q2 q3 q4 q5 HDN HRN
        have hg : b0 < wr.heap.size := World.block_lt_of_cell? wr ⟨b0, _, none⟩ q0
        go_wp2_with (fail)
        refine (HRN.out _).mono ?_
        rintro e w4 ⟨rfl, hb⟩
        have B4 : Hid (Below w.heap.size w w4) := (HB.out.alloc HB.out.size _).trans (hb.mono (by have := HB.out.size; simp; omega))
        have g14 := Lib.hid ((HG1.out.alloc _).below' hb)
        have g24 := Lib.hid ((HG2.out.alloc _).below' hb)
        clear hb HB HG1 HG2 q0 q1 q2 q3 q4 q5 hg HRN
        go_wp2_with (fail)
        refine (HDN.out _).mono ?_
        rintro e w5 ⟨rfl, hb⟩
        have B5 := Lib.hid (B4.out.trans (hb.mono B4.out.size))
        have g15 := Lib.hid (g14.out.below' hb)
        have g25 := Lib.hid (g24.out.below' hb)
        clear hb B4 g14 g24 HDN
        cases r with
        | true =>
          have Hb2 : Hid (b = (false && (l.take (k + 1)).all Mp.right)) := by rw [HALL.out, Bool.and_true]; exact Hb.out
          clear HALL Hb
          go_wp2_with (fail)
          go_roundw
          case rel => exact ⟨k + 1, F, b, by omega, by go_num, rfl, HF, Hb2, B5, g15, g25⟩
          case measure => simp [intOf]; omega
        | false =>
          have Hb2 : Hid (false = (false && (l.take (k + 1)).all Mp.right)) := by rw [HALL.out, Bool.and_false, Bool.and_false]; rfl
          clear HALL Hb HF
          go_wp2_with (fail)
          go_roundw
          case rel => exact ⟨k + 1, 11, false, by omega, by go_num, rfl, rfl, Hb2, B5, g15, g25⟩
          case measure => simp [intOf]; omega
      · have Hb2 : Hid (b = (false && l.all Mp.right)) := by
          have h := Hb.out
          rw [List.take_of_length_le (by omega)] at h
          exact h
        obtain rfl : k = l.length := by omega
        have HAT0 : Hid (ThAt M l ⟨ka, kb, kc, kd, ke, kf⟩ F 0) := by
          show ThAt _ _ _ _ _
          have hM := HME.out
          rw [HF.out]
          cases b with
          | true =>
            have h := Hb2.out
            rw [hM]
            exact absurd h (by simp)
          | false => exact HBD.out _ _ (by have h := Hb2.out; simp at h; exact .inl trivial)
        clear HF Hb Hb2 hlt hk HST HBD
        go_wp2_with (fail)
        go_loopw [8, 43] (fun f i wr => ∃ (k : Nat) (F : Int) (q : Mp), k ≤ l.length ∧ i = .int .i64 k ∧ f = .int .i64 F ∧ Hid (ThAt M l q F k) ∧ Hid (Below w.heap.size w wr) ∧ Hid (Blk wr g1 [.int .i64 ta, .int .i64 tb, .int .i64 tc, .int .i64 td, .int .i64 te, .int .i64 tf]) ∧ Hid (Blk wr g2 q.cs)) (fun _ i _ => l.length - (intOf i).toNat)
        case atStart => exact ⟨0, _, _, Nat.zero_le _, rfl, rfl, HAT0, HB, HG1, HG2⟩
        case round =>
          clear HB HG1 HG2 HAT0 HME
          obtain ⟨k, F, q, hk, rfl, rfl, HAT, HB, HG1, HG2⟩ := hrel
          obtain ⟨qa, qb, qc, qd, qe, qf⟩ := q
          by_cases hlt : k < l.length
          · obtain ⟨b0, off, rA, q0, q1, q2, q3, q4, q5⟩ := MRow.at_ (HROW.out.below HB.out) hlt
            subst rA
            have hkb : (k : Int) ≤ 1000 := by have := HN.out; omega
            have HOVERk := Lib.hid (fun h => HOVER.out ⟨qa, qb, qc, qd, qe, qf⟩ k h hlt)
            have HSTEPk := Lib.hid (fun h => HSTEP.out ⟨qa, qb, qc, qd, qe, qf⟩ k h hlt)
            have HDTH := Lib.hid (fun w => mp_dthen ⟨qa, qb, qc, qd, qe, qf⟩ l[k] w)
            have HRFN := Lib.hid (fun w => mp_ref l[k] w)
            generalize l[k] = n at *
            generalize Mp.thenB ⟨qa, qb, qc, qd, qe, qf⟩ n = Y at *
            obtain ⟨X, hX⟩ : ∃ X, (if Y = true then Mp.then1 ⟨qa, qb, qc, qd, qe, qf⟩ n else Mp.o) = X := ⟨_, rfl⟩
            rw [hX] at HDTH
            have HXX : Hid (Y = true → Mp.then1 ⟨qa, qb, qc, qd, qe, qf⟩ n = X) := fun h => by rw [← hX, if_pos h]
            clear hX
            generalize Mp.then1 ⟨qa, qb, qc, qd, qe, qf⟩ n = X2 at *
            obtain ⟨na, nb_, nc, nd, ne, nf⟩ := n
            obtain ⟨xa, xb, xc, xd, xe, xf⟩ := X
            unfold Mp.v at HDTH HRFN
            simp only at q0 q1 q2 q3 q4 q5 HDTH HRFN
            have hg : b0 < wr.heap.size := World.block_lt_of_cell? wr ⟨b0, _, none⟩ q0
            have hin1 := HG1.out.inside
            have hin2 := HG2.out.inside
            by_cases hF : F = 0
            · subst hF
              go_wp2_with (fail)
              clear q0 q1 q2 q3 q4 q5 hg
              have HJ : Hid (JBs [(g1, [.int .i64 ta, .int .i64 tb, .int .i64 tc, .int .i64 td, .int .i64 te, .int .i64 tf]), (g2, [.int .i64 qa, .int .i64 qb, .int .i64 qc, .int .i64 qd, .int .i64 qe, .int .i64 qf]), (wr.heap.size, [.int .i64 na, .int .i64 nb_, .int .i64 nc, .int .i64 nd, .int .i64 ne, .int .i64 nf])] (wr.alloc (.cells #[.int .i64 na, .int .i64 nb_, .int .i64 nc, .int .i64 nd, .int .i64 ne, .int .i64 nf] 23))) := ⟨HG1.out.alloc _, HG2.out.alloc _, blk_new wr [.int .i64 na, .int .i64 nb_, .int .i64 nc, .int .i64 nd, .int .i64 ne, .int .i64 nf] _, trivial⟩
              have HB2 : Hid (Below w.heap.size w (wr.alloc (.cells #[.int .i64 na, .int .i64 nb_, .int .i64 nc, .int .i64 nd, .int .i64 ne, .int .i64 nf] 23))) := HB.out.alloc HB.out.size _
              have hgn : Hid (g2 < wr.heap.size) := hin2
              clear HB HG1 HG2 hin1 hin2
              generalize wr.alloc (.cells #[.int .i64 na, .int .i64 nb_, .int .i64 nc, .int .i64 nd, .int .i64 ne, .int .i64 nf] 23) = WB at *
              generalize wr.heap.size = gn at *
              refine regv.wp_region_put (Below WB.heap.size) (fun L V wx => JN WB.heap.size [(g1, [.int .i64 ta, .int .i64 tb, .int .i64 tc, .int .i64 td, .int .i64 te, .int .i64 tf]), (g2, [.int .i64 qa, .int .i64 qb, .int .i64 qc, .int .i64 qd, .int .i64 qe, .int .i64 qf]), (gn, [.int .i64 na, .int .i64 nb_, .int .i64 nc, .int .i64 nd, .int .i64 ne, .int .i64 nf])] [.int .i64 0, .int .i64 0, .int .i64 0, .int .i64 0, .int .i64 0, .int .i64 0] [.int .i64 xa, .int .i64 xb, .int .i64 xc, .int .i64 xd, .int .i64 xe, .int .i64 xf] (L 7) (L 8) (V 13) wx) [50, 51, 52, 53, 49, 54, 55, 13, 14] (by kernel_rfl) (by kernel_rfl) (fun _ => Below.refl _ _) (fun _ _ _ h k => h.trans k) (fun i => (match i with
                | 0 => regs.Say.val _ (.agg #[.int .i64 qa, .int .i64 qb, .int .i64 qc, .int .i64 qd, .int .i64 qe, .int .i64 qf])
                | 1 => regs.Say.val _ (.agg #[.int .i64 na, .int .i64 nb_, .int .i64 nc, .int .i64 nd, .int .i64 ne, .int .i64 nf])
                | 2 => regs.Say.val _ (.agg #[.int .i64 na, .int .i64 nb_, .int .i64 nc, .int .i64 nd, .int .i64 ne, .int .i64 nf])
                | 3 => regs.Say.val _ (.tuple #[.agg #[.int .i64 xa, .int .i64 xb, .int .i64 xc, .int .i64 xd, .int .i64 xe, .int .i64 xf], .bool Y])
                | 4 => regs.Say.val _ (.tuple #[.agg #[.int .i64 xa, .int .i64 xb, .int .i64 xc, .int .i64 xd, .int .i64 xe, .int .i64 xf], .bool Y])
                | 5 => regs.Say.val _ (.agg #[.int .i64 xa, .int .i64 xb, .int .i64 xc, .int .i64 xd, .int .i64 xe, .int .i64 xf])
                | 6 => regs.Say.val _ (.bool Y)
                | 7 => regs.Say.any _
                | 8 => regs.Say.any _
                | 9 => regs.Say.val _ (.bool Y)
                | _ => regs.Say.any _ : regs.Say (Below WB.heap.size)).p) (fun _ => regs.Say.mono _) (by kernel_rfl) ((Below.refl _ _).drew) (JN.start (w := WB.drew) HJ.out) ⟨?_, ?_, ?_, ?_, ?_, ?_, ?_, ?_, ?_, ?_, trivial⟩ ?_
              · refine regv.StepOK.plain rfl fun L a w1 hh => ?_
                have h7 : a.tmps[7]?.getD undef = .pointer (some ⟨g2, 0, none⟩) := by rw [← Array.getD_eq_getD_getElem?]; exact hh.old 7 rfl
                obtain ⟨⟨c0, c1, c2, c3, c4, c5⟩, -, ci⟩ := (hh.st.1.1.2.1).c6
                have hJ := Lib.hid hh.st
                clear hh
                go_simp
                exact ⟨_, rfl, Below.refl _ _, rfl, JN.slots hJ.out (regv.sl_ne (by decide))⟩
              · refine regv.StepOK.plain rfl fun L a w1 hh => ?_
                have h12 : a.tmps[12]?.getD undef = .pointer (some ⟨gn, 0, none⟩) := by rw [← Array.getD_eq_getD_getElem?]; exact hh.old 12 rfl
                obtain ⟨⟨c0, c1, c2, c3, c4, c5⟩, -, ci⟩ := (hh.st.1.1.2.2.1).c6
                have hJ := Lib.hid hh.st
                clear hh
                go_simp
                exact ⟨_, rfl, Below.refl _ _, rfl, JN.slots hJ.out (regv.sl_ne (by decide))⟩
              · refine regv.StepOK.plain rfl fun L a w1 hh => ?_
                have h51 : a.tmps[51]?.getD undef = .agg #[.int .i64 na, .int .i64 nb_, .int .i64 nc, .int .i64 nd, .int .i64 ne, .int .i64 nf] := by rw [← Array.getD_eq_getD_getElem?]; exact hh.dep 1 51 (by kernel_rfl) (by kernel_rfl)
                have := True.intro
                have hJ := Lib.hid hh.st
                clear hh
                go_simp
                refine (HRFN.out w1).mono ?_
                rintro e w9 ⟨rfl, hb9⟩
                exact ⟨_, rfl, hb9.mono hJ.out.1.2.1, rfl, JN.slots (JN.below hJ.out hb9) (regv.sl_ne (by decide))⟩
              · refine regv.StepOK.plain rfl fun L a w1 hh => ?_
                have h50 : a.tmps[50]?.getD undef = .agg #[.int .i64 qa, .int .i64 qb, .int .i64 qc, .int .i64 qd, .int .i64 qe, .int .i64 qf] := by rw [← Array.getD_eq_getD_getElem?]; exact hh.dep 0 50 (by kernel_rfl) (by kernel_rfl)
                have h52 : a.tmps[52]?.getD undef = .agg #[.int .i64 na, .int .i64 nb_, .int .i64 nc, .int .i64 nd, .int .i64 ne, .int .i64 nf] := by rw [← Array.getD_eq_getD_getElem?]; exact hh.dep 2 52 (by kernel_rfl) (by kernel_rfl)
                have := True.intro
                have hJ := Lib.hid hh.st
                clear hh
                go_simp
                refine (HDTH.out w1).mono ?_
                rintro e w9 ⟨rfl, hb9⟩
                exact ⟨_, rfl, hb9.mono hJ.out.1.2.1, rfl, JN.slots (JN.below hJ.out hb9) (regv.sl_ne (by decide))⟩
              · refine regv.StepOK.plain rfl fun L a w1 hh => ?_
                have h53 : a.tmps[53]?.getD undef = .tuple #[.agg #[.int .i64 xa, .int .i64 xb, .int .i64 xc, .int .i64 xd, .int .i64 xe, .int .i64 xf], .bool Y] := by rw [← Array.getD_eq_getD_getElem?]; exact hh.dep 3 53 (by kernel_rfl) (by kernel_rfl)
                have hJ := Lib.hid hh.st
                clear hh
                go_simp
                exact ⟨_, rfl, Below.refl _ _, rfl, JN.slots hJ.out (regv.sl_ne (by decide))⟩
              · refine regv.StepOK.plain rfl fun L a w1 hh => ?_
                have h49 : a.tmps[49]?.getD undef = .tuple #[.agg #[.int .i64 xa, .int .i64 xb, .int .i64 xc, .int .i64 xd, .int .i64 xe, .int .i64 xf], .bool Y] := by rw [← Array.getD_eq_getD_getElem?]; exact hh.dep 4 49 (by kernel_rfl) (by kernel_rfl)
                have hJ := Lib.hid hh.st
                clear hh
                go_simp
                exact ⟨_, rfl, Below.refl _ _, rfl, JN.slots hJ.out (regv.sl_ne (by decide))⟩
              · refine regv.StepOK.plain rfl fun L a w1 hh => ?_
                have h49 : a.tmps[49]?.getD undef = .tuple #[.agg #[.int .i64 xa, .int .i64 xb, .int .i64 xc, .int .i64 xd, .int .i64 xe, .int .i64 xf], .bool Y] := by rw [← Array.getD_eq_getD_getElem?]; exact hh.dep 4 49 (by kernel_rfl) (by kernel_rfl)
                have hJ := Lib.hid hh.st
                clear hh
                go_simp
                exact ⟨_, rfl, Below.refl _ _, rfl, JN.slots hJ.out (regv.sl_ne (by decide))⟩
              · refine regv.StepOK.plain rfl fun L a w1 hh => ?_
                have hJ := Lib.hid hh.st
                have hsz := Lib.hid hh.size
                have hun := Lib.hid hh.un
                clear hh
                go_simp
                exact ⟨_, rfl, (Below.refl _ _).alloc hJ.out.1.2.1 _, trivial, JN.new hJ.out hun.out (regv.sl_same (by rw [hsz.out]; simp))⟩
              · refine regv.StepOK.plain rfl fun L a w1 hh => ?_
                have h54 : a.tmps[54]?.getD undef = .agg #[.int .i64 xa, .int .i64 xb, .int .i64 xc, .int .i64 xd, .int .i64 xe, .int .i64 xf] := by rw [← Array.getD_eq_getD_getElem?]; exact hh.dep 5 54 (by kernel_rfl) (by kernel_rfl)
                obtain ⟨g, h0, hg, hB⟩ := hh.st.2.1 (hh.up 7 (by kernel_rfl))
                have h13 : a.tmps[13]?.getD undef = .pointer (some ⟨g, 0, none⟩) := by rw [← Array.getD_eq_getD_getElem?]; exact h0
                rw [hh.un] at hB
                obtain ⟨⟨c0, c1, c2, c3, c4, c5⟩, ⟨f0, f1, f2, f3, f4, f5⟩, ci⟩ := (show Blk w1 g [.int .i64 0, .int .i64 0, .int .i64 0, .int .i64 0, .int .i64 0, .int .i64 0] from hB).c6
                have hP := Lib.hid (JN.put hh.st rfl (hh.up 7 (by kernel_rfl)) hh.un h0)
                clear hh h0 hB
                go_simp
                exact ⟨hP.out.2, ⟨undef, trivial⟩, hP.out.1⟩
              · refine regv.StepOK.plain rfl fun L a w1 hh => ?_
                have h55 : a.tmps[55]?.getD undef = .bool Y := by rw [← Array.getD_eq_getD_getElem?]; exact hh.dep 6 55 (by kernel_rfl) (by kernel_rfl)
                have hJ := Lib.hid hh.st
                clear hh
                go_simp
                exact ⟨_, rfl, Below.refl _ _, rfl, JN.slots hJ.out (regv.sl_ne (by decide))⟩
              intro L w6 val hL hJ hR hv
              have h14 : val 14 = .bool Y := hv 9 14 (by kernel_rfl)
              obtain ⟨g6, e6, hg6, hB6⟩ := hJ.2.1 (hL 7 (by decide))
              rw [hL 8 (by decide)] at hB6
              have HN6 := Lib.hid (And.intro hg6 (show Blk w6 g6 [.int .i64 xa, .int .i64 xb, .int .i64 xc, .int .i64 xd, .int .i64 xe, .int .i64 xf] from hB6))
              have HK6 := Lib.hid hJ.1.1
              clear hg6 hB6
              have HR6 := Lib.hid hR
              clear hv hL hJ hR
              simp only [regs.putAll, List.map_cons, List.map_nil]
              rw [h14, e6]
              generalize val 50 = v50
              generalize val 51 = v51
              generalize val 52 = v52
              generalize val 53 = v53
              generalize val 49 = v49
              generalize val 54 = v54
              generalize val 55 = v55
              simp only [Act.put, List.setIfInBounds_toArray, List.set_cons_zero, List.set_cons_succ]
              clear h14 e6
              have HB6 : Hid (Below w.heap.size w w6) := HB2.out.trans (HR6.out.mono HB2.out.size)
              have hG1 : Hid (Blk w6 g1 [.int .i64 ta, .int .i64 tb, .int .i64 tc, .int .i64 td, .int .i64 te, .int .i64 tf]) := HK6.out.1
              have hG2 : Hid (Blk w6 g2 [.int .i64 qa, .int .i64 qb, .int .i64 qc, .int .i64 qd, .int .i64 qe, .int .i64 qf]) := HK6.out.2.1
              have hG6 := Lib.hid HN6.out.2
              have hne : g1 ≠ g2 := by have := hg2.out.1; omega
              clear HR6 HK6 HN6 HB2 HJ HDTH HRFN
              obtain ⟨⟨c0, c1, c2, c3, c4, c5⟩, -, ci⟩ := hG6.out.c6
              obtain ⟨⟨d0, d1, d2, d3, d4, d5⟩, ⟨f0, f1, f2, f3, f4, f5⟩, di⟩ := hG2.out.c6
              cases Y with
              | true =>
                obtain rfl := HXX.out rfl
                have HAT2 := Lib.hid (HSTEPk.out HAT.out rfl)
                clear HAT HSTEPk HOVERk HXX
                go_wp2_with (fail)
                go_roundw
                case rel => exact ⟨k + 1, 0, _, by omega, by go_num, rfl, HAT2, below6 HB6.out hg2.out.2 _ _ _ _ _ _, Blk.off6 hG1.out hne _ _ _ _ _ _, Blk.put6 hG2.out _ _ _ _ _ _⟩
                case measure => simp [intOf]; omega
              | false =>
                have HAT2 := Lib.hid (HOVERk.out HAT.out rfl ⟨xa, xb, xc, xd, xe, xf⟩ (k + 1))
                clear HAT HSTEPk HOVERk HXX
                go_wp2_with (fail)
                go_roundw
                case rel => exact ⟨k + 1, 35, _, by omega, by go_num, rfl, HAT2, below6 HB6.out hg2.out.2 _ _ _ _ _ _, Blk.off6 hG1.out hne _ _ _ _ _ _, Blk.put6 hG2.out _ _ _ _ _ _⟩
                case measure => simp [intOf]; omega
            · have HF := Lib.hid hF
              have tF0 : (F != 0) = true := by simpa using hF
              clear hF HSTEPk HOVERk HXX HDTH HRFN hin2
              have HB_ : Hid (Below w.heap.size w (wr.alloc (.cells #[.int .i64 na, .int .i64 nb_, .int .i64 nc, .int .i64 nd, .int .i64 ne, .int .i64 nf] 23))) := HB.out.alloc HB.out.size _
              have HG1_ : Hid (Blk (wr.alloc (.cells #[.int .i64 na, .int .i64 nb_, .int .i64 nc, .int .i64 nd, .int .i64 ne, .int .i64 nf] 23)) g1 [.int .i64 ta, .int .i64 tb, .int .i64 tc, .int .i64 td, .int .i64 te, .int .i64 tf]) := HG1.out.alloc _
              clear HB HG1

              have hT := HTOLD.out _ _ _ HAT.out HF.out
              injection hT with h1 h2
              obtain rfl := h2
              injection h1 with z0 z1 z2 z3 z4 z5
              subst z0; subst z1; subst z2; subst z3; subst z4; subst z5
              have tF : (TE != 0) = true := by simpa using HF.out
              have tFF : (TE == TE) = true := by simp
              clear HG2
              obtain ⟨⟨c0, c1, c2, c3, c4, c5⟩, -, ci⟩ := HG1_.out.c6
              have hms := mp_same Mp.o
              unfold Mp.v Mp.o at hms
              simp only at hms
              clear HAT HF HTOLD HDONE
              go_wp2_with (fail)
              refine (awake_any _).mono ?_
              rintro e w9 ⟨rfl, hb⟩
              have B9 := Lib.hid (HB_.out.trans (hb.mono HB_.out.size))
              clear hb HB_ HG1_
              go_wp2_with (fail)
              go_ret
              exact ⟨rfl, B9.out⟩
          · by_cases hF : F = 0
            · subst hF

              have hT := HDONE.out _ _ HAT.out (by omega)
              injection hT with h1 h2
              obtain rfl := h2
              injection h1 with z0 z1 z2 z3 z4 z5
              subst z0; subst z1; subst z2; subst z3; subst z4; subst z5
              have HJ : Hid (JBs [(g1, [.int .i64 ta, .int .i64 tb, .int .i64 tc, .int .i64 td, .int .i64 te, .int .i64 tf]), (g2, [.int .i64 ta, .int .i64 tb, .int .i64 tc, .int .i64 td, .int .i64 te, .int .i64 tf])] wr) := ⟨HG1.out, HG2.out, trivial⟩
              have HRF := Lib.hid (fun w => mp_ref ⟨ta, tb, tc, td, te, tf⟩ w)
              have HAS := Lib.hid (fun w => arr_same ⟨ta, tb, tc, td, te, tf⟩ w)
              unfold Mp.v at HRF HAS
              simp only at HRF HAS
              clear HAT HTOLD HDONE HG1 HG2
              go_wp2_with (fail)
              refine regs.wp_region_put (regs.bl) (fun _ wx => JBs [(g1, [.int .i64 ta, .int .i64 tb, .int .i64 tc, .int .i64 td, .int .i64 te, .int .i64 tf]), (g2, [.int .i64 ta, .int .i64 tb, .int .i64 tc, .int .i64 td, .int .i64 te, .int .i64 tf])] wx) [73, 74, 75, 76, 77, 78, 79, 80, 81, 82, 83, 4] (by kernel_rfl) (by kernel_rfl) (fun _ => regs.bl_refl _) (regs.bl_trans) (fun i => (match i with
                | 0 => regs.Say.val _ (.int .i64 0)
                | 1 => regs.Say.val _ (.bool true)
                | 2 => regs.Say.val _ (.bool true)
                | 3 => regs.Say.val _ (.agg #[.int .i64 ta, .int .i64 tb, .int .i64 tc, .int .i64 td, .int .i64 te, .int .i64 tf])
                | 4 => regs.Say.val _ (.agg #[.int .i64 ta, .int .i64 tb, .int .i64 tc, .int .i64 td, .int .i64 te, .int .i64 tf])
                | 5 => regs.Say.val _ (.agg #[.int .i64 ta, .int .i64 tb, .int .i64 tc, .int .i64 td, .int .i64 te, .int .i64 tf])
                | 6 => regs.Say.val _ (.bool true)
                | 7 => regs.Say.val _ (.bool true)
                | 8 => regs.Say.val _ (.bool true)
                | 9 => regs.Say.val _ (.bool true)
                | 10 => regs.Say.val _ (.bool true)
                | 11 => regs.Say.val _ (.bool true)
                | _ => regs.Say.any _ : regs.Say (regs.bl)).p) (fun _ => regs.Say.mono _) (by kernel_rfl) ((Below.refl _ _).drew) (HJ.out) ⟨?_, ?_, ?_, ?_, ?_, ?_, ?_, ?_, ?_, ?_, ?_, ?_, trivial⟩ ?_
              · refine regs.StepOK.plain rfl fun L a w1 hh => ?_
                have h6 : a.tmps[6]?.getD undef = .int .i64 0 := by rw [← Array.getD_eq_getD_getElem?]; exact hh.old 6 rfl
                have hJ := Lib.hid hh.st
                clear hh
                go_simp
                exact ⟨_, rfl, regs.bl_refl _, rfl, hJ.out⟩
              · refine regs.StepOK.plain rfl fun L a w1 hh => ?_
                have h73 : a.tmps[73]?.getD undef = .int .i64 0 := by rw [← Array.getD_eq_getD_getElem?]; exact hh.dep 0 73 (by kernel_rfl) (by kernel_rfl)
                have hJ := Lib.hid hh.st
                clear hh
                go_simp
                exact ⟨_, rfl, regs.bl_refl _, rfl, hJ.out⟩
              · refine regs.StepOK.plain rfl fun L a w1 hh => ?_
                have h74 : a.tmps[74]?.getD undef = .bool true := by rw [← Array.getD_eq_getD_getElem?]; exact hh.dep 1 74 (by kernel_rfl) (by kernel_rfl)
                have hJ := Lib.hid hh.st
                clear hh
                go_simp
                exact ⟨_, rfl, regs.bl_refl _, rfl, hJ.out⟩
              · refine regs.StepOK.yes 2 true 75 rfl rfl (fun L a w1 hh => hh.dep 2 75 (by kernel_rfl) (by kernel_rfl)) fun L a w1 hh => ?_
                have h5 : a.tmps[5]?.getD undef = .pointer (some ⟨g1, 0, none⟩) := by rw [← Array.getD_eq_getD_getElem?]; exact hh.old 5 rfl
                obtain ⟨⟨c0, c1, c2, c3, c4, c5⟩, -, ci⟩ := (hh.st.1).c6
                have hJ := Lib.hid hh.st
                clear hh
                go_simp
                exact ⟨_, rfl, regs.bl_refl _, rfl, hJ.out⟩
              · refine regs.StepOK.yes 2 true 75 rfl rfl (fun L a w1 hh => hh.dep 2 75 (by kernel_rfl) (by kernel_rfl)) fun L a w1 hh => ?_
                have h76 : a.tmps[76]?.getD undef = .agg #[.int .i64 ta, .int .i64 tb, .int .i64 tc, .int .i64 td, .int .i64 te, .int .i64 tf] := by rw [← Array.getD_eq_getD_getElem?]; exact hh.dep 3 76 (by kernel_rfl) (by kernel_rfl)
                have := True.intro
                have hJ := Lib.hid hh.st
                clear hh
                go_simp
                refine (HRF.out w1).mono ?_
                rintro e w9 ⟨rfl, hb9⟩
                exact ⟨_, rfl, hb9, rfl, JBs.below hJ.out hb9⟩
              · refine regs.StepOK.yes 2 true 75 rfl rfl (fun L a w1 hh => hh.dep 2 75 (by kernel_rfl) (by kernel_rfl)) fun L a w1 hh => ?_
                have h7 : a.tmps[7]?.getD undef = .pointer (some ⟨g2, 0, none⟩) := by rw [← Array.getD_eq_getD_getElem?]; exact hh.old 7 rfl
                obtain ⟨⟨c0, c1, c2, c3, c4, c5⟩, -, ci⟩ := (hh.st.2.1).c6
                have hJ := Lib.hid hh.st
                clear hh
                go_simp
                exact ⟨_, rfl, regs.bl_refl _, rfl, hJ.out⟩
              · refine regs.StepOK.yes 2 true 75 rfl rfl (fun L a w1 hh => hh.dep 2 75 (by kernel_rfl) (by kernel_rfl)) fun L a w1 hh => ?_
                have h77 : a.tmps[77]?.getD undef = .agg #[.int .i64 ta, .int .i64 tb, .int .i64 tc, .int .i64 td, .int .i64 te, .int .i64 tf] := by rw [← Array.getD_eq_getD_getElem?]; exact hh.dep 4 77 (by kernel_rfl) (by kernel_rfl)
                have h78 : a.tmps[78]?.getD undef = .agg #[.int .i64 ta, .int .i64 tb, .int .i64 tc, .int .i64 td, .int .i64 te, .int .i64 tf] := by rw [← Array.getD_eq_getD_getElem?]; exact hh.dep 5 78 (by kernel_rfl) (by kernel_rfl)
                have eqst := HAS.out
                have hJ := Lib.hid hh.st
                clear hh
                go_simp
                exact ⟨_, rfl, regs.bl_refl _, rfl, hJ.out⟩
              · refine regs.StepOK.plain rfl fun L a w1 hh => ?_
                have h75 : a.tmps[75]?.getD undef = .bool true := by rw [← Array.getD_eq_getD_getElem?]; exact hh.dep 2 75 (by kernel_rfl) (by kernel_rfl)
                have h79 : a.tmps[79]?.getD undef = .bool true := by rw [← Array.getD_eq_getD_getElem?]; exact hh.dep 6 79 (by kernel_rfl) (by kernel_rfl)
                have hJ := Lib.hid hh.st
                clear hh
                go_simp
                exact ⟨_, rfl, regs.bl_refl _, rfl, hJ.out⟩
              · refine regs.StepOK.plain rfl fun L a w1 hh => ?_
                have h80 : a.tmps[80]?.getD undef = .bool true := by rw [← Array.getD_eq_getD_getElem?]; exact hh.dep 7 80 (by kernel_rfl) (by kernel_rfl)
                have hJ := Lib.hid hh.st
                clear hh
                go_simp
                exact ⟨_, rfl, regs.bl_refl _, rfl, hJ.out⟩
              · refine regs.StepOK.yes 8 true 81 rfl rfl (fun L a w1 hh => hh.dep 8 81 (by kernel_rfl) (by kernel_rfl)) fun L a w1 hh => ?_
                have := True.intro
                have hJ := Lib.hid hh.st
                clear hh
                go_simp
                refine (awake_any w1).mono ?_
                rintro e w9 ⟨rfl, hb9⟩
                exact ⟨_, rfl, hb9, rfl, JBs.below hJ.out hb9⟩
              · refine regs.StepOK.plain rfl fun L a w1 hh => ?_
                have h81 : a.tmps[81]?.getD undef = .bool true := by rw [← Array.getD_eq_getD_getElem?]; exact hh.dep 8 81 (by kernel_rfl) (by kernel_rfl)
                have h82 : a.tmps[82]?.getD undef = .bool true := by rw [← Array.getD_eq_getD_getElem?]; exact hh.dep 9 82 (by kernel_rfl) (by kernel_rfl)
                have hJ := Lib.hid hh.st
                clear hh
                go_simp
                exact ⟨_, rfl, regs.bl_refl _, rfl, hJ.out⟩
              · refine regs.StepOK.plain rfl fun L a w1 hh => ?_
                have h83 : a.tmps[83]?.getD undef = .bool true := by rw [← Array.getD_eq_getD_getElem?]; exact hh.dep 10 83 (by kernel_rfl) (by kernel_rfl)
                have hJ := Lib.hid hh.st
                clear hh
                go_simp
                exact ⟨_, rfl, regs.bl_refl _, rfl, hJ.out⟩
              intro L w8 val hL hJ hR hv
              have h4 : val 4 = .bool true := hv 11 4 (by kernel_rfl)
              have HK8 := Lib.hid hJ
              have HR8 := Lib.hid hR
              clear hv hL hJ hR
              simp only [regs.putAll, List.map_cons, List.map_nil]
              rw [h4]
              generalize val 73 = v73
              generalize val 74 = v74
              generalize val 75 = v75
              generalize val 76 = v76
              generalize val 77 = v77
              generalize val 78 = v78
              generalize val 79 = v79
              generalize val 80 = v80
              generalize val 81 = v81
              generalize val 82 = v82
              generalize val 83 = v83
              simp only [Act.put, List.setIfInBounds_toArray, List.set_cons_zero, List.set_cons_succ]
              clear h4
              have B8 := Lib.hid (HB.out.trans (HR8.out.mono HB.out.size))
              clear HB HR8 HK8 HJ
              go_wp2_with (fail)
              go_ret
              exact ⟨rfl, B8.out⟩
            · have HF := Lib.hid hF
              clear hF HG2

              have hT := HTOLD.out _ _ _ HAT.out HF.out
              injection hT with h1 h2
              obtain rfl := h2
              injection h1 with z0 z1 z2 z3 z4 z5
              subst z0; subst z1; subst z2; subst z3; subst z4; subst z5
              have tF : (TE != 0) = true := by simpa using HF.out
              have tFF : (TE == TE) = true := by simp
              obtain ⟨⟨c0, c1, c2, c3, c4, c5⟩, -, ci⟩ := HG1.out.c6
              have hms := mp_same Mp.o
              unfold Mp.v Mp.o at hms
              simp only at hms
              clear HAT HF HTOLD HDONE
              go_wp2_with (fail)
              refine (awake_any _).mono ?_
              rintro e w9 ⟨rfl, hb⟩
              have B9 := Lib.hid (HB.out.trans (hb.mono HB.out.size))
              clear hb HB HG1
              go_wp2_with (fail)
              go_ret
              exact ⟨rfl, B9.out⟩
end Go.Proofs.Ytmbfkaodoankaaa
