/-
  Layer 8: maps one behind the other.
-/
import Derived.Test.YtmbfkaodoankaaaAfD
namespace Go.Proofs.Ytmbfkaodoankaaa
open Go.RowKit

def MRow (w : World) (A : Option Addr) (l : List Mp) : Prop := SRow 6 Mp.cs w A l
theorem MRow.below {w w' : World} {A : Option Addr} {l : List Mp} (h : MRow w A l) (hb : Below w.heap.size w w') : MRow w' A l := SRow.below h hb
theorem MRow.at_ {w : World} {A : Option Addr} {l : List Mp} (h : MRow w A l) {j : Nat} (hj : j < l.length) : ∃ b off, A = some ⟨b, off, none⟩ ∧ w.cell? ⟨b, off + j * 6, none⟩ = some (.int .i64 l[j].a) ∧ w.cell? ⟨b, off + j * 6 + 1, none⟩ = some (.int .i64 l[j].b) ∧ w.cell? ⟨b, off + j * 6 + 2, none⟩ = some (.int .i64 l[j].c) ∧ w.cell? ⟨b, off + j * 6 + 3, none⟩ = some (.int .i64 l[j].d) ∧ w.cell? ⟨b, off + j * 6 + 4, none⟩ = some (.int .i64 l[j].e) ∧ w.cell? ⟨b, off + j * 6 + 5, none⟩ = some (.int .i64 l[j].f) := by
  obtain ⟨b, off, e, hc⟩ := h (by omega)
  exact ⟨b, off, e, hc j hj 0 _ rfl, hc j hj 1 _ rfl, hc j hj 2 _ rfl, hc j hj 3 _ rfl, hc j hj 4 _ rfl, hc j hj 5 _ rfl⟩
theorem Mp.cs_len (m : Mp) : m.cs.length = 6 := rfl
theorem mrow_new (w : World) (l : List Mp) (T : TypeId) {g : Nat} (hg : g = w.heap.size) : MRow (w.alloc (.cells (l.flatMap Mp.cs).toArray T)) (some ⟨g, 0, none⟩) l := srow_new Mp.cs_len w l T hg

def Mp.run (m : Mp) : List Mp → Mp × Bool
  | [] => (m, true)
  | n :: l => if m.thenB n = true then (m.then1 n).run l else (Mp.o, false)
def Mp.thens (m : Mp) (l : List Mp) : Mp × Int := if m.right = true ∧ l.all Mp.right = true then ((m.run l).1, if (m.run l).2 = true then 0 else 35) else (Mp.o, 11)
theorem thens_bad {m : Mp} {l : List Mp} (h : m.right = false ∨ l.all Mp.right = false) : m.thens l = (Mp.o, 11) := by
  unfold Mp.thens
  rw [if_neg (by rcases h with h | h <;> simp [h])]
theorem thens_yes {m q : Mp} {l : List Mp} (h1 : m.right = true) (h2 : l.all Mp.right = true) (h : m.run l = (q, true)) : m.thens l = (q, 0) := by
  unfold Mp.thens
  rw [if_pos ⟨h1, h2⟩, h, if_pos rfl]
theorem thens_over {m q : Mp} {l : List Mp} (h1 : m.right = true) (h2 : l.all Mp.right = true) (h : m.run l = (q, false)) : m.thens l = (q, 35) := by
  unfold Mp.thens
  rw [if_pos ⟨h1, h2⟩, h, if_neg (by simp)]
theorem run_step {q n : Mp} {l : List Mp} {k : Nat} (hk : k < l.length) (hn : l[k] = n) : q.run (l.drop k) = if q.thenB n = true then (q.then1 n).run (l.drop (k + 1)) else (Mp.o, false) := by
  rw [List.drop_eq_getElem_cons hk, hn]
  rfl

set_option maxHeartbeats 2000000 in
theorem mp_thens (m : Mp) (A : Option Addr) (l : List Mp) (c : Nat) (w : World) (hr : MRow w A l) (hn : l.length ≤ 9223372036854775807) :
    Calls Try.prog 14 #[m.v, .slice A l.length c] w fun e w' => e = .returned (.tuple #[(m.thens l).1.v, .int .i64 (m.thens l).2]) ∧ Below w.heap.size w w' := by
  have HROW := Lib.hid hr
  have HN := Lib.hid hn
  have HBAD := Lib.hid (thens_bad (m := m) (l := l))
  have HYES := Lib.hid (fun q => thens_yes (m := m) (q := q) (l := l))
  have HOVER := Lib.hid (fun q => thens_over (m := m) (q := q) (l := l))
  have HRM := Lib.hid (fun w => mp_right m w)
  have HRUN : Hid (m.run l = m.run (l.drop 0)) := rfl
  obtain ⟨RS, hRS⟩ : ∃ R, m.run l = R := ⟨_, rfl⟩
  rw [hRS] at HRUN HYES HOVER
  clear hRS
  obtain ⟨T, hT⟩ : ∃ T, m.thens l = T := ⟨_, rfl⟩
  rw [hT] at HBAD HYES HOVER ⊢
  obtain ⟨TM, TE⟩ := T
  clear hr hn hT
  generalize hmr : m.right = mr at *
  clear hmr
  have HMCS : Hid (m.cs = [.int .i64 m.a, .int .i64 m.b, .int .i64 m.c, .int .i64 m.d, .int .i64 m.e, .int .i64 m.f]) := rfl
  generalize hM : m = M at HRUN HMCS
  obtain ⟨a, b, c', d, e, f⟩ := m
  subst hM
  unfold Mp.v at HRM ⊢
  simp only at HRM ⊢
  go_enter Try.func14, Try.ntmps14
  go_wp2_with (fail)
  refine (HRM.out _).mono ?_
  rintro e1 w1 ⟨rfl, hb⟩
  have B1 : Hid (Below w.heap.size w w1) := (((Below.refl _ _).alloc (Nat.le_refl _) _).alloc (by simp) _).trans (hb.mono (by simp; omega))
  have bm1 : Hid (Blk w1 w.heap.size [.int .i64 a, .int .i64 b, .int .i64 c', .int .i64 d, .int .i64 e, .int .i64 f]) := ((blk_new w [.int .i64 a, .int .i64 b, .int .i64 c', .int .i64 d, .int .i64 e, .int .i64 f] _).alloc _).below hb (by simp; omega)
  have br1 : Hid (Blk w1 (w.heap.size + 1) Mp.o.cs) := (blk_at (w.alloc _) _ (by simp) Mp.o.cs _).below hb (by simp)
  clear hb HRM
  cases mr with
  | false =>
    have hT := HBAD.out (.inl rfl)
    injection hT with h1 h2
    subst h1; subst h2
    clear HBAD HYES HOVER HRUN HMCS bm1
    obtain ⟨⟨c0, c1, c2, c3, c4, c5⟩, ⟨f0, f1, f2, f3, f4, f5⟩, ri⟩ := Blk.c6 br1.out
    go_wp2_with (fail)
    exact blk_ret2 rfl rfl rfl (Blk.put6 br1.out _ _ _ _ _ _) Try.underlying23 rfl (by kernel_rfl) ⟨rfl, below6 B1.out (by omega) _ _ _ _ _ _⟩
  | true =>
    go_wp2_with (fail)
    go_loopw [18] (fun i wr => ∃ k : Nat, k ≤ l.length ∧ i = .int .i64 k ∧ Hid ((l.take k).all Mp.right = true) ∧ Hid (Below w.heap.size w wr) ∧ Hid (Blk wr w.heap.size [.int .i64 a, .int .i64 b, .int .i64 c', .int .i64 d, .int .i64 e, .int .i64 f]) ∧ Hid (Blk wr (w.heap.size + 1) Mp.o.cs)) (fun i _ => l.length - (intOf i).toNat)
    case atStart => exact ⟨0, Nat.zero_le _, rfl, rfl, B1, bm1, br1⟩
    case round =>
      obtain ⟨k, hk, rfl, HK, HB, HM, HR⟩ := hrel
      by_cases hlt : k < l.length
      · obtain ⟨b0, off, rA, q0, q1, q2, q3, q4, q5⟩ := MRow.at_ (HROW.out.below HB.out) hlt
        subst rA
        have H1 := Lib.hid (all_snoc (p := Mp.right) HK.out hlt)
        have HN2 := Lib.hid (all_bad (p := Mp.right) (l := l) hlt)
        have HRN := Lib.hid (fun w => mp_right l[k] w)
        have hkb : (k : Int) ≤ 9223372036854775806 := by have := HN.out; omega
        generalize l[k].right = y at *
        generalize l[k] = n at *
        obtain ⟨na, nb, nc, nd, ne, nf⟩ := n
        unfold Mp.v at HRN
        simp only at q0 q1 q2 q3 q4 q5 HRN
        have hg : b0 < wr.heap.size := World.block_lt_of_cell? wr ⟨b0, _, none⟩ q0
        clear HK
        go_wp2_with (fail)
        refine (HRN.out _).mono ?_
        rintro e2 w2 ⟨rfl, hb⟩
        have B2 : Hid (Below w.heap.size w w2) := (HB.out.alloc HB.out.size _).trans (hb.mono (by have := HB.out.size; simp; omega))
        have bm2 := Lib.hid ((HM.out.alloc _).below' hb)
        have br2 := Lib.hid ((HR.out.alloc _).below' hb)
        clear hb q0 q1 q2 q3 q4 q5 hg HB HM HR HRN
        cases y with
        | true =>
          have HB2 := Lib.hid (H1.out rfl)
          clear H1 HN2
          go_wp2_with (fail)
          go_roundw
          case rel => exact ⟨k + 1, by omega, by go_num, HB2, B2, bm2, br2⟩
          case measure => simp [intOf]; omega
        | false =>
          have hT := HBAD.out (.inr (HN2.out rfl))
          injection hT with h1 h2
          subst h1; subst h2
          clear HBAD HYES HOVER HRUN HMCS H1 HN2 bm2
          obtain ⟨⟨c0, c1, c2, c3, c4, c5⟩, ⟨f0, f1, f2, f3, f4, f5⟩, ri⟩ := Blk.c6 br2.out
          go_wp2_with (fail)
          exact blk_ret2 rfl rfl rfl (Blk.put6 br2.out _ _ _ _ _ _) Try.underlying23 rfl (by kernel_rfl) ⟨rfl, below6 B2.out (by omega) _ _ _ _ _ _⟩
      · have HA : Hid (l.all Mp.right = true) := by
          have h := HK.out
          rw [List.take_of_length_le (by omega)] at h
          exact h
        obtain rfl : k = l.length := by omega
        clear HK hlt hk HBAD
        have HRUN0 := Lib.hid (fun q => HYES.out q trivial HA.out)
        have HRUN1 := Lib.hid (fun q => HOVER.out q trivial HA.out)
        clear HYES HOVER bm1 br1 B1
        go_wp2_with (fail)
        go_loopw [29] (fun i wx => ∃ (k : Nat) (q : Mp), k ≤ l.length ∧ i = .int .i64 k ∧ Hid (RS = q.run (l.drop k)) ∧ Hid (Below w.heap.size w wx) ∧ Hid (Blk wx w.heap.size q.cs) ∧ Hid (Blk wx (w.heap.size + 1) Mp.o.cs)) (fun i _ => l.length - (intOf i).toNat)
        case atStart => exact ⟨0, _, Nat.zero_le _, rfl, HRUN, HB, HM, HR⟩
        case round =>
          clear HRUN HMCS HB HM HR
          obtain ⟨k, q, hk, rfl, HQ, HB, HM, HR⟩ := hrel
          obtain ⟨qa, qb, qc, qd, qe, qf⟩ := q
          by_cases hlt : k < l.length
          · obtain ⟨b0, off, rA, q0, q1, q2, q3, q4, q5⟩ := MRow.at_ (HROW.out.below HB.out) hlt
            subst rA
            have HSTEP := Lib.hid (run_step (q := ⟨qa, qb, qc, qd, qe, qf⟩) hlt rfl)
            rw [← HQ.out] at HSTEP
            have hkb : (k : Int) ≤ 9223372036854775806 := by have := HN.out; omega
            generalize l[k] = n at *
            obtain ⟨na, nb, nc, nd, ne, nf⟩ := n
            have HTH := Lib.hid (fun w => mp_then ⟨qa, qb, qc, qd, qe, qf⟩ ⟨na, nb, nc, nd, ne, nf⟩ w)
            generalize Mp.thenB ⟨qa, qb, qc, qd, qe, qf⟩ ⟨na, nb, nc, nd, ne, nf⟩ = y at *
            generalize Mp.then1 ⟨qa, qb, qc, qd, qe, qf⟩ ⟨na, nb, nc, nd, ne, nf⟩ = z at *
            obtain ⟨za, zb, zc, zd, ze, zf⟩ := z
            unfold Mp.v at HTH
            simp only at q0 q1 q2 q3 q4 q5 HTH
            have hg : b0 < wr.heap.size := World.block_lt_of_cell? wr ⟨b0, _, none⟩ q0
            obtain ⟨⟨m0, m1, m2, m3, m4, m5⟩, -, mi⟩ := Blk.c6 HM.out
            simp only at m0 m1 m2 m3 m4 m5
            clear HQ
            go_wp2_with (fail)
            refine (HTH.out _).mono ?_
            rintro e2 w2 ⟨rfl, hb⟩
            have B2 : Hid (Below w.heap.size w w2) := (HB.out.alloc HB.out.size _).trans (hb.mono (by have := HB.out.size; simp; omega))
            have bm2 := Lib.hid ((HM.out.alloc _).below' hb)
            have br2 := Lib.hid ((HR.out.alloc _).below' hb)
            clear hb q0 q1 q2 q3 q4 q5 hg HB HM HR HTH m0 m1 m2 m3 m4 m5 mi
            have hs2 := br2.out.inside
            cases y with
            | true =>
              have HB2 := Lib.hid (HSTEP.out.trans (if_pos rfl))
              clear HSTEP
              obtain ⟨⟨c0, c1, c2, c3, c4, c5⟩, ⟨f0, f1, f2, f3, f4, f5⟩, ri⟩ := Blk.c6 bm2.out
              go_wp2_with (fail)
              go_roundw
              case rel => exact ⟨k + 1, ⟨za, zb, zc, zd, ze, zf⟩, by omega, by go_num, HB2, (below6 B2.out (by omega) _ _ _ _ _ _).alloc (by have := B2.out.size; simp [World.setCell]; omega) _, (Blk.put6 bm2.out _ _ _ _ _ _).alloc _, (Blk.off6 br2.out (by omega) _ _ _ _ _ _).alloc _⟩
              case measure => simp [intOf]; omega
            | false =>
              have hT := HRUN1.out Mp.o (HSTEP.out.trans (if_neg (by decide)))
              injection hT with h1 h2
              subst h1; subst h2
              clear HRUN0 HRUN1 HSTEP bm2
              obtain ⟨⟨c0, c1, c2, c3, c4, c5⟩, ⟨f0, f1, f2, f3, f4, f5⟩, ri⟩ := Blk.c6 br2.out
              go_wp2_with (fail)
              exact blk_ret2 rfl rfl rfl ((Blk.put6 br2.out _ _ _ _ _ _).alloc _) Try.underlying23 rfl (by kernel_rfl) ⟨rfl, (below6 B2.out (by omega) _ _ _ _ _ _).alloc (by have := B2.out.size; simp [World.setCell]; omega) _⟩
          · have hT := HRUN0.out ⟨qa, qb, qc, qd, qe, qf⟩ (by rw [HQ.out, List.drop_of_length_le (by omega)]; rfl)
            injection hT with h1 h2
            subst h1; subst h2
            clear HRUN0 HRUN1 HQ
            obtain ⟨⟨m0, m1, m2, m3, m4, m5⟩, -, mi⟩ := Blk.c6 HM.out
            simp only at m0 m1 m2 m3 m4 m5
            obtain ⟨⟨c0, c1, c2, c3, c4, c5⟩, ⟨f0, f1, f2, f3, f4, f5⟩, ri⟩ := Blk.c6 HR.out
            go_wp2_with (fail)
            exact blk_ret2 rfl rfl rfl (Blk.put6 HR.out _ _ _ _ _ _) Try.underlying23 rfl (by kernel_rfl) ⟨rfl, below6 HB.out (by omega) _ _ _ _ _ _⟩
end Go.Proofs.Ytmbfkaodoankaaa
