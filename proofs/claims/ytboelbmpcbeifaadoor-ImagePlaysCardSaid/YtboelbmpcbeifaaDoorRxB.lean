/-
  Layer 6: Cut, around, Join.
-/
import Derived.Test.YtboelbmpcbeifaaDoorRxA
import Derived.Test.YtboelbmpcbeifaaDoorRegs
namespace Go.Proofs.YtboelbmpcbeifaaDoor
open Go.RowKit

def mx (x y : Int) : Int := if y > x then y else x
def mn (x y : Int) : Int := if y < x then y else x
def Bx.cut1 (r s : Bx) : Bx := ⟨mx r.a s.a, mx r.b s.b, mn r.c s.c, mn r.d s.d⟩
def Bx.cut (r : Bx) (l : List Bx) : Bx := (l.foldl Bx.cut1 r).nrm
def BRow (w : World) (A : Option Addr) (l : List Bx) : Prop := SRow 4 Bx.cs w A l
theorem BRow.below {w w' : World} {A : Option Addr} {l : List Bx} (h : BRow w A l) (hb : Below w.heap.size w w') : BRow w' A l := SRow.below h hb
theorem BRow.at_ {w : World} {A : Option Addr} {l : List Bx} (h : BRow w A l) {j : Nat} (hj : j < l.length) : ∃ b off, A = some ⟨b, off, none⟩ ∧ w.cell? ⟨b, off + j * 4, none⟩ = some (.int .i64 l[j].a) ∧ w.cell? ⟨b, off + j * 4 + 1, none⟩ = some (.int .i64 l[j].b) ∧ w.cell? ⟨b, off + j * 4 + 2, none⟩ = some (.int .i64 l[j].c) ∧ w.cell? ⟨b, off + j * 4 + 3, none⟩ = some (.int .i64 l[j].d) := by
  obtain ⟨b, off, e, hc⟩ := h (by omega)
  exact ⟨b, off, e, hc j hj 0 _ rfl, hc j hj 1 _ rfl, hc j hj 2 _ rfl, hc j hj 3 _ rfl⟩
theorem foldl_snoc {α β : Type} (f : β → α → β) (b : β) (l : List α) {k : Nat} (hk : k < l.length) : (l.take (k + 1)).foldl f b = f ((l.take k).foldl f b) l[k] := by
  rw [List.take_succ_eq_append_getElem hk, List.foldl_append]
  rfl

set_option maxHeartbeats 1000000 in
theorem bx_cut (r : Bx) (A : Option Addr) (l : List Bx) (c : Nat) (w : World) (hr : BRow w A l) (hn : l.length ≤ 9223372036854775807) :
    Calls Tryd.prog 46 #[r.v, .slice A l.length c] w fun e w' => e = .returned (r.cut l).v ∧ Below w.heap.size w w' := by
  have HROW := Lib.hid hr
  have HN := Lib.hid hn
  clear hr hn
  obtain ⟨ra, rb, rc, rd⟩ := r
  unfold Bx.v
  simp only
  go_enter Tryd.func46, Tryd.ntmps46
  go_wp2_with (fail)
  go_loopw [9] (fun i wr => ∃ (k : Nat) (q : Bx), k ≤ l.length ∧ i = .int .i64 k ∧ Hid (q = (l.take k).foldl Bx.cut1 ⟨ra, rb, rc, rd⟩) ∧ Hid (Blk wr w.heap.size q.cs) ∧ Hid (Blk wr (w.heap.size + 1) Bx.o.cs) ∧ Hid (Below w.heap.size w wr)) (fun i _ => l.length - (intOf i).toNat)
  case atStart => exact ⟨0, _, Nat.zero_le _, rfl, rfl, (blk_new w [.int .i64 ra, .int .i64 rb, .int .i64 rc, .int .i64 rd] _).alloc _, blk_at (w.alloc _) _ (by simp) Bx.o.cs _, ((Below.refl _ _).alloc (Nat.le_refl _) _).alloc (by simp) _⟩
  case round =>
    obtain ⟨k, q, hk, rfl, HQ, HB, HR, hb⟩ := hrel
    have HZ : Hid (w.heap.size + 1 < wr.heap.size) := HR.out.inside
    obtain ⟨qa, qb, qc, qd⟩ := q
    have HB' : Blk wr w.heap.size [.int .i64 qa, .int .i64 qb, .int .i64 qc, .int .i64 qd] := HB.out
    have HR' : Blk wr (w.heap.size + 1) [.int .i64 0, .int .i64 0, .int .i64 0, .int .i64 0] := HR.out
    obtain ⟨⟨c0, c1, c2, c3⟩, ⟨f0, f1, f2, f3⟩, hin⟩ := HB'.c4
    have HB2 := Lib.hid HB'
    have HR2 := Lib.hid HR'
    clear HB HR
    by_cases hlt : k < l.length
    · have hkb : (k : Int) ≤ 9223372036854775806 := by have := HN.out; omega
      have HQ2 := Lib.hid (foldl_snoc Bx.cut1 ⟨ra, rb, rc, rd⟩ l hlt)
      rw [← HQ.out] at HQ2
      obtain ⟨g, off, rA, q0, q1, q2, q3⟩ := BRow.at_ (HROW.out.below hb.out) hlt
      subst rA
      generalize l[k] = s at *
      obtain ⟨sa, sb, sc, sd⟩ := s
      simp only at q0 q1 q2 q3
      have hg : g < wr.heap.size := World.block_lt_of_cell? wr ⟨g, _, none⟩ q0
      clear HB' HR'
      go_wp2_with (fail)
      refine ⟨⟨k + 1, _, by omega, by go_num, HQ2.out.symm, (HB2.out.put4 _ _ _ _).alloc _, (HR2.out.off4 (by omega) _ _ _ _).alloc _, (below4 hb.out (Nat.le_refl _) _ _ _ _).alloc (by have := hb.out.size; simp [World.setCell]; omega) _⟩, by simp [intOf]; omega⟩
    · obtain ⟨⟨e0, e1, e2, e3⟩, ⟨g0, g1, g2, g3⟩, -⟩ := HR'.c4
      have HE : Hid (∀ W, Calls Tryd.prog 39 #[.agg #[.int .i64 qa, .int .i64 qb, .int .i64 qc, .int .i64 qd]] W fun e w' => e = .returned (Bx.cut ⟨ra, rb, rc, rd⟩ l).v ∧ Below W.heap.size W w') := fun W => by
        have h := bx_normal ⟨qa, qb, qc, qd⟩ W
        have e : Bx.nrm ⟨qa, qb, qc, qd⟩ = Bx.cut ⟨ra, rb, rc, rd⟩ l := by rw [HQ.out, List.take_of_length_le (by omega)]; rfl
        rw [e] at h
        exact h
      obtain ⟨⟨na, nb, nc, nd⟩, hn⟩ : ∃ n, Bx.cut ⟨ra, rb, rc, rd⟩ l = n := ⟨_, rfl⟩
      rw [hn] at HE
      have HN2 := Lib.hid hn
      clear hn
      unfold Bx.v at HE
      simp only at HE
      clear c0 c1 c2 c3 f0 f1 f2 f3
      obtain ⟨⟨c0, c1, c2, c3⟩, -, -⟩ := HB'.c4
      clear HB' HR'
      go_wp2_with (fail)
      refine (HE.out _).mono ?_
      rintro e w' ⟨rfl, hb'⟩
      have hB : Hid (Below w.heap.size w w') := hb.out.trans (hb'.mono (by have := HZ.out; omega))
      have hR : Hid (Blk w' (w.heap.size + 1) [.int .i64 0, .int .i64 0, .int .i64 0, .int .i64 0]) := HR2.out.below hb' HZ.out
      clear hb' c0 c1 c2 c3 e0 e1 e2 e3 g0 g1 g2 g3 hin
      obtain ⟨⟨c0, c1, c2, c3⟩, ⟨f0, f1, f2, f3⟩, -⟩ := hR.out.c4
      go_wp2_with (fail)
      exact blk_ret rfl rfl (hR.out.put4 _ _ _ _) Tryd.underlying30 rfl (by kernel_rfl) ⟨by rw [HN2.out], below4 hB.out (by omega) _ _ _ _⟩
/-! ### Join -/
def Bx.around (r s : Bx) : Bx := if r = Bx.o then s else if s = Bx.o then r else ⟨mn r.a s.a, mn r.b s.b, mx r.c s.c, mx r.d s.d⟩
def Bx.join1 (r s : Bx) : Bx := r.around s.nrm
def Bx.join (r : Bx) (l : List Bx) : Bx := l.foldl Bx.join1 r.nrm
theorem below3 {w : World} (o1 o2 o3 : Obj) : Below w.heap.size w (((w.alloc o1).alloc o2).alloc o3) := (((Below.refl _ _).alloc (Nat.le_refl _) _).alloc (by simp) _).alloc (by simp; omega) _
set_option maxHeartbeats 1000000 in
theorem bx_around (r s : Bx) (w : World) : Calls Tryd.prog 50 #[r.v, s.v] w fun e w' => e = .returned (r.around s).v ∧ Below w.heap.size w w' := by
  have HN : Hid (r.around s = if r = Bx.o then s else if s = Bx.o then r else ⟨mn r.a s.a, mn r.b s.b, mx r.c s.c, mx r.d s.d⟩) := rfl
  generalize r.around s = n at *
  obtain ⟨na, nb, nc, nd⟩ := n
  have e1 := fun w => bx_eq r Bx.o w
  have e2 := fun w => bx_eq s Bx.o w
  by_cases h1 : r = Bx.o
  · rw [decide_eq_true h1] at e1
    rw [if_pos h1] at HN
    clear h1 e2
    obtain ⟨a, b, c, d⟩ := r
    obtain ⟨a2, b2, c2, d2⟩ := s
    unfold Bx.v Bx.o at e1
    unfold Bx.v
    simp only at e1 ⊢
    go_enter Tryd.func50, Tryd.ntmps50
    go_wp2_with (fail)
    exact blk_ret rfl rfl (blk_at _ _ (by simp) [.int .i64 a2, .int .i64 b2, .int .i64 c2, .int .i64 d2] _) Tryd.underlying30 rfl (by kernel_rfl) ⟨by injection HN.out with h0 h1 h2 h3; rw [h0, h1, h2, h3], below3 _ _ _⟩
  · rw [decide_eq_false h1] at e1
    rw [if_neg h1] at HN
    clear h1
    by_cases h2 : s = Bx.o
    · rw [decide_eq_true h2] at e2
      rw [if_pos h2] at HN
      clear h2
      obtain ⟨a, b, c, d⟩ := r
      obtain ⟨a2, b2, c2, d2⟩ := s
      unfold Bx.v Bx.o at e1 e2
      unfold Bx.v
      simp only at e1 ⊢
      go_enter Tryd.func50, Tryd.ntmps50
      go_wp2_with (fail)
      exact blk_ret rfl rfl (blk_at _ _ (by simp) [.int .i64 a, .int .i64 b, .int .i64 c, .int .i64 d] _) Tryd.underlying30 rfl (by kernel_rfl) ⟨by injection HN.out with h0 h1 h2 h3; rw [h0, h1, h2, h3], below3 _ _ _⟩
    · rw [decide_eq_false h2] at e2
      rw [if_neg h2] at HN
      clear h2
      obtain ⟨a, b, c, d⟩ := r
      obtain ⟨a2, b2, c2, d2⟩ := s
      unfold Bx.v Bx.o at e1 e2
      unfold Bx.v
      simp only at e1 ⊢
      obtain ⟨A', hA'⟩ : ∃ m, (if a2 < a then a2 else a) = m := ⟨_, rfl⟩
      obtain ⟨B', hB'⟩ : ∃ m, (if b2 < b then b2 else b) = m := ⟨_, rfl⟩
      obtain ⟨C', hC'⟩ : ∃ m, (if c < c2 then c2 else c) = m := ⟨_, rfl⟩
      obtain ⟨D', hD'⟩ : ∃ m, (if d < d2 then d2 else d) = m := ⟨_, rfl⟩
      have HN2 : Hid ((⟨na, nb, nc, nd⟩ : Bx) = ⟨A', B', C', D'⟩) := HN.out.trans (by rw [← hA', ← hB', ← hC', ← hD']; rfl)
      clear HN
      go_enter Tryd.func50, Tryd.ntmps50
      go_wp2_with (fail)
      exact blk_ret rfl rfl (blk_at _ _ (by simp) [.int .i64 A', .int .i64 B', .int .i64 C', .int .i64 D'] _) Tryd.underlying30 rfl (by kernel_rfl) ⟨by injection HN2.out with h0 h1 h2 h3; rw [h0, h1, h2, h3], below3 _ _ _⟩

/-- how the world stands in Join's round: block g0 holds qs till it is written (4), which is behind its being read (0) -/
def JJ (g0 g1 z : Nat) (qs ss us os : List Value) (L : Nat → Bool) (wx : World) : Prop := (L 0 = false ∨ L 4 = false → Blk wx g0 qs) ∧ (L 4 = true → Blk wx g0 us) ∧ Blk wx g1 ss ∧ Blk wx z os
theorem JJ.below {g0 g1 z : Nat} {qs ss us os : List Value} {L : Nat → Bool} {w w' : World} (h : JJ g0 g1 z qs ss us os L w) (hb : Below w.heap.size w w') : JJ g0 g1 z qs ss us os L w' :=
  ⟨fun e => (h.1 e).below' hb, fun e => (h.2.1 e).below' hb, h.2.2.1.below' hb, h.2.2.2.below' hb⟩
set_option maxHeartbeats 1000000 in
theorem bx_join (r : Bx) (A : Option Addr) (l : List Bx) (c : Nat) (w : World) (hr : BRow w A l) (hn : l.length ≤ 9223372036854775807) :
    Calls Tryd.prog 42 #[r.v, .slice A l.length c] w fun e w' => e = .returned (r.join l).v ∧ Below w.heap.size w w' := by
  have HROW := Lib.hid hr
  have HL := Lib.hid hn
  have HE := Lib.hid (fun w => bx_normal r w)
  obtain ⟨⟨ma, mb, mc, md⟩, hm⟩ : ∃ m, r.nrm = m := ⟨_, rfl⟩
  rw [hm] at HE
  have HJ : Hid (r.join l = l.foldl Bx.join1 ⟨ma, mb, mc, md⟩) := by show _ = _; unfold Bx.join; rw [hm]
  obtain ⟨⟨na, nb, nc, nd⟩, hj⟩ : ∃ n, r.join l = n := ⟨_, rfl⟩
  rw [hj] at HJ ⊢
  clear hr hn hm hj
  obtain ⟨ra, rb, rc, rd⟩ := r
  unfold Bx.v at *
  simp only at HE ⊢
  go_enter Tryd.func42, Tryd.ntmps42
  go_wp2_with (fail)
  refine (HE.out _).mono ?_
  rintro e w' ⟨rfl, hb⟩
  have hB0 : Hid (Below w.heap.size w w') := (((Below.refl _ _).alloc (Nat.le_refl _) _).alloc (by simp) _).trans (hb.mono (by simp; try omega))
  have hR0 : Hid (Blk w' (w.heap.size + 1) Bx.o.cs) := (blk_at (w.alloc _) _ (by simp) Bx.o.cs _).below hb (by simp)
  have hS0 : Hid (w.heap.size + 2 ≤ w'.heap.size) := by have := hb.size; show _ ≤ _; simpa using this
  clear hb HE
  go_wp2_with (fail)
  go_loopw [12] (fun i wr => ∃ (k : Nat) (q : Bx), k ≤ l.length ∧ i = .int .i64 k ∧ Hid (q = (l.take k).foldl Bx.join1 ⟨ma, mb, mc, md⟩) ∧ Hid (Blk wr w'.heap.size q.cs) ∧ Hid (Blk wr (w.heap.size + 1) Bx.o.cs) ∧ Hid (Below w.heap.size w wr)) (fun i _ => l.length - (intOf i).toNat)
  case atStart => exact ⟨0, _, Nat.zero_le _, rfl, rfl, blk_new w' [.int .i64 ma, .int .i64 mb, .int .i64 mc, .int .i64 md] _, hR0.out.alloc _, hB0.out.alloc hB0.out.size _⟩
  case round =>
    obtain ⟨k, q, hk, rfl, HQ, HB, HR, hb⟩ := hrel
    have HZ : Hid (w.heap.size + 1 < wr.heap.size) := HR.out.inside
    obtain ⟨qa, qb, qc, qd⟩ := q
    have HB' : Blk wr w'.heap.size [.int .i64 qa, .int .i64 qb, .int .i64 qc, .int .i64 qd] := HB.out
    have HR' : Blk wr (w.heap.size + 1) [.int .i64 0, .int .i64 0, .int .i64 0, .int .i64 0] := HR.out
    obtain ⟨⟨c0, c1, c2, c3⟩, ⟨f0, f1, f2, f3⟩, hin⟩ := HB'.c4
    have HB2 := Lib.hid HB'
    have HR2 := Lib.hid HR'
    clear HB HR
    by_cases hlt : k < l.length
    · have hkb : (k : Int) ≤ 9223372036854775806 := by have := HL.out; omega
      have HQ2 := Lib.hid (foldl_snoc Bx.join1 ⟨ma, mb, mc, md⟩ l hlt)
      rw [← HQ.out] at HQ2
      obtain ⟨g, off, rA, q0, q1, q2, q3⟩ := BRow.at_ (HROW.out.below hb.out) hlt
      subst rA
      generalize l[k] = s at *
      have HE1 := Lib.hid (fun w => bx_normal s w)
      have HE2 := Lib.hid (fun w => bx_around ⟨qa, qb, qc, qd⟩ s.nrm w)
      have HQ3 : Hid (Bx.around ⟨qa, qb, qc, qd⟩ s.nrm = (l.take (k + 1)).foldl Bx.join1 ⟨ma, mb, mc, md⟩) := HQ2.out.symm
      generalize s.nrm = t at HE1 HE2 HQ3
      obtain ⟨ta, tb, tc, td⟩ := t
      generalize Bx.around ⟨qa, qb, qc, qd⟩ ⟨ta, tb, tc, td⟩ = u at HE2 HQ3
      obtain ⟨ua, ub, uc, ud⟩ := u
      obtain ⟨sa, sb, sc, sd⟩ := s
      unfold Bx.v at HE1 HE2
      simp only at q0 q1 q2 q3 HE1 HE2
      have hg : g < wr.heap.size := World.block_lt_of_cell? wr ⟨g, _, none⟩ q0
      clear HB' HR' HQ2
      go_wp2_with (fail)
      have HG2 : Hid (w'.heap.size < wr.heap.size) := hin
      have HB1 : Hid (Below w.heap.size w (wr.alloc (.cells #[.int .i64 sa, .int .i64 sb, .int .i64 sc, .int .i64 sd] 30))) := hb.out.alloc hb.out.size _
      have k0 : Blk (wr.alloc (.cells #[.int .i64 sa, .int .i64 sb, .int .i64 sc, .int .i64 sd] 30)) w'.heap.size [.int .i64 qa, .int .i64 qb, .int .i64 qc, .int .i64 qd] := HB2.out.alloc _
      have k1 : Blk (wr.alloc (.cells #[.int .i64 sa, .int .i64 sb, .int .i64 sc, .int .i64 sd] 30)) wr.heap.size [.int .i64 sa, .int .i64 sb, .int .i64 sc, .int .i64 sd] := blk_new wr [.int .i64 sa, .int .i64 sb, .int .i64 sc, .int .i64 sd] _
      have k2 : Hid (Blk (wr.alloc (.cells #[.int .i64 sa, .int .i64 sb, .int .i64 sc, .int .i64 sd] 30)) (w.heap.size + 1) [.int .i64 0, .int .i64 0, .int .i64 0, .int .i64 0]) := HR2.out.alloc _
      obtain ⟨g1, hg1⟩ : ∃ g1, g1 = wr.heap.size := ⟨_, rfl⟩
      rw [← hg1] at k1 ⊢
      obtain ⟨g0, hg0⟩ : ∃ g0, g0 = w'.heap.size := ⟨_, rfl⟩
      rw [← hg0] at k0 ⊢
      have HG0 := Lib.hid hg0
      have HG2 : Hid (g0 < g1) := by have := HG2.out; show _ < _; omega
      clear hg0 q0 q1 q2 q3 hg c0 c1 c2 c3 f0 f1 f2 f3 hin HB2 HR2 hg1
      generalize (wr.alloc (.cells #[.int .i64 sa, .int .i64 sb, .int .i64 sc, .int .i64 sd] 30)) = w1 at *
      have K0 := Lib.hid k0
      have K1 := Lib.hid k1
      clear k0 k1
      have HSZ : Hid (w.heap.size ≤ w1.heap.size) := HB1.out.size
      have HG1 : Hid (w.heap.size ≤ g0 ∧ g1 ≠ g0 ∧ w.heap.size + 1 ≠ g0) := by have := HG0.out; have := hS0.out; have := HG2.out; show _ ∧ _; omega
      refine regs.wp_region_put (Below w.heap.size) (JJ g0 g1 (w.heap.size + 1) [.int .i64 qa, .int .i64 qb, .int .i64 qc, .int .i64 qd] [.int .i64 sa, .int .i64 sb, .int .i64 sc, .int .i64 sd] [.int .i64 ua, .int .i64 ub, .int .i64 uc, .int .i64 ud] [.int .i64 0, .int .i64 0, .int .i64 0, .int .i64 0]) [16, 17, 18, 19] (by kernel_rfl) (by kernel_rfl) (fun _ => Below.refl _ _) (fun _ _ _ h k => h.trans k) (fun i => (match i with
        | 0 => regs.Say.val _ (.agg #[.int .i64 qa, .int .i64 qb, .int .i64 qc, .int .i64 qd])
        | 1 => regs.Say.val _ (.agg #[.int .i64 sa, .int .i64 sb, .int .i64 sc, .int .i64 sd])
        | 2 => regs.Say.val _ (.agg #[.int .i64 ta, .int .i64 tb, .int .i64 tc, .int .i64 td])
        | 3 => regs.Say.val _ (.agg #[.int .i64 ua, .int .i64 ub, .int .i64 uc, .int .i64 ud])
        | 4 => regs.Say.any _
        | _ => regs.Say.any _ : regs.Say (Below w.heap.size)).p) (fun _ => regs.Say.mono _) (by kernel_rfl) ((Below.refl _ _).drew) (⟨fun _ => K0.out, fun e => absurd e Bool.false_ne_true, K1.out, k2.out⟩) ⟨?_, ?_, ?_, ?_, ?_, trivial⟩ ?_
      · refine regs.StepOK.plain rfl fun L a w1 hh => ?_
        have h5 : a.tmps[5]?.getD undef = .pointer (some ⟨g0, 0, none⟩) := by rw [← Array.getD_eq_getD_getElem?]; exact hh.old 5 rfl
        have hJ := Lib.hid hh.st
        obtain ⟨⟨c0, c1, c2, c3⟩, -, -⟩ := (hh.st.1 (.inl hh.un)).c4
        clear hh
        go_simp
        exact ⟨_, rfl, Below.refl _ _, rfl, fun e => hJ.out.1 (.inr (e.resolve_left (fun x => absurd (show true = false from x) (by decide)))), hJ.out.2⟩
      · refine regs.StepOK.plain rfl fun L a w1 hh => ?_
        have h7 : a.tmps[7]?.getD undef = .pointer (some ⟨g1, 0, none⟩) := by rw [← Array.getD_eq_getD_getElem?]; exact hh.old 7 rfl
        obtain ⟨⟨c0, c1, c2, c3⟩, -, -⟩ := hh.st.2.2.1.c4
        have hJ := Lib.hid hh.st
        clear hh
        go_simp
        exact ⟨_, rfl, Below.refl _ _, rfl, hJ.out⟩
      · refine regs.StepOK.plain rfl fun L a w1 hh => ?_
        have h17 : a.tmps[17]?.getD undef = .agg #[.int .i64 sa, .int .i64 sb, .int .i64 sc, .int .i64 sd] := by rw [← Array.getD_eq_getD_getElem?]; exact hh.dep 1 17 (by kernel_rfl) (by kernel_rfl)
        have hJ := Lib.hid hh.st
        have hz := hh.rel.size
        clear hh
        go_simp
        refine (HE1.out _).mono ?_
        rintro e w9 ⟨rfl, hb9⟩
        exact ⟨_, rfl, hb9.mono (Nat.le_trans HSZ.out hz), rfl, hJ.out.below hb9⟩
      · refine regs.StepOK.plain rfl fun L a w1 hh => ?_
        have h16 : a.tmps[16]?.getD undef = .agg #[.int .i64 qa, .int .i64 qb, .int .i64 qc, .int .i64 qd] := by rw [← Array.getD_eq_getD_getElem?]; exact hh.dep 0 16 (by kernel_rfl) (by kernel_rfl)
        have h18 : a.tmps[18]?.getD undef = .agg #[.int .i64 ta, .int .i64 tb, .int .i64 tc, .int .i64 td] := by rw [← Array.getD_eq_getD_getElem?]; exact hh.dep 2 18 (by kernel_rfl) (by kernel_rfl)
        have hJ := Lib.hid hh.st
        have hz := hh.rel.size
        clear hh
        go_simp
        refine (HE2.out _).mono ?_
        rintro e w9 ⟨rfl, hb9⟩
        exact ⟨_, rfl, hb9.mono (Nat.le_trans HSZ.out hz), rfl, hJ.out.below hb9⟩
      · refine regs.StepOK.plain rfl fun L a w1 hh => ?_
        have h5 : a.tmps[5]?.getD undef = .pointer (some ⟨g0, 0, none⟩) := by rw [← Array.getD_eq_getD_getElem?]; exact hh.old 5 rfl
        have h19 : a.tmps[19]?.getD undef = .agg #[.int .i64 ua, .int .i64 ub, .int .i64 uc, .int .i64 ud] := by rw [← Array.getD_eq_getD_getElem?]; exact hh.dep 3 19 (by kernel_rfl) (by kernel_rfl)
        have hJ := Lib.hid hh.st
        obtain ⟨⟨c0, c1, c2, c3⟩, ⟨f0, f1, f2, f3⟩, -⟩ := (hh.st.1 (.inr hh.un)).c4
        have hB := Lib.hid (hh.st.1 (.inr hh.un))
        have hu := Lib.hid (hh.up 0 (by kernel_rfl))
        clear hh
        go_simp
        exact ⟨below4 (Below.refl _ _) HG1.out.1 _ _ _ _, ⟨undef, trivial⟩, fun e => (e.elim (fun x => absurd (hu.out.symm.trans x) (by decide)) (fun x => absurd (show true = false from x) (by decide))), fun _ => hB.out.put4 _ _ _ _, hJ.out.2.2.1.off4 HG1.out.2.1 _ _ _ _, hJ.out.2.2.2.off4 HG1.out.2.2 _ _ _ _⟩
      intro L w5 val hL hJ hR hv
      have h0 := hv 0 16 (by kernel_rfl)
      have h1 := hv 1 17 (by kernel_rfl)
      have h2 := hv 2 18 (by kernel_rfl)
      have h3 := hv 3 19 (by kernel_rfl)
      have hX : Hid (Blk w5 g0 [.int .i64 ua, .int .i64 ub, .int .i64 uc, .int .i64 ud] ∧ Blk w5 (w.heap.size + 1) [.int .i64 0, .int .i64 0, .int .i64 0, .int .i64 0]) := ⟨hJ.2.1 (hL 4 (by decide)), hJ.2.2.2⟩
      have hB5 : Hid (Below w.heap.size w w5) := HB1.out.trans hR
      clear hv hL hJ hR
      have h0 : val 16 = .agg #[.int .i64 qa, .int .i64 qb, .int .i64 qc, .int .i64 qd] := h0
      have h1 : val 17 = .agg #[.int .i64 sa, .int .i64 sb, .int .i64 sc, .int .i64 sd] := h1
      have h2 : val 18 = .agg #[.int .i64 ta, .int .i64 tb, .int .i64 tc, .int .i64 td] := h2
      have h3 : val 19 = .agg #[.int .i64 ua, .int .i64 ub, .int .i64 uc, .int .i64 ud] := h3
      simp only [regs.putAll, List.map_cons, List.map_nil]
      generalize val 16 = v16 at *
      generalize val 17 = v17 at *
      generalize val 18 = v18 at *
      generalize val 19 = v19 at *
      clear h0 h1 h2 h3
      go_wp2_with (fail)
      go_roundw
      case rel => exact ⟨_, _, ⟨k + 1, by omega, rfl, _, HQ3.out, by rw [← HG0.out]; exact hX.out.1, hX.out.2⟩, HG0.out, rfl, by go_num⟩
      case measure => simp [intOf]; omega
    · obtain rfl : k = l.length := by omega
      obtain ⟨⟨e0, e1, e2, e3⟩, ⟨g0, g1, g2, g3⟩, -⟩ := HR'.c4
      have HF : Hid ((⟨na, nb, nc, nd⟩ : Bx) = ⟨qa, qb, qc, qd⟩) := by show _ = _; rw [HJ.out, HQ.out, List.take_of_length_le (Nat.le_refl _)]
      clear HB' HR' HJ HQ
      go_wp2_with (fail)
      exact blk_ret rfl rfl (HR2.out.put4 _ _ _ _) Tryd.underlying30 rfl (by kernel_rfl) ⟨by injection HF.out with h0 h1 h2 h3; rw [h0, h1, h2, h3], below4 hb.out (by omega) _ _ _ _⟩
end Go.Proofs.YtboelbmpcbeifaaDoor
