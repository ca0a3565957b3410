/-
  The walk of the law CoderReads.
-/
import Derived.Test.YtbopijlacdkpeaaCoOpen2
import Derived.Deep.DeepCutAuto
import Derived.Deep.CutBlock
namespace Go.Proofs.Ytbopijlacdkpeaa
open Go.RowKit numb

/-- the document's In in memory, at block bx -/
def XAt (w : World) (bx : Nat) (s : St) : Prop := w.cell? ⟨bx, 0, none⟩ = some (.string (strOf s.l)) ∧ w.cell? ⟨bx, 1, none⟩ = some (.int .i64 (s.e : Nat)) ∧ w.frozen? ⟨bx, 0, none⟩ = false ∧ w.frozen? ⟨bx, 1, none⟩ = false
theorem XAt.lt {w : World} {bx : Nat} {s : St} (h : XAt w bx s) : bx < w.heap.size := World.block_lt_of_cell? w _ h.1
theorem XAt.stays {w w' : World} {bx : Nat} {s : St} (h : XAt w bx s) (hb : w'.heap[bx]? = w.heap[bx]?) : XAt w' bx s :=
  ⟨(World.cell?_of_block (a := ⟨bx, 0, none⟩) hb).trans h.1, (World.cell?_of_block (a := ⟨bx, 1, none⟩) hb).trans h.2.1, (World.frozen?_of_block (a := ⟨bx, 0, none⟩) hb).trans h.2.2.1, (World.frozen?_of_block (a := ⟨bx, 1, none⟩) hb).trans h.2.2.2⟩
theorem XAt.below {w w' : World} {bx : Nat} {s : St} (h : XAt w bx s) (hb : Below w.heap.size w w') : XAt w' bx s := h.stays (hb.block bx h.lt)
theorem XAt.instep {w w' : World} {bx bi : Nat} {s : St} (h : XAt w bx s) (hs : InStep bi w w') (hne : bx ≠ bi) : XAt w' bx s := h.stays (hs.far bx h.lt hne)
theorem XAt.put {w : World} {bx : Nat} {s : St} (h : XAt w bx s) (s2 : St) : XAt ((w.setCell ⟨bx, 0, none⟩ (.string (strOf s2.l))).setCell ⟨bx, 1, none⟩ (.int .i64 (s2.e : Nat))) bx s2 := by
  refine ⟨?_, World.cell?_setCell_same' _ _ _ ?_, ?_, ?_⟩
  · rw [cell_other _ _ _ _ _ _ (.inr (by omega))]
    exact World.cell?_setCell_same' _ _ _ (by rw [h.1]; rfl)
  · rw [cell_other _ _ _ _ _ _ (.inr (by omega)), h.2.1]
    rfl
  · rw [World.frozen?_setCell, World.frozen?_setCell]; exact h.2.2.1
  · rw [World.frozen?_setCell, World.frozen?_setCell]; exact h.2.2.2
/-- a step that turns two blocks alone -/
structure R2 (bi bx : Nat) (w w' : World) : Prop where
  os : w'.os = w.os
  tape : w'.tape = w.tape
  output : w'.output = w.output
  size : w.heap.size ≤ w'.heap.size
  far : ∀ k, k < w.heap.size → k ≠ bi → k ≠ bx → w'.heap[k]? = w.heap[k]?
theorem R2.refl (bi bx : Nat) (w : World) : R2 bi bx w w := ⟨rfl, rfl, rfl, Nat.le_refl _, fun _ _ _ _ => rfl⟩
theorem R2.drew (bi bx : Nat) (w : World) : R2 bi bx w w.drew := ⟨rfl, rfl, rfl, Nat.le_refl _, fun _ _ _ _ => rfl⟩
theorem R2.trans (bi bx : Nat) (a b c : World) (h : R2 bi bx a b) (k : R2 bi bx b c) : R2 bi bx a c :=
  ⟨k.os.trans h.os, k.tape.trans h.tape, k.output.trans h.output, Nat.le_trans h.size k.size, fun j hj h1 h2 => (k.far j (Nat.lt_of_lt_of_le hj h.size) h1 h2).trans (h.far j hj h1 h2)⟩
theorem R2.of_in {bi bx : Nat} {w w' : World} (h : InStep bi w w') : R2 bi bx w w' := ⟨h.os, h.tape, h.output, h.size, fun k hk h1 _ => h.far k hk h1⟩
theorem R2.put_far {bx : Nat} (w : World) (u v : Value) {k : Nat} (h : k ≠ bx) : ((w.setCell ⟨bx, 0, none⟩ u).setCell ⟨bx, 1, none⟩ v).heap[k]? = w.heap[k]? := by
  rw [heap_setCell_other _ _ _ _ h, heap_setCell_other _ _ _ _ h]
theorem R2.put2 (bi bx : Nat) (w : World) (u v : Value) : R2 bi bx w ((w.setCell ⟨bx, 0, none⟩ u).setCell ⟨bx, 1, none⟩ v) := ⟨rfl, rfl, rfl, by simp [World.setCell], fun _ _ _ h => R2.put_far w u v h⟩
theorem R2.cell {bi bx : Nat} {w w' : World} (h : R2 bi bx w w') {b o : Nat} {v : Value} (h1 : b ≠ bi) (h2 : b ≠ bx) (hc : w.cell? ⟨b, o, none⟩ = some v) : w'.cell? ⟨b, o, none⟩ = some v :=
  (World.cell?_of_block (a := ⟨b, o, none⟩) (h.far b (World.block_lt_of_cell? w _ hc) h1 h2)).trans hc
theorem R2.below {bi bx B : Nat} {w w' : World} (h : R2 bi bx w w') (hB : B ≤ w.heap.size) (h1 : B ≤ bi) (h2 : B ≤ bx) : Below B w w' := ⟨h.os, h.tape, h.output, h.size, fun k hk => h.far k (by omega) (by omega) (by omega)⟩
/-- how both stand: ci the call, si the store -/
def Jx (lo bi bx : Nat) (s s2 : St) (ci si : Nat) (L : Nat → Bool) (w : World) : Prop := InAt w lo bi (bif L ci then s2 else s) ∧ XAt w bx (bif L si then s2 else s)
/-- a slice of these bytes, in neither block -/
def say2 (bi bx : Nat) (_ : bi < bx) (xs : List Nat) : regs.Say (R2 bi bx) := ⟨fun v w => ∃ a c, v = .slice a xs.length c ∧ Bs w a xs ∧ ∀ x, a = some x → x.block ≠ bi ∧ x.block ≠ bx, fun _ w _ h hb => by
  obtain ⟨a, c, h1, h2, h3⟩ := h
  refine ⟨a, c, h1, fun hn => ?_, h3⟩
  obtain ⟨g, off, e, hc⟩ := h2 hn
  obtain ⟨n1, n2⟩ := h3 _ e
  exact ⟨g, off, e, fun j hj => hb.cell n1 n2 (hc j hj)⟩⟩

/-- both stand for s -/
structure RS (w0 w : World) (lo bi bx : Nat) (s : St) : Prop where
  i : InAt w lo bi s
  x : XAt w bx s
  lo_le : lo ≤ bi
  lt : bi < bx
  new : w0.heap.size ≤ lo
  below : Below w0.heap.size w0 w
  len : s.l.length ≤ 500
theorem RS.on {w0 w w' : World} {lo bi bx : Nat} {s : St} (h : RS w0 w lo bi bx s) (hb : Below w.heap.size w w') : RS w0 w' lo bi bx s :=
  ⟨h.i.below h.lo_le hb, h.x.below hb, h.lo_le, h.lt, h.new, h.below.trans (hb.mono h.below.size), h.len⟩
theorem RS.next {w0 w w' : World} {lo bi bx : Nat} {s s2 : St} (h : RS w0 w lo bi bx s) (hi : InAt w' lo bi s2) (hx : XAt w' bx s2) (hr : R2 bi bx w w') (hl : s2.l.length ≤ s.l.length) : RS w0 w' lo bi bx s2 :=
  ⟨hi, hx, h.lo_le, h.lt, h.new, h.below.trans (hr.below h.below.size (Nat.le_trans h.new h.lo_le) (Nat.le_trans h.new (Nat.le_trans h.lo_le (Nat.le_of_lt h.lt)))), Nat.le_trans hl h.len⟩

theorem kinds (k : Int) : k = 1 ∨ k = 2 ∨ k = 3 ∨ k = 4 ∨ k = 5 ∨ k = 6 ∨ (k ≠ 1 ∧ k ≠ 2 ∧ k ≠ 3 ∧ k ≠ 4 ∧ k ≠ 5 ∧ k ≠ 6) := by omega
set_option maxHeartbeats 1000000 in
theorem reads_long (q : Part) (A : Option Addr) (l : List (Int × Int)) (c : Nat) (w : World) (h : 500 < q.l.length ∨ 60 < l.length) :
    Calls Try.prog 4 #[.slice q.a q.l.length q.c, .slice A l.length c] w fun e w' => e = .returned (.bool true) ∧ Below w.heap.size w w' := by
  obtain ⟨qa, ql, qc⟩ := q
  simp only at h ⊢
  have t : decide ((500 : Int) < (ql.length : Int)) = true ∨ (decide ((500 : Int) < (ql.length : Int)) = false ∧ decide ((60 : Int) < (l.length : Int)) = true) := by
    simp; omega
  clear h
  rcases t with t1 | ⟨t1, t2⟩
  all_goals
    go_enter Try.func4, Try.ntmps4
    go_wp2_with (fail)
    refine (awake_any w).mono ?_
    rintro e w' ⟨rfl, hb⟩
    go_wp2_with (fail)
    go_ret
    exact ⟨rfl, hb⟩

set_option maxRecDepth 100000 in
set_option maxHeartbeats 4000000 in
theorem reads_walk (q : Part) (A : Option Addr) (l : List (Int × Int)) (c : Nat) (w : World) (hq : q.ok w) (hl : AskRow w A l) (hu : ∀ x ∈ l, I64 x.1 ∧ I64 x.2) (h1 : q.l.length ≤ 500) (h2 : l.length ≤ 60) :
    Calls Try.prog 4 #[.slice q.a q.l.length q.c, .slice A l.length c] w fun e w' => e = .returned (.bool true) ∧ Below w.heap.size w w' := by
  obtain ⟨qa, ql, qc⟩ := q
  simp only at h1 ⊢
  have t1 : decide ((500 : Int) < (ql.length : Int)) = false := by simp; omega
  have t2 : decide ((60 : Int) < (l.length : Int)) = false := by simp; omega
  have hare : AreBytes ql := hq.bytes
  have hat : Bs w qa ql := hq.at_
  have HL := Lib.hid hl
  have HU := Lib.hid hu
  clear hq hl hu
  go_enter Try.func4, Try.ntmps4
  go_wp2_with (fail)
  refine (newin_any qa ql qc w hat hare (by omega)).mono ?_
  rintro e wn ⟨bi, rfl, hbi, i1, hb1⟩
  have hcv := conv_str wn qa ql qc (hat.below hb1)
  obtain ⟨lo, hlo⟩ : ∃ lo, lo = w.heap.size := ⟨_, rfl⟩
  rw [← hlo] at i1 hbi
  have I1 := Lib.hid i1
  have hlt1 := i1.lt
  have RS0 : Hid (RS w (wn.alloc (.cells #[.string (strOf ql), .int .i64 0] 48)) lo bi wn.heap.size ⟨ql, 0⟩) := by
    refine ⟨i1.below hbi ((Below.refl _ _).alloc (Nat.le_refl _) _), ⟨?_, ?_, ?_, ?_⟩, hbi, hlt1, by omega, hb1.alloc hb1.size _, h1⟩
    · exact cell_of_row _ _ 0 _ _ _ (heap_alloc_new wn _)
    · exact cell_of_row _ _ 1 _ _ _ (heap_alloc_new wn _)
    · exact frozen_new _ _ _ _
    · exact frozen_new _ _ _ _
  clear i1 hb1 hat hlo hlt1 I1 hbi
  simp only [In]
  go_wp2_with (fail)
  go_loopw [40] (fun i wr => ∃ (k : Nat) (s : St), k ≤ l.length ∧ i = .int .i64 k ∧ Hid (RS w wr lo bi wn.heap.size s)) (fun i _ => l.length - (intOf i).toNat)
  case atStart => exact ⟨0, _, Nat.zero_le _, rfl, RS0.out⟩
  case round =>
    obtain ⟨k, s, hk, rfl, rs⟩ := hrel
    clear RS0
    by_cases hlt : k < l.length
    · obtain ⟨g, off, rfl, hcell⟩ := (HL.out.below rs.out.below) (by omega)
      obtain ⟨ck0, ck1⟩ := hcell k hlt
      obtain ⟨u1, u2⟩ := HU.out l[k] (List.getElem_mem hlt)
      have U1 := Lib.hid u1
      have U2 := Lib.hid u2
      clear hcell u1 u2
      generalize l[k].1 = kd at *
      generalize l[k].2 = nm at *
      go_upto_block 2 with (fail)
      go_cut [9] (fun ok wx => ok = .bool true ∧ Hid (∃ s2, RS w wx lo bi wn.heap.size s2))
      case first =>
        have hA := rs.out.i.are
        have RSA : Hid (RS w (wr.alloc (.cells #[.int .i64 kd, .int .i64 nm] 50)) lo bi wn.heap.size s) := rs.out.on ((Below.refl _ _).alloc (Nat.le_refl _) _)
        rcases kinds kd with hk | hk | hk | hk | hk | hk | hk
        · have t11 : (kd == 1) = true := by simp; omega
          clear hk
          obtain ⟨s2, v, hs⟩ : ∃ (s2 : St) (v : Nat), s.uint = (s2, v) := ⟨_, _, rfl⟩
          have hends : s2.l.length ≤ s.l.length := by have := (uint_ends s).le; rw [hs] at this; exact this
          have R : ruint (strOf s.l) s.e = .tuple #[.agg #[.string (strOf s2.l), .int .i64 (s2.e : Nat)], .int .u64 (v : Nat)] := by
            unfold ruint rin
            rw [natsOf_strOf hA]
            rw [show St.uint ⟨s.l, s.e⟩ = (s2, v) from hs]
          have HR := Lib.hid R
          have HS := Lib.hid hs
          have HE := Lib.hid hends
          clear R hs hends
          obtain ⟨x0, x1, f0, f1⟩ := RSA.out.x
          have hrx := rs.out.x.lt
          go_wp2_with (fail)
          refine (rin_uint_any (strOf s.l) s.e _ (by rw [strOf_size]; have := rs.out.len; omega)).mono ?_
          rintro e w2 ⟨rfl, hb2⟩
          rw [HR.out]
          have RS2 := Lib.hid (RSA.out.on hb2)
          have hna := Lib.hid (hb2.cell (p := ⟨wr.heap.size, 1, none⟩) (by simp))
          have hsz2 : wr.heap.size < w2.heap.size := Nat.lt_of_lt_of_le (by simp) hb2.size
          clear hb2 x0 x1 f0 f1
          have RSW : Hid (RS w (w2.alloc (.cells #[.string (strOf s2.l), .int .i64 (s2.e : Nat)] 48)) lo bi wn.heap.size s) := RS2.out.on ((Below.refl _ _).alloc (Nat.le_refl _) _)
          have hI0 := RSW.out.i
          have hX0 := RSW.out.x
          have hj0 : (w2.alloc (.cells #[.string (strOf s2.l), .int .i64 (s2.e : Nat)] 48)).cell? ⟨w2.heap.size, 0, none⟩ = some (.string (strOf s2.l)) := cell_of_row _ _ 0 _ _ _ (heap_alloc_new w2 _)
          have hj1 : (w2.alloc (.cells #[.string (strOf s2.l), .int .i64 (s2.e : Nat)] 48)).cell? ⟨w2.heap.size, 1, none⟩ = some (.int .i64 (s2.e : Nat)) := cell_of_row _ _ 1 _ _ _ (heap_alloc_new w2 _)
          have ha1 : (w2.alloc (.cells #[.string (strOf s2.l), .int .i64 (s2.e : Nat)] 48)).cell? ⟨wr.heap.size, 1, none⟩ = some (.int .i64 nm) :=
            (World.cell?_alloc_lt _ _ _ hsz2).trans (hna.out.trans (cell_of_row _ _ 1 _ _ _ (heap_alloc_new wr _)))
          have hb12 := rs.out.lt
          have hlo := rs.out.lo_le
          have hri := rs.out.i.lt
          have hne1 : w2.heap.size ≠ bi := by omega
          have hne2 : w2.heap.size ≠ wn.heap.size := by omega
          have hna1 : wr.heap.size ≠ bi := by omega
          have hna2 : wr.heap.size ≠ wn.heap.size := by omega
          have HJ0 := Lib.hid hj0
          have HJ1 := Lib.hid hj1
          have HA1 := Lib.hid ha1
          have HI0 := Lib.hid hI0
          have HX0 := Lib.hid hX0
          clear hj0 hj1 ha1 hI0 hX0
          go_wp2_with (fail)
          have hj0 := HJ0.out
          have hj1 := HJ1.out
          have ha1 := HA1.out
          have hI0 := HI0.out
          have hX0 := HX0.out
          refine regs.wp_region_put (R2 bi wn.heap.size) (Jx lo bi wn.heap.size s s2 2 5) [53, 54, 55, 56, 57, 9] (by kernel_rfl) (by kernel_rfl) (fun _ => R2.refl _ _ _) (R2.trans _ _) (fun i => (match i with
            | 0 => regs.Say.val _ (.agg #[.string (strOf s2.l), .int .i64 (s2.e : Nat)])
            | 1 => regs.Say.val _ (.pointer (some ⟨bi, 0, none⟩))
            | 2 => regs.Say.val _ (.int .u64 (v : Nat))
            | 3 => regs.Say.val _ (.int .u64 (v : Nat))
            | 4 => regs.Say.val _ (.bool true)
            | 5 => regs.Say.any _
            | 6 => regs.Say.val _ (.bool true)
            | _ => regs.Say.any _ : regs.Say (R2 bi wn.heap.size)).p) (fun _ => regs.Say.mono _) (by kernel_rfl) (R2.drew _ _ _) (⟨hI0, hX0⟩) ⟨?_, ?_, ?_, ?_, ?_, ?_, ?_, trivial⟩ ?_
          · refine regs.StepOK.plain rfl fun L a w1 hh => ?_
            have h10 : a.tmps[10]?.getD undef = .pointer (some ⟨w2.heap.size, 0, none⟩) := by rw [← Array.getD_eq_getD_getElem?]; exact hh.old 10 rfl
            have c0 := hh.rel.cell hne1 hne2 hj0
            have c1 := hh.rel.cell hne1 hne2 hj1
            have hJ := Lib.hid hh.st
            clear hh
            go_simp
            exact ⟨_, rfl, R2.refl _ _ _, rfl, hJ.out⟩
          · refine regs.StepOK.plain rfl fun L a w1 hh => ?_
            have h5 : a.tmps[5]?.getD undef = .pointer (some ⟨bi, 0, none⟩) := by rw [← Array.getD_eq_getD_getElem?]; exact hh.old 5 rfl
            have hJ := Lib.hid hh.st
            clear hh
            go_simp
            exact ⟨_, rfl, R2.refl _ _ _, rfl, hJ.out⟩
          · refine regs.StepOK.plain rfl fun L a w1 hh => ?_
            have h54 : a.tmps[54]?.getD undef = .pointer (some ⟨bi, 0, none⟩) := by rw [← Array.getD_eq_getD_getElem?]; exact hh.dep 1 54 (by kernel_rfl) (by kernel_rfl)
            have hI : InAt w1 lo bi s := by
              have := hh.st.1
              rw [hh.un] at this
              exact this
            have hX := hh.st.2
            have hcall := in_uint_any lo bi s w1 hI
            rw [HS.out] at hcall
            clear hh
            go_simp
            refine hcall.mono ?_
            rintro e w9 ⟨rfl, p1, p2⟩
            exact ⟨_, rfl, R2.of_in p2, rfl, p1, hX.instep p2 (by omega)⟩
          · refine regs.StepOK.plain rfl fun L a w1 hh => ?_
            have h11 : a.tmps[11]?.getD undef = .int .u64 (v : Nat) := by rw [← Array.getD_eq_getD_getElem?]; exact hh.old 11 rfl
            have hJ := Lib.hid hh.st
            clear hh
            go_simp
            exact ⟨_, rfl, R2.refl _ _ _, rfl, hJ.out⟩
          · refine regs.StepOK.plain rfl fun L a w1 hh => ?_
            have h55 : a.tmps[55]?.getD undef = .int .u64 (v : Nat) := by rw [← Array.getD_eq_getD_getElem?]; exact hh.dep 2 55 (by kernel_rfl) (by kernel_rfl)
            have h56 : a.tmps[56]?.getD undef = .int .u64 (v : Nat) := by rw [← Array.getD_eq_getD_getElem?]; exact hh.dep 3 56 (by kernel_rfl) (by kernel_rfl)
            have hJ := Lib.hid hh.st
            clear hh
            go_simp
            exact ⟨_, rfl, R2.refl _ _ _, rfl, hJ.out⟩
          · refine regs.StepOK.plain rfl fun L a w1 hh => ?_
            have h6 : a.tmps[6]?.getD undef = .pointer (some ⟨wn.heap.size, 0, none⟩) := by rw [← Array.getD_eq_getD_getElem?]; exact hh.old 6 rfl
            have h53 : a.tmps[53]?.getD undef = .agg #[.string (strOf s2.l), .int .i64 (s2.e : Nat)] := by rw [← Array.getD_eq_getD_getElem?]; exact hh.dep 0 53 (by kernel_rfl) (by kernel_rfl)
            have hI := hh.st.1
            have hX : XAt w1 wn.heap.size s := by
              have := hh.st.2
              rw [hh.un] at this
              exact this
            obtain ⟨x0, x1, f0, f1⟩ := id hX
            have HSP := Lib.hid (hX.put s2)
            have HP := Lib.hid (R2.put2 bi wn.heap.size w1 (.string (strOf s2.l)) (.int .i64 (s2.e : Nat)))
            have HI := Lib.hid (hI.stays (w' := (w1.setCell ⟨wn.heap.size, 0, none⟩ (.string (strOf s2.l))).setCell ⟨wn.heap.size, 1, none⟩ (.int .i64 (s2.e : Nat))) (fun k hk h1 h2 => R2.put_far w1 _ _ (by omega)) hlo)
            clear hh hI hX
            go_simp
            exact ⟨HP.out, ⟨undef, trivial⟩, HI.out, HSP.out⟩
          · refine regs.StepOK.plain rfl fun L a w1 hh => ?_
            have h57 : a.tmps[57]?.getD undef = .bool true := by rw [← Array.getD_eq_getD_getElem?]; exact hh.dep 4 57 (by kernel_rfl) (by kernel_rfl)
            have hJ := Lib.hid hh.st
            clear hh
            go_simp
            exact ⟨_, rfl, R2.refl _ _ _, rfl, hJ.out⟩
          intro Lf w5 val hL hJ hR2 hf
          have v9 : val 9 = .bool true := hf 6 9 (by kernel_rfl)
          have hJ1 := hJ.1
          have hJ2 := hJ.2
          rw [hL 2 (by decide)] at hJ1
          rw [hL 5 (by decide)] at hJ2
          have RS5 : Hid (∃ s2, RS w w5 lo bi wn.heap.size s2) := ⟨s2, RSW.out.next hJ1 hJ2 hR2 HE.out⟩
          clear hf hJ hJ1 hJ2 hL hR2 hj0 hj1 ha1 hI0 hX0
          simp only [regs.putAll, List.map_cons, List.map_nil]
          rw [v9]
          go_simp
          go_wp2_with (fail)
          go_meet
          exact ⟨rfl, RS5.out⟩
        · have t11 : (kd == 1) = false := by simp; omega
          have t12 : (kd == 2) = true := by simp; omega
          clear hk
          obtain ⟨s2, v, hs⟩ : ∃ (s2 : St) (v : Int), s.int = (s2, v) := ⟨_, _, rfl⟩
          have hends : s2.l.length ≤ s.l.length := by have := (show Ends s s.int.1 from uint_ends s).le; rw [hs] at this; exact this
          have R : rint (strOf s.l) s.e = .tuple #[.agg #[.string (strOf s2.l), .int .i64 (s2.e : Nat)], .int .i64 v] := by
            unfold rint rin
            rw [natsOf_strOf hA]
            rw [show St.int ⟨s.l, s.e⟩ = (s2, v) from hs]
          have HR := Lib.hid R
          have HS := Lib.hid hs
          have HE := Lib.hid hends
          clear R hs hends
          obtain ⟨x0, x1, f0, f1⟩ := RSA.out.x
          have hrx := rs.out.x.lt
          go_wp2_with (fail)
          refine (rin_int_any (strOf s.l) s.e _ (by rw [strOf_size]; have := rs.out.len; omega)).mono ?_
          rintro e w2 ⟨rfl, hb2⟩
          rw [HR.out]
          have RS2 := Lib.hid (RSA.out.on hb2)
          have hna := Lib.hid (hb2.cell (p := ⟨wr.heap.size, 1, none⟩) (by simp))
          have hsz2 : wr.heap.size < w2.heap.size := Nat.lt_of_lt_of_le (by simp) hb2.size
          clear hb2 x0 x1 f0 f1
          have RSW : Hid (RS w (w2.alloc (.cells #[.string (strOf s2.l), .int .i64 (s2.e : Nat)] 48)) lo bi wn.heap.size s) := RS2.out.on ((Below.refl _ _).alloc (Nat.le_refl _) _)
          have hI0 := RSW.out.i
          have hX0 := RSW.out.x
          have hj0 : (w2.alloc (.cells #[.string (strOf s2.l), .int .i64 (s2.e : Nat)] 48)).cell? ⟨w2.heap.size, 0, none⟩ = some (.string (strOf s2.l)) := cell_of_row _ _ 0 _ _ _ (heap_alloc_new w2 _)
          have hj1 : (w2.alloc (.cells #[.string (strOf s2.l), .int .i64 (s2.e : Nat)] 48)).cell? ⟨w2.heap.size, 1, none⟩ = some (.int .i64 (s2.e : Nat)) := cell_of_row _ _ 1 _ _ _ (heap_alloc_new w2 _)
          have ha1 : (w2.alloc (.cells #[.string (strOf s2.l), .int .i64 (s2.e : Nat)] 48)).cell? ⟨wr.heap.size, 1, none⟩ = some (.int .i64 nm) :=
            (World.cell?_alloc_lt _ _ _ hsz2).trans (hna.out.trans (cell_of_row _ _ 1 _ _ _ (heap_alloc_new wr _)))
          have hb12 := rs.out.lt
          have hlo := rs.out.lo_le
          have hri := rs.out.i.lt
          have hne1 : w2.heap.size ≠ bi := by omega
          have hne2 : w2.heap.size ≠ wn.heap.size := by omega
          have hna1 : wr.heap.size ≠ bi := by omega
          have hna2 : wr.heap.size ≠ wn.heap.size := by omega
          have HJ0 := Lib.hid hj0
          have HJ1 := Lib.hid hj1
          have HA1 := Lib.hid ha1
          have HI0 := Lib.hid hI0
          have HX0 := Lib.hid hX0
          clear hj0 hj1 ha1 hI0 hX0
          go_wp2_with (fail)
          have hj0 := HJ0.out
          have hj1 := HJ1.out
          have ha1 := HA1.out
          have hI0 := HI0.out
          have hX0 := HX0.out
          refine regs.wp_region_put (R2 bi wn.heap.size) (Jx lo bi wn.heap.size s s2 2 5) [65, 66, 67, 68, 69, 9] (by kernel_rfl) (by kernel_rfl) (fun _ => R2.refl _ _ _) (R2.trans _ _) (fun i => (match i with
            | 0 => regs.Say.val _ (.agg #[.string (strOf s2.l), .int .i64 (s2.e : Nat)])
            | 1 => regs.Say.val _ (.pointer (some ⟨bi, 0, none⟩))
            | 2 => regs.Say.val _ (.int .i64 v)
            | 3 => regs.Say.val _ (.int .i64 v)
            | 4 => regs.Say.val _ (.bool true)
            | 5 => regs.Say.any _
            | 6 => regs.Say.val _ (.bool true)
            | _ => regs.Say.any _ : regs.Say (R2 bi wn.heap.size)).p) (fun _ => regs.Say.mono _) (by kernel_rfl) (R2.drew _ _ _) (⟨hI0, hX0⟩) ⟨?_, ?_, ?_, ?_, ?_, ?_, ?_, trivial⟩ ?_
          · refine regs.StepOK.plain rfl fun L a w1 hh => ?_
            have h12 : a.tmps[12]?.getD undef = .pointer (some ⟨w2.heap.size, 0, none⟩) := by rw [← Array.getD_eq_getD_getElem?]; exact hh.old 12 rfl
            have c0 := hh.rel.cell hne1 hne2 hj0
            have c1 := hh.rel.cell hne1 hne2 hj1
            have hJ := Lib.hid hh.st
            clear hh
            go_simp
            exact ⟨_, rfl, R2.refl _ _ _, rfl, hJ.out⟩
          · refine regs.StepOK.plain rfl fun L a w1 hh => ?_
            have h5 : a.tmps[5]?.getD undef = .pointer (some ⟨bi, 0, none⟩) := by rw [← Array.getD_eq_getD_getElem?]; exact hh.old 5 rfl
            have hJ := Lib.hid hh.st
            clear hh
            go_simp
            exact ⟨_, rfl, R2.refl _ _ _, rfl, hJ.out⟩
          · refine regs.StepOK.plain rfl fun L a w1 hh => ?_
            have h66 : a.tmps[66]?.getD undef = .pointer (some ⟨bi, 0, none⟩) := by rw [← Array.getD_eq_getD_getElem?]; exact hh.dep 1 66 (by kernel_rfl) (by kernel_rfl)
            have hI : InAt w1 lo bi s := by
              have := hh.st.1
              rw [hh.un] at this
              exact this
            have hX := hh.st.2
            have hcall := in_int_any lo bi s w1 hI (uint_U64 hI.are)
            rw [HS.out] at hcall
            clear hh
            go_simp
            refine hcall.mono ?_
            rintro e w9 ⟨rfl, p1, p2⟩
            exact ⟨_, rfl, R2.of_in p2, rfl, p1, hX.instep p2 (by omega)⟩
          · refine regs.StepOK.plain rfl fun L a w1 hh => ?_
            have h13 : a.tmps[13]?.getD undef = .int .i64 v := by rw [← Array.getD_eq_getD_getElem?]; exact hh.old 13 rfl
            have hJ := Lib.hid hh.st
            clear hh
            go_simp
            exact ⟨_, rfl, R2.refl _ _ _, rfl, hJ.out⟩
          · refine regs.StepOK.plain rfl fun L a w1 hh => ?_
            have h67 : a.tmps[67]?.getD undef = .int .i64 v := by rw [← Array.getD_eq_getD_getElem?]; exact hh.dep 2 67 (by kernel_rfl) (by kernel_rfl)
            have h68 : a.tmps[68]?.getD undef = .int .i64 v := by rw [← Array.getD_eq_getD_getElem?]; exact hh.dep 3 68 (by kernel_rfl) (by kernel_rfl)
            have hJ := Lib.hid hh.st
            clear hh
            go_simp
            exact ⟨_, rfl, R2.refl _ _ _, rfl, hJ.out⟩
          · refine regs.StepOK.plain rfl fun L a w1 hh => ?_
            have h6 : a.tmps[6]?.getD undef = .pointer (some ⟨wn.heap.size, 0, none⟩) := by rw [← Array.getD_eq_getD_getElem?]; exact hh.old 6 rfl
            have h65 : a.tmps[65]?.getD undef = .agg #[.string (strOf s2.l), .int .i64 (s2.e : Nat)] := by rw [← Array.getD_eq_getD_getElem?]; exact hh.dep 0 65 (by kernel_rfl) (by kernel_rfl)
            have hI := hh.st.1
            have hX : XAt w1 wn.heap.size s := by
              have := hh.st.2
              rw [hh.un] at this
              exact this
            obtain ⟨x0, x1, f0, f1⟩ := id hX
            have HSP := Lib.hid (hX.put s2)
            have HP := Lib.hid (R2.put2 bi wn.heap.size w1 (.string (strOf s2.l)) (.int .i64 (s2.e : Nat)))
            have HI := Lib.hid (hI.stays (w' := (w1.setCell ⟨wn.heap.size, 0, none⟩ (.string (strOf s2.l))).setCell ⟨wn.heap.size, 1, none⟩ (.int .i64 (s2.e : Nat))) (fun k hk h1 h2 => R2.put_far w1 _ _ (by omega)) hlo)
            clear hh hI hX
            go_simp
            exact ⟨HP.out, ⟨undef, trivial⟩, HI.out, HSP.out⟩
          · refine regs.StepOK.plain rfl fun L a w1 hh => ?_
            have h69 : a.tmps[69]?.getD undef = .bool true := by rw [← Array.getD_eq_getD_getElem?]; exact hh.dep 4 69 (by kernel_rfl) (by kernel_rfl)
            have hJ := Lib.hid hh.st
            clear hh
            go_simp
            exact ⟨_, rfl, R2.refl _ _ _, rfl, hJ.out⟩
          intro Lf w5 val hL hJ hR2 hf
          have v9 : val 9 = .bool true := hf 6 9 (by kernel_rfl)
          have hJ1 := hJ.1
          have hJ2 := hJ.2
          rw [hL 2 (by decide)] at hJ1
          rw [hL 5 (by decide)] at hJ2
          have RS5 : Hid (∃ s2, RS w w5 lo bi wn.heap.size s2) := ⟨s2, RSW.out.next hJ1 hJ2 hR2 HE.out⟩
          clear hf hJ hJ1 hJ2 hL hR2 hj0 hj1 ha1 hI0 hX0
          simp only [regs.putAll, List.map_cons, List.map_nil]
          rw [v9]
          go_simp
          go_wp2_with (fail)
          go_meet
          exact ⟨rfl, RS5.out⟩
        · have t11 : (kd == 1) = false := by simp; omega
          have t12 : (kd == 2) = false := by simp; omega
          have t13 : (kd == 3) = true := by simp; omega
          clear hk
          obtain ⟨s2, v, hs⟩ : ∃ (s2 : St) (v : Bool), s.bool = (s2, v) := ⟨_, _, rfl⟩
          have hends : s2.l.length ≤ s.l.length := by have := (bool_ends s).le; rw [hs] at this; exact this
          have R : rbool (strOf s.l) s.e = .tuple #[.agg #[.string (strOf s2.l), .int .i64 (s2.e : Nat)], .bool v] := by
            unfold rbool rin
            rw [natsOf_strOf hA]
            rw [show St.bool ⟨s.l, s.e⟩ = (s2, v) from hs]
          have HR := Lib.hid R
          have HS := Lib.hid hs
          have HE := Lib.hid hends
          clear R hs hends
          obtain ⟨x0, x1, f0, f1⟩ := RSA.out.x
          have hrx := rs.out.x.lt
          go_wp2_with (fail)
          refine (rin_bool_any (strOf s.l) s.e _ (by rw [strOf_size]; have := rs.out.len; omega)).mono ?_
          rintro e w2 ⟨rfl, hb2⟩
          rw [HR.out]
          have RS2 := Lib.hid (RSA.out.on hb2)
          have hna := Lib.hid (hb2.cell (p := ⟨wr.heap.size, 1, none⟩) (by simp))
          have hsz2 : wr.heap.size < w2.heap.size := Nat.lt_of_lt_of_le (by simp) hb2.size
          clear hb2 x0 x1 f0 f1
          have RSW : Hid (RS w (w2.alloc (.cells #[.string (strOf s2.l), .int .i64 (s2.e : Nat)] 48)) lo bi wn.heap.size s) := RS2.out.on ((Below.refl _ _).alloc (Nat.le_refl _) _)
          have hI0 := RSW.out.i
          have hX0 := RSW.out.x
          have hj0 : (w2.alloc (.cells #[.string (strOf s2.l), .int .i64 (s2.e : Nat)] 48)).cell? ⟨w2.heap.size, 0, none⟩ = some (.string (strOf s2.l)) := cell_of_row _ _ 0 _ _ _ (heap_alloc_new w2 _)
          have hj1 : (w2.alloc (.cells #[.string (strOf s2.l), .int .i64 (s2.e : Nat)] 48)).cell? ⟨w2.heap.size, 1, none⟩ = some (.int .i64 (s2.e : Nat)) := cell_of_row _ _ 1 _ _ _ (heap_alloc_new w2 _)
          have ha1 : (w2.alloc (.cells #[.string (strOf s2.l), .int .i64 (s2.e : Nat)] 48)).cell? ⟨wr.heap.size, 1, none⟩ = some (.int .i64 nm) :=
            (World.cell?_alloc_lt _ _ _ hsz2).trans (hna.out.trans (cell_of_row _ _ 1 _ _ _ (heap_alloc_new wr _)))
          have hb12 := rs.out.lt
          have hlo := rs.out.lo_le
          have hri := rs.out.i.lt
          have hne1 : w2.heap.size ≠ bi := by omega
          have hne2 : w2.heap.size ≠ wn.heap.size := by omega
          have hna1 : wr.heap.size ≠ bi := by omega
          have hna2 : wr.heap.size ≠ wn.heap.size := by omega
          have HJ0 := Lib.hid hj0
          have HJ1 := Lib.hid hj1
          have HA1 := Lib.hid ha1
          have HI0 := Lib.hid hI0
          have HX0 := Lib.hid hX0
          clear hj0 hj1 ha1 hI0 hX0
          go_wp2_with (fail)
          have hj0 := HJ0.out
          have hj1 := HJ1.out
          have ha1 := HA1.out
          have hI0 := HI0.out
          have hX0 := HX0.out
          refine regs.wp_region_put (R2 bi wn.heap.size) (Jx lo bi wn.heap.size s s2 2 5) [77, 78, 79, 80, 81, 9] (by kernel_rfl) (by kernel_rfl) (fun _ => R2.refl _ _ _) (R2.trans _ _) (fun i => (match i with
            | 0 => regs.Say.val _ (.agg #[.string (strOf s2.l), .int .i64 (s2.e : Nat)])
            | 1 => regs.Say.val _ (.pointer (some ⟨bi, 0, none⟩))
            | 2 => regs.Say.val _ (.bool v)
            | 3 => regs.Say.val _ (.bool v)
            | 4 => regs.Say.val _ (.bool true)
            | 5 => regs.Say.any _
            | 6 => regs.Say.val _ (.bool true)
            | _ => regs.Say.any _ : regs.Say (R2 bi wn.heap.size)).p) (fun _ => regs.Say.mono _) (by kernel_rfl) (R2.drew _ _ _) (⟨hI0, hX0⟩) ⟨?_, ?_, ?_, ?_, ?_, ?_, ?_, trivial⟩ ?_
          · refine regs.StepOK.plain rfl fun L a w1 hh => ?_
            have h14 : a.tmps[14]?.getD undef = .pointer (some ⟨w2.heap.size, 0, none⟩) := by rw [← Array.getD_eq_getD_getElem?]; exact hh.old 14 rfl
            have c0 := hh.rel.cell hne1 hne2 hj0
            have c1 := hh.rel.cell hne1 hne2 hj1
            have hJ := Lib.hid hh.st
            clear hh
            go_simp
            exact ⟨_, rfl, R2.refl _ _ _, rfl, hJ.out⟩
          · refine regs.StepOK.plain rfl fun L a w1 hh => ?_
            have h5 : a.tmps[5]?.getD undef = .pointer (some ⟨bi, 0, none⟩) := by rw [← Array.getD_eq_getD_getElem?]; exact hh.old 5 rfl
            have hJ := Lib.hid hh.st
            clear hh
            go_simp
            exact ⟨_, rfl, R2.refl _ _ _, rfl, hJ.out⟩
          · refine regs.StepOK.plain rfl fun L a w1 hh => ?_
            have h78 : a.tmps[78]?.getD undef = .pointer (some ⟨bi, 0, none⟩) := by rw [← Array.getD_eq_getD_getElem?]; exact hh.dep 1 78 (by kernel_rfl) (by kernel_rfl)
            have hI : InAt w1 lo bi s := by
              have := hh.st.1
              rw [hh.un] at this
              exact this
            have hX := hh.st.2
            have hcall := in_bool_any lo bi s w1 hI
            rw [HS.out] at hcall
            clear hh
            go_simp
            refine hcall.mono ?_
            rintro e w9 ⟨rfl, p1, p2⟩
            exact ⟨_, rfl, R2.of_in p2, rfl, p1, hX.instep p2 (by omega)⟩
          · refine regs.StepOK.plain rfl fun L a w1 hh => ?_
            have h15 : a.tmps[15]?.getD undef = .bool v := by rw [← Array.getD_eq_getD_getElem?]; exact hh.old 15 rfl
            have hJ := Lib.hid hh.st
            clear hh
            go_simp
            exact ⟨_, rfl, R2.refl _ _ _, rfl, hJ.out⟩
          · refine regs.StepOK.plain rfl fun L a w1 hh => ?_
            have h79 : a.tmps[79]?.getD undef = .bool v := by rw [← Array.getD_eq_getD_getElem?]; exact hh.dep 2 79 (by kernel_rfl) (by kernel_rfl)
            have h80 : a.tmps[80]?.getD undef = .bool v := by rw [← Array.getD_eq_getD_getElem?]; exact hh.dep 3 80 (by kernel_rfl) (by kernel_rfl)
            have hJ := Lib.hid hh.st
            clear hh
            go_simp
            exact ⟨_, rfl, R2.refl _ _ _, rfl, hJ.out⟩
          · refine regs.StepOK.plain rfl fun L a w1 hh => ?_
            have h6 : a.tmps[6]?.getD undef = .pointer (some ⟨wn.heap.size, 0, none⟩) := by rw [← Array.getD_eq_getD_getElem?]; exact hh.old 6 rfl
            have h77 : a.tmps[77]?.getD undef = .agg #[.string (strOf s2.l), .int .i64 (s2.e : Nat)] := by rw [← Array.getD_eq_getD_getElem?]; exact hh.dep 0 77 (by kernel_rfl) (by kernel_rfl)
            have hI := hh.st.1
            have hX : XAt w1 wn.heap.size s := by
              have := hh.st.2
              rw [hh.un] at this
              exact this
            obtain ⟨x0, x1, f0, f1⟩ := id hX
            have HSP := Lib.hid (hX.put s2)
            have HP := Lib.hid (R2.put2 bi wn.heap.size w1 (.string (strOf s2.l)) (.int .i64 (s2.e : Nat)))
            have HI := Lib.hid (hI.stays (w' := (w1.setCell ⟨wn.heap.size, 0, none⟩ (.string (strOf s2.l))).setCell ⟨wn.heap.size, 1, none⟩ (.int .i64 (s2.e : Nat))) (fun k hk h1 h2 => R2.put_far w1 _ _ (by omega)) hlo)
            clear hh hI hX
            go_simp
            exact ⟨HP.out, ⟨undef, trivial⟩, HI.out, HSP.out⟩
          · refine regs.StepOK.plain rfl fun L a w1 hh => ?_
            have h81 : a.tmps[81]?.getD undef = .bool true := by rw [← Array.getD_eq_getD_getElem?]; exact hh.dep 4 81 (by kernel_rfl) (by kernel_rfl)
            have hJ := Lib.hid hh.st
            clear hh
            go_simp
            exact ⟨_, rfl, R2.refl _ _ _, rfl, hJ.out⟩
          intro Lf w5 val hL hJ hR2 hf
          have v9 : val 9 = .bool true := hf 6 9 (by kernel_rfl)
          have hJ1 := hJ.1
          have hJ2 := hJ.2
          rw [hL 2 (by decide)] at hJ1
          rw [hL 5 (by decide)] at hJ2
          have RS5 : Hid (∃ s2, RS w w5 lo bi wn.heap.size s2) := ⟨s2, RSW.out.next hJ1 hJ2 hR2 HE.out⟩
          clear hf hJ hJ1 hJ2 hL hR2 hj0 hj1 ha1 hI0 hX0
          simp only [regs.putAll, List.map_cons, List.map_nil]
          rw [v9]
          go_simp
          go_wp2_with (fail)
          go_meet
          exact ⟨rfl, RS5.out⟩
        · have t11 : (kd == 1) = false := by simp; omega
          have t12 : (kd == 2) = false := by simp; omega
          have t13 : (kd == 3) = false := by simp; omega
          have t14 : (kd == 4) = true := by simp; omega
          clear hk
          obtain ⟨s2, xs, hs⟩ : ∃ (s2 : St) (xs : List Nat), s.raw nm = (s2, xs) := ⟨_, _, rfl⟩
          have hends : s2.l.length ≤ s.l.length := by have := (raw_ends s nm).le; rw [hs] at this; exact this
          have R : rraw (strOf s.l) s.e nm = .tuple #[.agg #[.string (strOf s2.l), .int .i64 (s2.e : Nat)], .string (strOf xs)] := by
            unfold rraw rin
            rw [natsOf_strOf hA]
            rw [show St.raw ⟨s.l, s.e⟩ nm = (s2, xs) from hs]
          have HR := Lib.hid R
          have HS := Lib.hid hs
          have HE := Lib.hid hends
          have HXS : Hid (AreBytes xs) := by have := raw_are hA nm; rw [hs] at this; exact this
          clear R hs hends
          obtain ⟨x0, x1, f0, f1⟩ := RSA.out.x
          have hrx := rs.out.x.lt
          go_wp2_with (fail)
          refine (rin_raw_any (strOf s.l) s.e nm _ (by rw [strOf_size]; have := rs.out.len; omega) U2.out).mono ?_
          rintro e w2 ⟨rfl, hb2⟩
          rw [HR.out]
          have RS2 := Lib.hid (RSA.out.on hb2)
          have hna := Lib.hid (hb2.cell (p := ⟨wr.heap.size, 1, none⟩) (by simp))
          have hsz2 : wr.heap.size < w2.heap.size := Nat.lt_of_lt_of_le (by simp) hb2.size
          clear hb2 x0 x1 f0 f1
          have RSW : Hid (RS w (w2.alloc (.cells #[.string (strOf s2.l), .int .i64 (s2.e : Nat)] 48)) lo bi wn.heap.size s) := RS2.out.on ((Below.refl _ _).alloc (Nat.le_refl _) _)
          have hI0 := RSW.out.i
          have hX0 := RSW.out.x
          have hj0 : (w2.alloc (.cells #[.string (strOf s2.l), .int .i64 (s2.e : Nat)] 48)).cell? ⟨w2.heap.size, 0, none⟩ = some (.string (strOf s2.l)) := cell_of_row _ _ 0 _ _ _ (heap_alloc_new w2 _)
          have hj1 : (w2.alloc (.cells #[.string (strOf s2.l), .int .i64 (s2.e : Nat)] 48)).cell? ⟨w2.heap.size, 1, none⟩ = some (.int .i64 (s2.e : Nat)) := cell_of_row _ _ 1 _ _ _ (heap_alloc_new w2 _)
          have ha1 : (w2.alloc (.cells #[.string (strOf s2.l), .int .i64 (s2.e : Nat)] 48)).cell? ⟨wr.heap.size, 1, none⟩ = some (.int .i64 nm) :=
            (World.cell?_alloc_lt _ _ _ hsz2).trans (hna.out.trans (cell_of_row _ _ 1 _ _ _ (heap_alloc_new wr _)))
          have hb12 := rs.out.lt
          have hlo := rs.out.lo_le
          have hri := rs.out.i.lt
          have hne1 : w2.heap.size ≠ bi := by omega
          have hne2 : w2.heap.size ≠ wn.heap.size := by omega
          have hna1 : wr.heap.size ≠ bi := by omega
          have hna2 : wr.heap.size ≠ wn.heap.size := by omega
          have HJ0 := Lib.hid hj0
          have HJ1 := Lib.hid hj1
          have HA1 := Lib.hid ha1
          have HI0 := Lib.hid hI0
          have HX0 := Lib.hid hX0
          clear hj0 hj1 ha1 hI0 hX0
          go_wp2_with (fail)
          have hj0 := HJ0.out
          have hj1 := HJ1.out
          have ha1 := HA1.out
          have hI0 := HI0.out
          have hX0 := HX0.out
          refine regs.wp_region_put (R2 bi wn.heap.size) (Jx lo bi wn.heap.size s s2 4 8) [91, 92, 93, 94, 95, 96, 97, 98, 9] (by kernel_rfl) (by kernel_rfl) (fun _ => R2.refl _ _ _) (R2.trans _ _) (fun i => (match i with
            | 0 => regs.Say.val _ (.agg #[.string (strOf s2.l), .int .i64 (s2.e : Nat)])
            | 1 => regs.Say.val _ (.pointer (some ⟨bi, 0, none⟩))
            | 2 => regs.Say.val _ (.pointer (some ⟨wr.heap.size, 1, none⟩))
            | 3 => regs.Say.val _ (.int .i64 nm)
            | 4 => say2 bi wn.heap.size hb12 xs
            | 5 => regs.Say.val _ (.string (strOf xs))
            | 6 => regs.Say.val _ (.string (strOf xs))
            | 7 => regs.Say.val _ (.bool true)
            | 8 => regs.Say.any _
            | 9 => regs.Say.val _ (.bool true)
            | _ => regs.Say.any _ : regs.Say (R2 bi wn.heap.size)).p) (fun _ => regs.Say.mono _) (by kernel_rfl) (R2.drew _ _ _) (⟨hI0, hX0⟩) ⟨?_, ?_, ?_, ?_, ?_, ?_, ?_, ?_, ?_, ?_, trivial⟩ ?_
          · refine regs.StepOK.plain rfl fun L a w1 hh => ?_
            have h16 : a.tmps[16]?.getD undef = .pointer (some ⟨w2.heap.size, 0, none⟩) := by rw [← Array.getD_eq_getD_getElem?]; exact hh.old 16 rfl
            have c0 := hh.rel.cell hne1 hne2 hj0
            have c1 := hh.rel.cell hne1 hne2 hj1
            have hJ := Lib.hid hh.st
            clear hh
            go_simp
            exact ⟨_, rfl, R2.refl _ _ _, rfl, hJ.out⟩
          · refine regs.StepOK.plain rfl fun L a w1 hh => ?_
            have h5 : a.tmps[5]?.getD undef = .pointer (some ⟨bi, 0, none⟩) := by rw [← Array.getD_eq_getD_getElem?]; exact hh.old 5 rfl
            have hJ := Lib.hid hh.st
            clear hh
            go_simp
            exact ⟨_, rfl, R2.refl _ _ _, rfl, hJ.out⟩
          · refine regs.StepOK.plain rfl fun L a w1 hh => ?_
            have h8 : a.tmps[8]?.getD undef = .pointer (some ⟨wr.heap.size, 0, none⟩) := by rw [← Array.getD_eq_getD_getElem?]; exact hh.old 8 rfl
            have hJ := Lib.hid hh.st
            clear hh
            go_simp
            exact ⟨_, rfl, R2.refl _ _ _, rfl, hJ.out⟩
          · refine regs.StepOK.plain rfl fun L a w1 hh => ?_
            have h93 : a.tmps[93]?.getD undef = .pointer (some ⟨wr.heap.size, 1, none⟩) := by rw [← Array.getD_eq_getD_getElem?]; exact hh.dep 2 93 (by kernel_rfl) (by kernel_rfl)
            have c0 := hh.rel.cell hna1 hna2 ha1
            have hJ := Lib.hid hh.st
            clear hh
            go_simp
            exact ⟨_, rfl, R2.refl _ _ _, rfl, hJ.out⟩
          · refine regs.StepOK.plain rfl fun L a w1 hh => ?_
            have h92 : a.tmps[92]?.getD undef = .pointer (some ⟨bi, 0, none⟩) := by rw [← Array.getD_eq_getD_getElem?]; exact hh.dep 1 92 (by kernel_rfl) (by kernel_rfl)
            have h94 : a.tmps[94]?.getD undef = .int .i64 nm := by rw [← Array.getD_eq_getD_getElem?]; exact hh.dep 3 94 (by kernel_rfl) (by kernel_rfl)
            have hI : InAt w1 lo bi s := by
              have := hh.st.1
              rw [hh.un] at this
              exact this
            have hX := hh.st.2
            have hcall := in_raw_any lo bi s nm w1 hI U2.out hlo (by have := raw_le s nm; have := rs.out.len; omega)
            rw [HS.out] at hcall
            clear hh
            go_simp
            refine hcall.mono ?_
            rintro e w9 ⟨⟨v2, rfl, own2⟩, p1, p2⟩
            obtain ⟨a2, c2, rfl, hp2, hx2, _⟩ := own2.part HXS.out
            refine ⟨_, rfl, R2.of_in p2, ⟨a2, c2, rfl, hp2.at_, fun x hx => ?_⟩, p1, hX.instep p2 (by omega)⟩
            obtain ⟨g, rfl, hg⟩ := hx2 x hx
            have := (own2.block hg).1
            have hl1 := hI.lt
            have hl2 := hX.lt
            exact ⟨by simp only; omega, by simp only; omega⟩
          · refine regs.StepOK.plain rfl fun L a w1 hh => ?_
            obtain ⟨a2, c2, h95, hat, _⟩ : ∃ a2 c2, a.tmps[95]?.getD undef = .slice a2 xs.length c2 ∧ Bs w1 a2 xs ∧ _ := by rw [← Array.getD_eq_getD_getElem?]; exact hh.dep 4 95 (by kernel_rfl) (by kernel_rfl)
            have hcv := conv_str w1 a2 xs c2 hat
            have hJ := Lib.hid hh.st
            clear hh
            go_simp
            exact ⟨_, rfl, R2.refl _ _ _, rfl, hJ.out⟩
          · refine regs.StepOK.plain rfl fun L a w1 hh => ?_
            have h17 : a.tmps[17]?.getD undef = .string (strOf xs) := by rw [← Array.getD_eq_getD_getElem?]; exact hh.old 17 rfl
            have hJ := Lib.hid hh.st
            clear hh
            go_simp
            exact ⟨_, rfl, R2.refl _ _ _, rfl, hJ.out⟩
          · refine regs.StepOK.plain rfl fun L a w1 hh => ?_
            have h96 : a.tmps[96]?.getD undef = .string (strOf xs) := by rw [← Array.getD_eq_getD_getElem?]; exact hh.dep 5 96 (by kernel_rfl) (by kernel_rfl)
            have h97 : a.tmps[97]?.getD undef = .string (strOf xs) := by rw [← Array.getD_eq_getD_getElem?]; exact hh.dep 6 97 (by kernel_rfl) (by kernel_rfl)
            have hJ := Lib.hid hh.st
            clear hh
            go_simp
            exact ⟨_, rfl, R2.refl _ _ _, rfl, hJ.out⟩
          · refine regs.StepOK.plain rfl fun L a w1 hh => ?_
            have h6 : a.tmps[6]?.getD undef = .pointer (some ⟨wn.heap.size, 0, none⟩) := by rw [← Array.getD_eq_getD_getElem?]; exact hh.old 6 rfl
            have h91 : a.tmps[91]?.getD undef = .agg #[.string (strOf s2.l), .int .i64 (s2.e : Nat)] := by rw [← Array.getD_eq_getD_getElem?]; exact hh.dep 0 91 (by kernel_rfl) (by kernel_rfl)
            have hI := hh.st.1
            have hX : XAt w1 wn.heap.size s := by
              have := hh.st.2
              rw [hh.un] at this
              exact this
            obtain ⟨x0, x1, f0, f1⟩ := id hX
            have HSP := Lib.hid (hX.put s2)
            have HP := Lib.hid (R2.put2 bi wn.heap.size w1 (.string (strOf s2.l)) (.int .i64 (s2.e : Nat)))
            have HI := Lib.hid (hI.stays (w' := (w1.setCell ⟨wn.heap.size, 0, none⟩ (.string (strOf s2.l))).setCell ⟨wn.heap.size, 1, none⟩ (.int .i64 (s2.e : Nat))) (fun k hk h1 h2 => R2.put_far w1 _ _ (by omega)) hlo)
            clear hh hI hX
            go_simp
            exact ⟨HP.out, ⟨undef, trivial⟩, HI.out, HSP.out⟩
          · refine regs.StepOK.plain rfl fun L a w1 hh => ?_
            have h98 : a.tmps[98]?.getD undef = .bool true := by rw [← Array.getD_eq_getD_getElem?]; exact hh.dep 7 98 (by kernel_rfl) (by kernel_rfl)
            have hJ := Lib.hid hh.st
            clear hh
            go_simp
            exact ⟨_, rfl, R2.refl _ _ _, rfl, hJ.out⟩
          intro Lf w5 val hL hJ hR2 hf
          have v9 : val 9 = .bool true := hf 9 9 (by kernel_rfl)
          have hJ1 := hJ.1
          have hJ2 := hJ.2
          rw [hL 4 (by decide)] at hJ1
          rw [hL 8 (by decide)] at hJ2
          have RS5 : Hid (∃ s2, RS w w5 lo bi wn.heap.size s2) := ⟨s2, RSW.out.next hJ1 hJ2 hR2 HE.out⟩
          clear hf hJ hJ1 hJ2 hL hR2 hj0 hj1 ha1 hI0 hX0
          simp only [regs.putAll, List.map_cons, List.map_nil]
          rw [v9]
          go_simp
          go_wp2_with (fail)
          go_meet
          exact ⟨rfl, RS5.out⟩
        · have t11 : (kd == 1) = false := by simp; omega
          have t12 : (kd == 2) = false := by simp; omega
          have t13 : (kd == 3) = false := by simp; omega
          have t14 : (kd == 4) = false := by simp; omega
          have t15 : (kd == 5) = true := by simp; omega
          clear hk
          obtain ⟨s2, xs, hs⟩ : ∃ (s2 : St) (xs : List Nat), s.text nm = (s2, xs) := ⟨_, _, rfl⟩
          have hends : s2.l.length ≤ s.l.length := by have := (text_ends s nm).le; rw [hs] at this; exact this
          have R : rtext (strOf s.l) s.e nm = .tuple #[.agg #[.string (strOf s2.l), .int .i64 (s2.e : Nat)], .string (strOf xs)] := by
            unfold rtext rin
            rw [natsOf_strOf hA]
            rw [show St.text ⟨s.l, s.e⟩ nm = (s2, xs) from hs]
          have HR := Lib.hid R
          have HS := Lib.hid hs
          have HE := Lib.hid hends
          clear R hs hends
          obtain ⟨x0, x1, f0, f1⟩ := RSA.out.x
          have hrx := rs.out.x.lt
          go_wp2_with (fail)
          refine (rin_text_any (strOf s.l) s.e nm _ (by rw [strOf_size]; have := rs.out.len; omega) U2.out).mono ?_
          rintro e w2 ⟨rfl, hb2⟩
          rw [HR.out]
          have RS2 := Lib.hid (RSA.out.on hb2)
          have hna := Lib.hid (hb2.cell (p := ⟨wr.heap.size, 1, none⟩) (by simp))
          have hsz2 : wr.heap.size < w2.heap.size := Nat.lt_of_lt_of_le (by simp) hb2.size
          clear hb2 x0 x1 f0 f1
          have RSW : Hid (RS w (w2.alloc (.cells #[.string (strOf s2.l), .int .i64 (s2.e : Nat)] 48)) lo bi wn.heap.size s) := RS2.out.on ((Below.refl _ _).alloc (Nat.le_refl _) _)
          have hI0 := RSW.out.i
          have hX0 := RSW.out.x
          have hj0 : (w2.alloc (.cells #[.string (strOf s2.l), .int .i64 (s2.e : Nat)] 48)).cell? ⟨w2.heap.size, 0, none⟩ = some (.string (strOf s2.l)) := cell_of_row _ _ 0 _ _ _ (heap_alloc_new w2 _)
          have hj1 : (w2.alloc (.cells #[.string (strOf s2.l), .int .i64 (s2.e : Nat)] 48)).cell? ⟨w2.heap.size, 1, none⟩ = some (.int .i64 (s2.e : Nat)) := cell_of_row _ _ 1 _ _ _ (heap_alloc_new w2 _)
          have ha1 : (w2.alloc (.cells #[.string (strOf s2.l), .int .i64 (s2.e : Nat)] 48)).cell? ⟨wr.heap.size, 1, none⟩ = some (.int .i64 nm) :=
            (World.cell?_alloc_lt _ _ _ hsz2).trans (hna.out.trans (cell_of_row _ _ 1 _ _ _ (heap_alloc_new wr _)))
          have hb12 := rs.out.lt
          have hlo := rs.out.lo_le
          have hri := rs.out.i.lt
          have hne1 : w2.heap.size ≠ bi := by omega
          have hne2 : w2.heap.size ≠ wn.heap.size := by omega
          have hna1 : wr.heap.size ≠ bi := by omega
          have hna2 : wr.heap.size ≠ wn.heap.size := by omega
          have HJ0 := Lib.hid hj0
          have HJ1 := Lib.hid hj1
          have HA1 := Lib.hid ha1
          have HI0 := Lib.hid hI0
          have HX0 := Lib.hid hX0
          clear hj0 hj1 ha1 hI0 hX0
          go_wp2_with (fail)
          have hj0 := HJ0.out
          have hj1 := HJ1.out
          have ha1 := HA1.out
          have hI0 := HI0.out
          have hX0 := HX0.out
          refine regs.wp_region_put (R2 bi wn.heap.size) (Jx lo bi wn.heap.size s s2 4 7) [108, 109, 110, 111, 112, 113, 114, 9] (by kernel_rfl) (by kernel_rfl) (fun _ => R2.refl _ _ _) (R2.trans _ _) (fun i => (match i with
            | 0 => regs.Say.val _ (.agg #[.string (strOf s2.l), .int .i64 (s2.e : Nat)])
            | 1 => regs.Say.val _ (.pointer (some ⟨bi, 0, none⟩))
            | 2 => regs.Say.val _ (.pointer (some ⟨wr.heap.size, 1, none⟩))
            | 3 => regs.Say.val _ (.int .i64 nm)
            | 4 => regs.Say.val _ (.string (strOf xs))
            | 5 => regs.Say.val _ (.string (strOf xs))
            | 6 => regs.Say.val _ (.bool true)
            | 7 => regs.Say.any _
            | 8 => regs.Say.val _ (.bool true)
            | _ => regs.Say.any _ : regs.Say (R2 bi wn.heap.size)).p) (fun _ => regs.Say.mono _) (by kernel_rfl) (R2.drew _ _ _) (⟨hI0, hX0⟩) ⟨?_, ?_, ?_, ?_, ?_, ?_, ?_, ?_, ?_, trivial⟩ ?_
          · refine regs.StepOK.plain rfl fun L a w1 hh => ?_
            have h18 : a.tmps[18]?.getD undef = .pointer (some ⟨w2.heap.size, 0, none⟩) := by rw [← Array.getD_eq_getD_getElem?]; exact hh.old 18 rfl
            have c0 := hh.rel.cell hne1 hne2 hj0
            have c1 := hh.rel.cell hne1 hne2 hj1
            have hJ := Lib.hid hh.st
            clear hh
            go_simp
            exact ⟨_, rfl, R2.refl _ _ _, rfl, hJ.out⟩
          · refine regs.StepOK.plain rfl fun L a w1 hh => ?_
            have h5 : a.tmps[5]?.getD undef = .pointer (some ⟨bi, 0, none⟩) := by rw [← Array.getD_eq_getD_getElem?]; exact hh.old 5 rfl
            have hJ := Lib.hid hh.st
            clear hh
            go_simp
            exact ⟨_, rfl, R2.refl _ _ _, rfl, hJ.out⟩
          · refine regs.StepOK.plain rfl fun L a w1 hh => ?_
            have h8 : a.tmps[8]?.getD undef = .pointer (some ⟨wr.heap.size, 0, none⟩) := by rw [← Array.getD_eq_getD_getElem?]; exact hh.old 8 rfl
            have hJ := Lib.hid hh.st
            clear hh
            go_simp
            exact ⟨_, rfl, R2.refl _ _ _, rfl, hJ.out⟩
          · refine regs.StepOK.plain rfl fun L a w1 hh => ?_
            have h110 : a.tmps[110]?.getD undef = .pointer (some ⟨wr.heap.size, 1, none⟩) := by rw [← Array.getD_eq_getD_getElem?]; exact hh.dep 2 110 (by kernel_rfl) (by kernel_rfl)
            have c0 := hh.rel.cell hna1 hna2 ha1
            have hJ := Lib.hid hh.st
            clear hh
            go_simp
            exact ⟨_, rfl, R2.refl _ _ _, rfl, hJ.out⟩
          · refine regs.StepOK.plain rfl fun L a w1 hh => ?_
            have h109 : a.tmps[109]?.getD undef = .pointer (some ⟨bi, 0, none⟩) := by rw [← Array.getD_eq_getD_getElem?]; exact hh.dep 1 109 (by kernel_rfl) (by kernel_rfl)
            have h111 : a.tmps[111]?.getD undef = .int .i64 nm := by rw [← Array.getD_eq_getD_getElem?]; exact hh.dep 3 111 (by kernel_rfl) (by kernel_rfl)
            have hI : InAt w1 lo bi s := by
              have := hh.st.1
              rw [hh.un] at this
              exact this
            have hX := hh.st.2
            have hcall := in_text_any lo bi s nm w1 hI U2.out (below_le U2.out fun h => (uint_err hI.inv h).2)
            rw [HS.out] at hcall
            clear hh
            go_simp
            refine hcall.mono ?_
            rintro e w9 ⟨rfl, p1, p2⟩
            exact ⟨_, rfl, R2.of_in p2, rfl, p1, hX.instep p2 (by omega)⟩
          · refine regs.StepOK.plain rfl fun L a w1 hh => ?_
            have h19 : a.tmps[19]?.getD undef = .string (strOf xs) := by rw [← Array.getD_eq_getD_getElem?]; exact hh.old 19 rfl
            have hJ := Lib.hid hh.st
            clear hh
            go_simp
            exact ⟨_, rfl, R2.refl _ _ _, rfl, hJ.out⟩
          · refine regs.StepOK.plain rfl fun L a w1 hh => ?_
            have h112 : a.tmps[112]?.getD undef = .string (strOf xs) := by rw [← Array.getD_eq_getD_getElem?]; exact hh.dep 4 112 (by kernel_rfl) (by kernel_rfl)
            have h113 : a.tmps[113]?.getD undef = .string (strOf xs) := by rw [← Array.getD_eq_getD_getElem?]; exact hh.dep 5 113 (by kernel_rfl) (by kernel_rfl)
            have hJ := Lib.hid hh.st
            clear hh
            go_simp
            exact ⟨_, rfl, R2.refl _ _ _, rfl, hJ.out⟩
          · refine regs.StepOK.plain rfl fun L a w1 hh => ?_
            have h6 : a.tmps[6]?.getD undef = .pointer (some ⟨wn.heap.size, 0, none⟩) := by rw [← Array.getD_eq_getD_getElem?]; exact hh.old 6 rfl
            have h108 : a.tmps[108]?.getD undef = .agg #[.string (strOf s2.l), .int .i64 (s2.e : Nat)] := by rw [← Array.getD_eq_getD_getElem?]; exact hh.dep 0 108 (by kernel_rfl) (by kernel_rfl)
            have hI := hh.st.1
            have hX : XAt w1 wn.heap.size s := by
              have := hh.st.2
              rw [hh.un] at this
              exact this
            obtain ⟨x0, x1, f0, f1⟩ := id hX
            have HSP := Lib.hid (hX.put s2)
            have HP := Lib.hid (R2.put2 bi wn.heap.size w1 (.string (strOf s2.l)) (.int .i64 (s2.e : Nat)))
            have HI := Lib.hid (hI.stays (w' := (w1.setCell ⟨wn.heap.size, 0, none⟩ (.string (strOf s2.l))).setCell ⟨wn.heap.size, 1, none⟩ (.int .i64 (s2.e : Nat))) (fun k hk h1 h2 => R2.put_far w1 _ _ (by omega)) hlo)
            clear hh hI hX
            go_simp
            exact ⟨HP.out, ⟨undef, trivial⟩, HI.out, HSP.out⟩
          · refine regs.StepOK.plain rfl fun L a w1 hh => ?_
            have h114 : a.tmps[114]?.getD undef = .bool true := by rw [← Array.getD_eq_getD_getElem?]; exact hh.dep 6 114 (by kernel_rfl) (by kernel_rfl)
            have hJ := Lib.hid hh.st
            clear hh
            go_simp
            exact ⟨_, rfl, R2.refl _ _ _, rfl, hJ.out⟩
          intro Lf w5 val hL hJ hR2 hf
          have v9 : val 9 = .bool true := hf 8 9 (by kernel_rfl)
          have hJ1 := hJ.1
          have hJ2 := hJ.2
          rw [hL 4 (by decide)] at hJ1
          rw [hL 7 (by decide)] at hJ2
          have RS5 : Hid (∃ s2, RS w w5 lo bi wn.heap.size s2) := ⟨s2, RSW.out.next hJ1 hJ2 hR2 HE.out⟩
          clear hf hJ hJ1 hJ2 hL hR2 hj0 hj1 ha1 hI0 hX0
          simp only [regs.putAll, List.map_cons, List.map_nil]
          rw [v9]
          go_simp
          go_wp2_with (fail)
          go_meet
          exact ⟨rfl, RS5.out⟩
        · have t11 : (kd == 1) = false := by simp; omega
          have t12 : (kd == 2) = false := by simp; omega
          have t13 : (kd == 3) = false := by simp; omega
          have t14 : (kd == 4) = false := by simp; omega
          have t15 : (kd == 5) = false := by simp; omega
          have t16 : (kd == 6) = true := by simp; omega
          clear hk
          obtain ⟨s2, v, hs⟩ : ∃ (s2 : St) (v : Nat), s.below nm = (s2, v) := ⟨_, _, rfl⟩
          have hends : s2.l.length ≤ s.l.length := by have := (below_ends s nm).le; rw [hs] at this; exact this
          have R : rbelow (strOf s.l) s.e nm = .tuple #[.agg #[.string (strOf s2.l), .int .i64 (s2.e : Nat)], .int .i64 (v : Nat)] := by
            unfold rbelow rin
            rw [natsOf_strOf hA]
            rw [show St.below ⟨s.l, s.e⟩ nm = (s2, v) from hs]
          have HR := Lib.hid R
          have HS := Lib.hid hs
          have HE := Lib.hid hends
          clear R hs hends
          obtain ⟨x0, x1, f0, f1⟩ := RSA.out.x
          have hrx := rs.out.x.lt
          go_wp2_with (fail)
          refine (rin_below_any (strOf s.l) s.e nm _ (by rw [strOf_size]; have := rs.out.len; omega) U2.out).mono ?_
          rintro e w2 ⟨rfl, hb2⟩
          rw [HR.out]
          have RS2 := Lib.hid (RSA.out.on hb2)
          have hna := Lib.hid (hb2.cell (p := ⟨wr.heap.size, 1, none⟩) (by simp))
          have hsz2 : wr.heap.size < w2.heap.size := Nat.lt_of_lt_of_le (by simp) hb2.size
          clear hb2 x0 x1 f0 f1
          have RSW : Hid (RS w (w2.alloc (.cells #[.string (strOf s2.l), .int .i64 (s2.e : Nat)] 48)) lo bi wn.heap.size s) := RS2.out.on ((Below.refl _ _).alloc (Nat.le_refl _) _)
          have hI0 := RSW.out.i
          have hX0 := RSW.out.x
          have hj0 : (w2.alloc (.cells #[.string (strOf s2.l), .int .i64 (s2.e : Nat)] 48)).cell? ⟨w2.heap.size, 0, none⟩ = some (.string (strOf s2.l)) := cell_of_row _ _ 0 _ _ _ (heap_alloc_new w2 _)
          have hj1 : (w2.alloc (.cells #[.string (strOf s2.l), .int .i64 (s2.e : Nat)] 48)).cell? ⟨w2.heap.size, 1, none⟩ = some (.int .i64 (s2.e : Nat)) := cell_of_row _ _ 1 _ _ _ (heap_alloc_new w2 _)
          have ha1 : (w2.alloc (.cells #[.string (strOf s2.l), .int .i64 (s2.e : Nat)] 48)).cell? ⟨wr.heap.size, 1, none⟩ = some (.int .i64 nm) :=
            (World.cell?_alloc_lt _ _ _ hsz2).trans (hna.out.trans (cell_of_row _ _ 1 _ _ _ (heap_alloc_new wr _)))
          have hb12 := rs.out.lt
          have hlo := rs.out.lo_le
          have hri := rs.out.i.lt
          have hne1 : w2.heap.size ≠ bi := by omega
          have hne2 : w2.heap.size ≠ wn.heap.size := by omega
          have hna1 : wr.heap.size ≠ bi := by omega
          have hna2 : wr.heap.size ≠ wn.heap.size := by omega
          have HJ0 := Lib.hid hj0
          have HJ1 := Lib.hid hj1
          have HA1 := Lib.hid ha1
          have HI0 := Lib.hid hI0
          have HX0 := Lib.hid hX0
          clear hj0 hj1 ha1 hI0 hX0
          go_wp2_with (fail)
          have hj0 := HJ0.out
          have hj1 := HJ1.out
          have ha1 := HA1.out
          have hI0 := HI0.out
          have hX0 := HX0.out
          refine regs.wp_region_put (R2 bi wn.heap.size) (Jx lo bi wn.heap.size s s2 4 7) [124, 125, 126, 127, 128, 129, 130, 9] (by kernel_rfl) (by kernel_rfl) (fun _ => R2.refl _ _ _) (R2.trans _ _) (fun i => (match i with
            | 0 => regs.Say.val _ (.agg #[.string (strOf s2.l), .int .i64 (s2.e : Nat)])
            | 1 => regs.Say.val _ (.pointer (some ⟨bi, 0, none⟩))
            | 2 => regs.Say.val _ (.pointer (some ⟨wr.heap.size, 1, none⟩))
            | 3 => regs.Say.val _ (.int .i64 nm)
            | 4 => regs.Say.val _ (.int .i64 (v : Nat))
            | 5 => regs.Say.val _ (.int .i64 (v : Nat))
            | 6 => regs.Say.val _ (.bool true)
            | 7 => regs.Say.any _
            | 8 => regs.Say.val _ (.bool true)
            | _ => regs.Say.any _ : regs.Say (R2 bi wn.heap.size)).p) (fun _ => regs.Say.mono _) (by kernel_rfl) (R2.drew _ _ _) (⟨hI0, hX0⟩) ⟨?_, ?_, ?_, ?_, ?_, ?_, ?_, ?_, ?_, trivial⟩ ?_
          · refine regs.StepOK.plain rfl fun L a w1 hh => ?_
            have h20 : a.tmps[20]?.getD undef = .pointer (some ⟨w2.heap.size, 0, none⟩) := by rw [← Array.getD_eq_getD_getElem?]; exact hh.old 20 rfl
            have c0 := hh.rel.cell hne1 hne2 hj0
            have c1 := hh.rel.cell hne1 hne2 hj1
            have hJ := Lib.hid hh.st
            clear hh
            go_simp
            exact ⟨_, rfl, R2.refl _ _ _, rfl, hJ.out⟩
          · refine regs.StepOK.plain rfl fun L a w1 hh => ?_
            have h5 : a.tmps[5]?.getD undef = .pointer (some ⟨bi, 0, none⟩) := by rw [← Array.getD_eq_getD_getElem?]; exact hh.old 5 rfl
            have hJ := Lib.hid hh.st
            clear hh
            go_simp
            exact ⟨_, rfl, R2.refl _ _ _, rfl, hJ.out⟩
          · refine regs.StepOK.plain rfl fun L a w1 hh => ?_
            have h8 : a.tmps[8]?.getD undef = .pointer (some ⟨wr.heap.size, 0, none⟩) := by rw [← Array.getD_eq_getD_getElem?]; exact hh.old 8 rfl
            have hJ := Lib.hid hh.st
            clear hh
            go_simp
            exact ⟨_, rfl, R2.refl _ _ _, rfl, hJ.out⟩
          · refine regs.StepOK.plain rfl fun L a w1 hh => ?_
            have h126 : a.tmps[126]?.getD undef = .pointer (some ⟨wr.heap.size, 1, none⟩) := by rw [← Array.getD_eq_getD_getElem?]; exact hh.dep 2 126 (by kernel_rfl) (by kernel_rfl)
            have c0 := hh.rel.cell hna1 hna2 ha1
            have hJ := Lib.hid hh.st
            clear hh
            go_simp
            exact ⟨_, rfl, R2.refl _ _ _, rfl, hJ.out⟩
          · refine regs.StepOK.plain rfl fun L a w1 hh => ?_
            have h125 : a.tmps[125]?.getD undef = .pointer (some ⟨bi, 0, none⟩) := by rw [← Array.getD_eq_getD_getElem?]; exact hh.dep 1 125 (by kernel_rfl) (by kernel_rfl)
            have h127 : a.tmps[127]?.getD undef = .int .i64 nm := by rw [← Array.getD_eq_getD_getElem?]; exact hh.dep 3 127 (by kernel_rfl) (by kernel_rfl)
            have hI : InAt w1 lo bi s := by
              have := hh.st.1
              rw [hh.un] at this
              exact this
            have hX := hh.st.2
            have hcall := in_below_any lo bi s nm w1 hI U2.out
            rw [HS.out] at hcall
            clear hh
            go_simp
            refine hcall.mono ?_
            rintro e w9 ⟨rfl, p1, p2⟩
            exact ⟨_, rfl, R2.of_in p2, rfl, p1, hX.instep p2 (by omega)⟩
          · refine regs.StepOK.plain rfl fun L a w1 hh => ?_
            have h21 : a.tmps[21]?.getD undef = .int .i64 (v : Nat) := by rw [← Array.getD_eq_getD_getElem?]; exact hh.old 21 rfl
            have hJ := Lib.hid hh.st
            clear hh
            go_simp
            exact ⟨_, rfl, R2.refl _ _ _, rfl, hJ.out⟩
          · refine regs.StepOK.plain rfl fun L a w1 hh => ?_
            have h128 : a.tmps[128]?.getD undef = .int .i64 (v : Nat) := by rw [← Array.getD_eq_getD_getElem?]; exact hh.dep 4 128 (by kernel_rfl) (by kernel_rfl)
            have h129 : a.tmps[129]?.getD undef = .int .i64 (v : Nat) := by rw [← Array.getD_eq_getD_getElem?]; exact hh.dep 5 129 (by kernel_rfl) (by kernel_rfl)
            have hJ := Lib.hid hh.st
            clear hh
            go_simp
            exact ⟨_, rfl, R2.refl _ _ _, rfl, hJ.out⟩
          · refine regs.StepOK.plain rfl fun L a w1 hh => ?_
            have h6 : a.tmps[6]?.getD undef = .pointer (some ⟨wn.heap.size, 0, none⟩) := by rw [← Array.getD_eq_getD_getElem?]; exact hh.old 6 rfl
            have h124 : a.tmps[124]?.getD undef = .agg #[.string (strOf s2.l), .int .i64 (s2.e : Nat)] := by rw [← Array.getD_eq_getD_getElem?]; exact hh.dep 0 124 (by kernel_rfl) (by kernel_rfl)
            have hI := hh.st.1
            have hX : XAt w1 wn.heap.size s := by
              have := hh.st.2
              rw [hh.un] at this
              exact this
            obtain ⟨x0, x1, f0, f1⟩ := id hX
            have HSP := Lib.hid (hX.put s2)
            have HP := Lib.hid (R2.put2 bi wn.heap.size w1 (.string (strOf s2.l)) (.int .i64 (s2.e : Nat)))
            have HI := Lib.hid (hI.stays (w' := (w1.setCell ⟨wn.heap.size, 0, none⟩ (.string (strOf s2.l))).setCell ⟨wn.heap.size, 1, none⟩ (.int .i64 (s2.e : Nat))) (fun k hk h1 h2 => R2.put_far w1 _ _ (by omega)) hlo)
            clear hh hI hX
            go_simp
            exact ⟨HP.out, ⟨undef, trivial⟩, HI.out, HSP.out⟩
          · refine regs.StepOK.plain rfl fun L a w1 hh => ?_
            have h130 : a.tmps[130]?.getD undef = .bool true := by rw [← Array.getD_eq_getD_getElem?]; exact hh.dep 6 130 (by kernel_rfl) (by kernel_rfl)
            have hJ := Lib.hid hh.st
            clear hh
            go_simp
            exact ⟨_, rfl, R2.refl _ _ _, rfl, hJ.out⟩
          intro Lf w5 val hL hJ hR2 hf
          have v9 : val 9 = .bool true := hf 8 9 (by kernel_rfl)
          have hJ1 := hJ.1
          have hJ2 := hJ.2
          rw [hL 4 (by decide)] at hJ1
          rw [hL 7 (by decide)] at hJ2
          have RS5 : Hid (∃ s2, RS w w5 lo bi wn.heap.size s2) := ⟨s2, RSW.out.next hJ1 hJ2 hR2 HE.out⟩
          clear hf hJ hJ1 hJ2 hL hR2 hj0 hj1 ha1 hI0 hX0
          simp only [regs.putAll, List.map_cons, List.map_nil]
          rw [v9]
          go_simp
          go_wp2_with (fail)
          go_meet
          exact ⟨rfl, RS5.out⟩
        · have t11 : (kd == 1) = false := by simp; omega
          have t12 : (kd == 2) = false := by simp; omega
          have t13 : (kd == 3) = false := by simp; omega
          have t14 : (kd == 4) = false := by simp; omega
          have t15 : (kd == 5) = false := by simp; omega
          have t16 : (kd == 6) = false := by simp; omega
          have RS5 : Hid (∃ s2, RS w (wr.alloc (.cells #[.int .i64 kd, .int .i64 nm] 50)) lo bi wn.heap.size s2) := ⟨s, RSA.out⟩
          clear hk
          go_wp2_with (fail)
          go_meet
          exact ⟨rfl, RS5.out⟩
      case rest =>
        obtain ⟨rfl, s2, rsc⟩ := hcut
        have RSC := Lib.hid rsc
        clear rsc rs ck0 ck1
        go_wp2_with (fail)
        refine regs.wp_region_put (regs.bl) (regs.noJ) [131, 132, 133, 134, 135, 136, 137, 138, 139, 140, 141, 142, 143, 144, 145, 146, 147, 148, 149, 150, 151, 152, 153, 154] (by kernel_rfl) (by kernel_rfl) (fun _ => regs.bl_refl _) (regs.bl_trans) (fun i => (match i with
          | 0 => regs.Say.val _ (.bool true)
          | 1 => regs.Say.val _ (.bool false)
          | 2 => regs.Say.val _ (.bool false)
          | 3 => regs.Say.val _ (.pointer (some ⟨bi, 0, none⟩))
          | 4 => regs.Say.val _ (.int .i64 (s2.e : Nat))
          | 5 => regs.Say.val _ (.pointer (some ⟨wn.heap.size, 1, none⟩))
          | 6 => regs.Say.val _ (.int .i64 (s2.e : Nat))
          | 7 => regs.Say.val _ (.bool false)
          | 8 => regs.Say.val _ (.bool false)
          | 9 => regs.Say.val _ (.bool false)
          | 10 => regs.Say.val _ (.pointer (some ⟨bi, 0, none⟩))
          | 11 => regs.Say.val _ (.int .i64 (s2.l.length : Nat))
          | 12 => regs.Say.val _ (.pointer (some ⟨wn.heap.size, 0, none⟩))
          | 13 => regs.Say.val _ (.string (strOf s2.l))
          | 14 => regs.Say.val _ (.int .i64 (s2.l.length : Nat))
          | 15 => regs.Say.val _ (.bool false)
          | 16 => regs.Say.val _ (.bool false)
          | 17 => regs.Say.val _ (.bool false)
          | 18 => regs.Say.val _ (.pointer (some ⟨bi, 0, none⟩))
          | 19 => regs.Say.val _ (.int .i64 (s2.fin : Nat))
          | 20 => regs.Say.val _ (.agg #[.string (strOf s2.l), .int .i64 (s2.e : Nat)])
          | 21 => regs.Say.val _ (.int .i64 (s2.fin : Nat))
          | 22 => regs.Say.val _ (.bool false)
          | 23 => regs.Say.val _ (.bool false)
          | _ => regs.Say.any _ : regs.Say (regs.bl)).p) (fun _ => regs.Say.mono _) (by kernel_rfl) ((Below.refl _ _).drew) (regs.noJ_ok _ _) ⟨?_, ?_, ?_, ?_, ?_, ?_, ?_, ?_, ?_, ?_, ?_, ?_, ?_, ?_, ?_, ?_, ?_, ?_, ?_, ?_, ?_, ?_, ?_, ?_, trivial⟩ ?_
        · refine regs.StepOK.plain rfl fun L a w1 hh => ?_
          have h9 : a.tmps[9]?.getD undef = .bool true := by rw [← Array.getD_eq_getD_getElem?]; exact hh.old 9 rfl
          have hJ := Lib.hid hh.st
          clear hh
          go_simp
          exact ⟨_, rfl, regs.bl_refl _, rfl, hJ.out⟩
        · refine regs.StepOK.plain rfl fun L a w1 hh => ?_
          have h131 : a.tmps[131]?.getD undef = .bool true := by rw [← Array.getD_eq_getD_getElem?]; exact hh.dep 0 131 (by kernel_rfl) (by kernel_rfl)
          have hJ := Lib.hid hh.st
          clear hh
          go_simp
          exact ⟨_, rfl, regs.bl_refl _, rfl, hJ.out⟩
        · refine regs.StepOK.plain rfl fun L a w1 hh => ?_
          have h132 : a.tmps[132]?.getD undef = .bool false := by rw [← Array.getD_eq_getD_getElem?]; exact hh.dep 1 132 (by kernel_rfl) (by kernel_rfl)
          have hJ := Lib.hid hh.st
          clear hh
          go_simp
          exact ⟨_, rfl, regs.bl_refl _, rfl, hJ.out⟩
        · refine regs.StepOK.yes 2 false 133 rfl rfl (fun L a w1 hh => hh.dep 2 133 (by kernel_rfl) (by kernel_rfl)) fun L a w1 hh => ?_
          have h5 : a.tmps[5]?.getD undef = .pointer (some ⟨bi, 0, none⟩) := by rw [← Array.getD_eq_getD_getElem?]; exact hh.old 5 rfl
          have hJ := Lib.hid hh.st
          clear hh
          go_simp
          exact ⟨_, rfl, regs.bl_refl _, rfl, hJ.out⟩
        · refine regs.StepOK.yes 2 false 133 rfl rfl (fun L a w1 hh => hh.dep 2 133 (by kernel_rfl) (by kernel_rfl)) fun L a w1 hh => ?_
          have h134 : a.tmps[134]?.getD undef = .pointer (some ⟨bi, 0, none⟩) := by rw [← Array.getD_eq_getD_getElem?]; exact hh.dep 3 134 (by kernel_rfl) (by kernel_rfl)
          have hI := RSC.out.i.below RSC.out.lo_le hh.rel
          have hJ := Lib.hid hh.st
          clear hh
          go_simp
          refine (in_err_any lo bi s2 w1 hI).mono ?_
          rintro e w9 ⟨rfl, rfl⟩
          exact ⟨_, rfl, regs.bl_refl _, rfl, hJ.out⟩
        · refine regs.StepOK.yes 2 false 133 rfl rfl (fun L a w1 hh => hh.dep 2 133 (by kernel_rfl) (by kernel_rfl)) fun L a w1 hh => ?_
          have h6 : a.tmps[6]?.getD undef = .pointer (some ⟨wn.heap.size, 0, none⟩) := by rw [← Array.getD_eq_getD_getElem?]; exact hh.old 6 rfl
          have hJ := Lib.hid hh.st
          clear hh
          go_simp
          exact ⟨_, rfl, regs.bl_refl _, rfl, hJ.out⟩
        · refine regs.StepOK.yes 2 false 133 rfl rfl (fun L a w1 hh => hh.dep 2 133 (by kernel_rfl) (by kernel_rfl)) fun L a w1 hh => ?_
          have h136 : a.tmps[136]?.getD undef = .pointer (some ⟨wn.heap.size, 1, none⟩) := by rw [← Array.getD_eq_getD_getElem?]; exact hh.dep 5 136 (by kernel_rfl) (by kernel_rfl)
          have c0 := (RSC.out.x.below hh.rel).2.1
          have hJ := Lib.hid hh.st
          clear hh
          go_simp
          exact ⟨_, rfl, regs.bl_refl _, rfl, hJ.out⟩
        · refine regs.StepOK.yes 2 false 133 rfl rfl (fun L a w1 hh => hh.dep 2 133 (by kernel_rfl) (by kernel_rfl)) fun L a w1 hh => ?_
          have h135 : a.tmps[135]?.getD undef = .int .i64 (s2.e : Nat) := by rw [← Array.getD_eq_getD_getElem?]; exact hh.dep 4 135 (by kernel_rfl) (by kernel_rfl)
          have h137 : a.tmps[137]?.getD undef = .int .i64 (s2.e : Nat) := by rw [← Array.getD_eq_getD_getElem?]; exact hh.dep 6 137 (by kernel_rfl) (by kernel_rfl)
          have hJ := Lib.hid hh.st
          clear hh
          go_simp
          exact ⟨_, rfl, regs.bl_refl _, rfl, hJ.out⟩
        · refine regs.StepOK.plain rfl fun L a w1 hh => ?_
          have h133 : a.tmps[133]?.getD undef = .bool false := by rw [← Array.getD_eq_getD_getElem?]; exact hh.dep 2 133 (by kernel_rfl) (by kernel_rfl)
          have h138 : a.tmps[138]?.getD undef = .bool false := by rw [← Array.getD_eq_getD_getElem?]; exact hh.dep 7 138 (by kernel_rfl) (by kernel_rfl)
          have hJ := Lib.hid hh.st
          clear hh
          go_simp
          exact ⟨_, rfl, regs.bl_refl _, rfl, hJ.out⟩
        · refine regs.StepOK.plain rfl fun L a w1 hh => ?_
          have h139 : a.tmps[139]?.getD undef = .bool false := by rw [← Array.getD_eq_getD_getElem?]; exact hh.dep 8 139 (by kernel_rfl) (by kernel_rfl)
          have hJ := Lib.hid hh.st
          clear hh
          go_simp
          exact ⟨_, rfl, regs.bl_refl _, rfl, hJ.out⟩
        · refine regs.StepOK.yes 9 false 140 rfl rfl (fun L a w1 hh => hh.dep 9 140 (by kernel_rfl) (by kernel_rfl)) fun L a w1 hh => ?_
          have h5 : a.tmps[5]?.getD undef = .pointer (some ⟨bi, 0, none⟩) := by rw [← Array.getD_eq_getD_getElem?]; exact hh.old 5 rfl
          have hJ := Lib.hid hh.st
          clear hh
          go_simp
          exact ⟨_, rfl, regs.bl_refl _, rfl, hJ.out⟩
        · refine regs.StepOK.yes 9 false 140 rfl rfl (fun L a w1 hh => hh.dep 9 140 (by kernel_rfl) (by kernel_rfl)) fun L a w1 hh => ?_
          have h141 : a.tmps[141]?.getD undef = .pointer (some ⟨bi, 0, none⟩) := by rw [← Array.getD_eq_getD_getElem?]; exact hh.dep 10 141 (by kernel_rfl) (by kernel_rfl)
          have hI := RSC.out.i.below RSC.out.lo_le hh.rel
          have hJ := Lib.hid hh.st
          clear hh
          go_simp
          refine (in_left_any lo bi s2 w1 hI).mono ?_
          rintro e w9 ⟨rfl, rfl⟩
          exact ⟨_, rfl, regs.bl_refl _, rfl, hJ.out⟩
        · refine regs.StepOK.yes 9 false 140 rfl rfl (fun L a w1 hh => hh.dep 9 140 (by kernel_rfl) (by kernel_rfl)) fun L a w1 hh => ?_
          have h6 : a.tmps[6]?.getD undef = .pointer (some ⟨wn.heap.size, 0, none⟩) := by rw [← Array.getD_eq_getD_getElem?]; exact hh.old 6 rfl
          have hJ := Lib.hid hh.st
          clear hh
          go_simp
          exact ⟨_, rfl, regs.bl_refl _, rfl, hJ.out⟩
        · refine regs.StepOK.yes 9 false 140 rfl rfl (fun L a w1 hh => hh.dep 9 140 (by kernel_rfl) (by kernel_rfl)) fun L a w1 hh => ?_
          have h143 : a.tmps[143]?.getD undef = .pointer (some ⟨wn.heap.size, 0, none⟩) := by rw [← Array.getD_eq_getD_getElem?]; exact hh.dep 12 143 (by kernel_rfl) (by kernel_rfl)
          have c0 := (RSC.out.x.below hh.rel).1
          have hJ := Lib.hid hh.st
          clear hh
          go_simp
          exact ⟨_, rfl, regs.bl_refl _, rfl, hJ.out⟩
        · refine regs.StepOK.yes 9 false 140 rfl rfl (fun L a w1 hh => hh.dep 9 140 (by kernel_rfl) (by kernel_rfl)) fun L a w1 hh => ?_
          have h144 : a.tmps[144]?.getD undef = .string (strOf s2.l) := by rw [← Array.getD_eq_getD_getElem?]; exact hh.dep 13 144 (by kernel_rfl) (by kernel_rfl)
          have hsz : (strOf s2.l).size = s2.l.length := strOf_size _
          have hJ := Lib.hid hh.st
          clear hh
          go_simp
          exact ⟨_, rfl, regs.bl_refl _, rfl, hJ.out⟩
        · refine regs.StepOK.yes 9 false 140 rfl rfl (fun L a w1 hh => hh.dep 9 140 (by kernel_rfl) (by kernel_rfl)) fun L a w1 hh => ?_
          have h142 : a.tmps[142]?.getD undef = .int .i64 (s2.l.length : Nat) := by rw [← Array.getD_eq_getD_getElem?]; exact hh.dep 11 142 (by kernel_rfl) (by kernel_rfl)
          have h145 : a.tmps[145]?.getD undef = .int .i64 (s2.l.length : Nat) := by rw [← Array.getD_eq_getD_getElem?]; exact hh.dep 14 145 (by kernel_rfl) (by kernel_rfl)
          have hJ := Lib.hid hh.st
          clear hh
          go_simp
          exact ⟨_, rfl, regs.bl_refl _, rfl, hJ.out⟩
        · refine regs.StepOK.plain rfl fun L a w1 hh => ?_
          have h140 : a.tmps[140]?.getD undef = .bool false := by rw [← Array.getD_eq_getD_getElem?]; exact hh.dep 9 140 (by kernel_rfl) (by kernel_rfl)
          have h146 : a.tmps[146]?.getD undef = .bool false := by rw [← Array.getD_eq_getD_getElem?]; exact hh.dep 15 146 (by kernel_rfl) (by kernel_rfl)
          have hJ := Lib.hid hh.st
          clear hh
          go_simp
          exact ⟨_, rfl, regs.bl_refl _, rfl, hJ.out⟩
        · refine regs.StepOK.plain rfl fun L a w1 hh => ?_
          have h147 : a.tmps[147]?.getD undef = .bool false := by rw [← Array.getD_eq_getD_getElem?]; exact hh.dep 16 147 (by kernel_rfl) (by kernel_rfl)
          have hJ := Lib.hid hh.st
          clear hh
          go_simp
          exact ⟨_, rfl, regs.bl_refl _, rfl, hJ.out⟩
        · refine regs.StepOK.yes 17 false 148 rfl rfl (fun L a w1 hh => hh.dep 17 148 (by kernel_rfl) (by kernel_rfl)) fun L a w1 hh => ?_
          have h5 : a.tmps[5]?.getD undef = .pointer (some ⟨bi, 0, none⟩) := by rw [← Array.getD_eq_getD_getElem?]; exact hh.old 5 rfl
          have hJ := Lib.hid hh.st
          clear hh
          go_simp
          exact ⟨_, rfl, regs.bl_refl _, rfl, hJ.out⟩
        · refine regs.StepOK.yes 17 false 148 rfl rfl (fun L a w1 hh => hh.dep 17 148 (by kernel_rfl) (by kernel_rfl)) fun L a w1 hh => ?_
          have h149 : a.tmps[149]?.getD undef = .pointer (some ⟨bi, 0, none⟩) := by rw [← Array.getD_eq_getD_getElem?]; exact hh.dep 18 149 (by kernel_rfl) (by kernel_rfl)
          have hI := RSC.out.i.below RSC.out.lo_le hh.rel
          have hJ := Lib.hid hh.st
          clear hh
          go_simp
          refine (in_end_any lo bi s2 w1 hI).mono ?_
          rintro e w9 ⟨rfl, rfl⟩
          exact ⟨_, rfl, regs.bl_refl _, rfl, hJ.out⟩
        · refine regs.StepOK.yes 17 false 148 rfl rfl (fun L a w1 hh => hh.dep 17 148 (by kernel_rfl) (by kernel_rfl)) fun L a w1 hh => ?_
          have h6 : a.tmps[6]?.getD undef = .pointer (some ⟨wn.heap.size, 0, none⟩) := by rw [← Array.getD_eq_getD_getElem?]; exact hh.old 6 rfl
          have c0 := (RSC.out.x.below hh.rel).1
          have c1 := (RSC.out.x.below hh.rel).2.1
          have hJ := Lib.hid hh.st
          clear hh
          go_simp
          exact ⟨_, rfl, regs.bl_refl _, rfl, hJ.out⟩
        · refine regs.StepOK.yes 17 false 148 rfl rfl (fun L a w1 hh => hh.dep 17 148 (by kernel_rfl) (by kernel_rfl)) fun L a w1 hh => ?_
          have h151 : a.tmps[151]?.getD undef = .agg #[.string (strOf s2.l), .int .i64 (s2.e : Nat)] := by rw [← Array.getD_eq_getD_getElem?]; exact hh.dep 20 151 (by kernel_rfl) (by kernel_rfl)
          have hJ := Lib.hid hh.st
          have hcall := rin_end_any (strOf s2.l) s2.e w1
          rw [natsOf_strOf RSC.out.i.are] at hcall
          clear hh
          go_simp
          refine hcall.mono ?_
          rintro e w9 ⟨rfl, hb9⟩
          exact ⟨_, rfl, hb9, rfl, hJ.out⟩
        · refine regs.StepOK.yes 17 false 148 rfl rfl (fun L a w1 hh => hh.dep 17 148 (by kernel_rfl) (by kernel_rfl)) fun L a w1 hh => ?_
          have h150 : a.tmps[150]?.getD undef = .int .i64 (s2.fin : Nat) := by rw [← Array.getD_eq_getD_getElem?]; exact hh.dep 19 150 (by kernel_rfl) (by kernel_rfl)
          have h152 : a.tmps[152]?.getD undef = .int .i64 (s2.fin : Nat) := by rw [← Array.getD_eq_getD_getElem?]; exact hh.dep 21 152 (by kernel_rfl) (by kernel_rfl)
          have hJ := Lib.hid hh.st
          clear hh
          go_simp
          exact ⟨_, rfl, regs.bl_refl _, rfl, hJ.out⟩
        · refine regs.StepOK.plain rfl fun L a w1 hh => ?_
          have h148 : a.tmps[148]?.getD undef = .bool false := by rw [← Array.getD_eq_getD_getElem?]; exact hh.dep 17 148 (by kernel_rfl) (by kernel_rfl)
          have h153 : a.tmps[153]?.getD undef = .bool false := by rw [← Array.getD_eq_getD_getElem?]; exact hh.dep 22 153 (by kernel_rfl) (by kernel_rfl)
          have hJ := Lib.hid hh.st
          clear hh
          go_simp
          exact ⟨_, rfl, regs.bl_refl _, rfl, hJ.out⟩
        intro Lf w5 val _ _ hb5 hf
        have v154 : val 154 = .bool false := hf 23 154 (by kernel_rfl)
        have RS5 := Lib.hid (RSC.out.on hb5)
        clear hf RSC hb5
        simp only [regs.putAll, List.map_cons, List.map_nil]
        rw [v154]
        go_simp
        go_wp2_with (fail)
        go_roundw
        case rel => exact ⟨k + 1, s2, by omega, by go_num, RS5.out⟩
        case measure => simp [intOf]; omega
    · go_wp2_with (fail)
      refine (awake_any wr).mono ?_
      rintro e w5 ⟨rfl, hb⟩
      have B5 := Lib.hid (rs.out.below.trans (hb.mono rs.out.below.size))
      clear hb
      go_wp2_with (fail)
      go_ret
      exact ⟨rfl, B5.out⟩

theorem coderReads.walk (q : Part) (A : Option Addr) (l : List (Int × Int)) (c : Nat) (w : World) (hq : q.ok w) (hl : AskRow w A l) (hu : ∀ x ∈ l, I64 x.1 ∧ I64 x.2) :
    Calls Try.prog 4 #[.slice q.a q.l.length q.c, .slice A l.length c] w fun e w' => e = .returned (.bool true) ∧ Below w.heap.size w w' := by
  by_cases h : q.l.length ≤ 500 ∧ l.length ≤ 60
  · exact reads_walk q A l c w hq hl hu h.1 h.2
  · exact reads_long q A l c w (by omega)
end Go.Proofs.Ytbopijlacdkpeaa
