/-
  What the document's disk does, whatever its capacity is (written by gen/rfi.py).
-/
import Derived.Test.YtpnhgongjfknbaaRfE
namespace Go.Proofs.Ytpnhgongjfknbaa.rfi
open Go.RowKit omap

def vC (C : Int) (x : Rf) : Value := .agg #[.slice x.A x.d.fs.length x.c, .int .i64 C, .int .i64 (x.d.p.left : Nat), .int .i64 (x.d.p.steps : Nat), .bool x.d.p.down]
variable {C : Int}

set_option maxRecDepth 100000 in
set_option maxHeartbeats 4000000 in
theorem rAt_ex (C : Int) (x : Rf) (s : ByteArray) (w : World) (hx : x.ok w) : Calls Try.prog 14 #[(vC C x), .string s] w fun e w' => e = .returned (.int .i64 (placeI s.data.toList x.d.fs)) ∧ w' = w.alloc (.cells #[.slice x.A x.d.fs.length x.c, .int .i64 C, .int .i64 (x.d.p.left : Nat), .int .i64 (x.d.p.steps : Nat), .bool x.d.p.down] 32) := by
  obtain ⟨A, c, d⟩ := x
  obtain ⟨hr, -, hfew⟩ := hx
  obtain ⟨⟨steps, left, down⟩, cap, fs⟩ := d
  simp only at hr hfew
  have HROW := Lib.hid hr
  unfold vC
  simp only
  clear hr
  go_enter Try.func14, Try.ntmps14
  go_wp2_with (fail)
  go_loopw [5] (fun i wr => ∃ k : Nat, k ≤ fs.length ∧ i = .int .i64 k ∧ wr = w.alloc (.cells #[.slice A fs.length c, .int .i64 C, .int .i64 (left : Nat), .int .i64 (steps : Nat), .bool down] 32) ∧ Hid (∀ j (hj : j < fs.length), j < k → fs[j].1 ≠ s.data.toList)) (fun i _ => fs.length - (intOf i).toNat)
  case atStart => exact ⟨0, Nat.zero_le _, rfl, rfl, fun j _ h => absurd h (Nat.not_lt_zero j)⟩
  case round =>
    obtain ⟨k, hk, rfl, rfl, hall⟩ := hrel
    have HB : Hid (Below w.heap.size w (w.alloc (.cells #[.slice A fs.length c, .int .i64 C, .int .i64 (left : Nat), .int .i64 (steps : Nat), .bool down] 32))) := (Below.refl _ _).alloc (Nat.le_refl _) _
    by_cases hlt : k < fs.length
    · obtain ⟨rb, off, ra, hcell⟩ := (HROW.out.below HB.out) (by omega)
      subst ra
      obtain ⟨q0, q1, q2⟩ := hcell k hlt
      by_cases he : fs[k].1 = s.data.toList
      · have HE : Hid (placeI s.data.toList fs = (k : Int)) := placeI_some hlt hall.out he
        have ht : (fs[k].1 == s.toList) = true := by rw [ByteArray.toList_eq]; simpa using he
        clear hcell he
        go_wp2_with (fail)
        go_ret
        rw [HE.out]
        exact ⟨rfl, rfl⟩
      · have HA : Hid (∀ j (hj : j < fs.length), j < k + 1 → fs[j].1 ≠ s.data.toList) := fun j hj hjk => by
          rcases Nat.lt_or_eq_of_le (Nat.le_of_lt_succ hjk) with h | rfl
          · exact hall.out j hj h
          · exact he
        have ht : (fs[k].1 == s.toList) = false := by rw [ByteArray.toList_eq]; simpa using he
        clear hcell he
        go_wp2_with (fail)
        go_roundw
        case rel => exact ⟨k + 1, by omega, by go_num, trivial, HA.out⟩
        case measure => simp [intOf]; omega
    · have hk' : k = fs.length := by omega
      subst hk'
      have HE : Hid (placeI s.data.toList fs = -1) := placeI_none fun j hj => hall.out j hj hj
      clear hlt hk
      go_wp2_with (fail)
      go_ret
      rw [HE.out]
      exact ⟨rfl, rfl⟩

theorem rAt_any (C : Int) (x : Rf) (s : ByteArray) (w : World) (hx : x.ok w) : Calls Try.prog 14 #[(vC C x), .string s] w fun e w' => e = .returned (.int .i64 (placeI s.data.toList x.d.fs)) ∧ Below w.heap.size w w' :=
  (rAt_ex C x s w hx).mono fun _ _ ⟨h1, h2⟩ => ⟨h1, h2 ▸ (Below.refl _ _).alloc (Nat.le_refl _) _⟩


structure WoAt (C : Int) (w wr : World) (x : Rf) (v : Value) (fs : Fs) : Prop where
  self : Blk wr w.heap.size [.slice x.A x.d.fs.length x.c, .int .i64 C, .int .i64 (x.d.p.left : Nat), .int .i64 (x.d.p.steps : Nat), .bool x.d.p.down]
  res : ∃ cs, cs.length = 5 ∧ Blk wr (w.heap.size + 1) cs
  own : FOwn wr (w.heap.size + 2) v fs
  bel : Below w.heap.size w wr
  big : w.heap.size + 2 ≤ wr.heap.size

theorem WoAt.grow {w wr wr' w1 : World} {x : Rf} {v v' : Value} {fs fs' : Fs} (h : WoAt C w wr x v fs) (hb : Below wr.heap.size wr wr') (hg : wr'.grownBy w1 v.ownBlock) (ho : FOwn w1 (w.heap.size + 2) v' fs') : WoAt C w w1 x v' fs' := by
  have hbig := h.big
  have hsz := hb.size
  have hst : ∀ g, g < w.heap.size + 2 → w1.heap[g]? = wr.heap[g]? := fun g hlt => by
    rw [hg.block g (by omega) (fun e => by have := (h.own.block e.symm).1; omega), hb.block g (by omega)]
  obtain ⟨cs, hcs, hres⟩ := h.res
  refine ⟨h.self.stays (hst _ (by omega)), ⟨cs, hcs, hres.stays (hst _ (by omega))⟩, ho, ⟨?_, ?_, ?_, ?_, ?_⟩, ?_⟩
  · exact hg.os.trans (hb.os.trans h.bel.os)
  · exact hg.tape.trans (hb.tape.trans h.bel.tape)
  · exact hg.output.trans (hb.output.trans h.bel.output)
  · exact Nat.le_trans h.bel.size (Nat.le_trans hb.size hg.size)
  · exact fun k hk => (hst k (by omega)).trans (h.bel.block k hk)
  · exact Nat.le_trans hbig (Nat.le_trans hb.size hg.size)

set_option maxRecDepth 100000 in
set_option maxHeartbeats 4000000 in
theorem rwo_any (C : Int) (x : Rf) (s : ByteArray) (w : World) (hx : x.ok w) : Calls Try.prog 36 #[(vC C x), .string s] w fun e w' => ∃ r : Rf, e = .returned (vC C r) ∧ r.ok w' ∧ r.d = { x.d with fs := omap.del s.data.toList x.d.fs } ∧ Below w.heap.size w w' ∧ (∀ a, r.A = some a → w.heap.size ≤ a.block) := by
  obtain ⟨A, c, d⟩ := x
  obtain ⟨hr, -, hfew⟩ := hx
  obtain ⟨⟨steps, left, down⟩, cap, fs⟩ := d
  simp only at hr hfew
  have HROW := Lib.hid hr
  unfold vC
  simp only
  clear hr
  go_enter Try.func36, Try.ntmps36
  go_wp2_with (fail)
  go_loopw [5, 6] (fun v i wr => ∃ k : Nat, k ≤ fs.length ∧ i = .int .i64 k ∧ Hid (WoAt C w wr ⟨A, c, ⟨⟨steps, left, down⟩, cap, fs⟩⟩ v (omap.del s.data.toList (fs.take k)))) (fun _ i _ => fs.length - (intOf i).toNat)
  case atStart =>
    refine ⟨0, Nat.zero_le _, rfl, ?_⟩
    show WoAt C _ _ _ _ _
    refine ⟨(blk_new w _ _).stays (heap_alloc_old _ _ (by simp)), ⟨[.slice none 0 0, .int .i64 0, .int .i64 0, .int .i64 0, .bool false], rfl, ?_⟩, FOwn.nil _ _, ((Below.refl _ _).alloc (Nat.le_refl _) _).alloc (by simp) _, by simp⟩
    have := blk_new (w.alloc (.cells #[.slice A fs.length c, .int .i64 C, .int .i64 (left : Nat), .int .i64 (steps : Nat), .bool down] 32)) [.slice none 0 0, .int .i64 0, .int .i64 0, .int .i64 0, .bool false] 32
    simpa using this
  case round =>
    obtain ⟨k, hk, rfl, hW⟩ := hrel
    have c0 : wr.cell? ⟨w.heap.size, 0, none⟩ = some (.slice A fs.length c) := hW.out.self.cell 0
    by_cases hlt : k < fs.length
    · obtain ⟨rb, off, ra, hcell⟩ := (HROW.out.below hW.out.bel) (by omega)
      subst ra
      obtain ⟨q0, q1, q2⟩ := hcell k hlt
      have hdt := del_take_succ hlt s.data.toList
      have hrbl : rb < wr.heap.size := World.block_lt_of_cell? wr _ q0
      by_cases he : fs[k].1 = s.data.toList
      · rw [if_pos he] at hdt
        have HW : Hid (WoAt C w wr ⟨some ⟨rb, off, none⟩, c, ⟨⟨steps, left, down⟩, cap, fs⟩⟩ u5 (omap.del s.data.toList (fs.take (k + 1)))) := by rw [hdt]; exact hW
        have ht : (fs[k].1 == s.toList) = true := by rw [ByteArray.toList_eq]; simpa using he
        clear hcell he hdt
        go_wp2_with (fail)
        go_roundw
        case rel => exact ⟨k + 1, by omega, by go_num, HW.out⟩
        case measure => simp [intOf]; omega
      · rw [if_neg he] at hdt
        have ht : (fs[k].1 == s.toList) = false := by rw [ByteArray.toList_eq]; simpa using he
        have hdl : (omap.del s.data.toList (fs.take k)).length ≤ 1000000 := Nat.le_trans (List.length_filter_le _ _) (by rw [List.length_take]; omega)
        obtain ⟨v', w1, run, own, hg, -⟩ := app_file (wr.alloc (.cells #[.string ⟨fs[k].1.toArray⟩, .string (strOf fs[k].2.l), .int .i64 (fs[k].2.s : Nat)] 48)) (w.heap.size + 2) u5 _ (hW.out.own.below ((Below.refl _ _).alloc (Nat.le_refl _) _)) wr.heap.size 1 fs[k] (cell_of_row _ _ 0 _ _ _ (heap_alloc_new wr _)) (cell_of_row _ _ 1 _ _ _ (heap_alloc_new wr _)) (cell_of_row _ _ 2 _ _ _ (heap_alloc_new wr _)) (by omega) (by have := hW.out.big; simp; omega)
        have HW := Lib.hid (hW.out.grow ((Below.refl _ _).alloc (Nat.le_refl _) _) hg (hdt ▸ own))
        clear hcell he hdt own hg hdl
        go_wp2_with (at_builtin; refine wpList_append_run rfl _ _ 30 30 30 rfl rfl _ _ _ _ rfl rfl run ?_)
        go_roundw
        case rel => exact ⟨k + 1, by omega, by go_num, HW.out⟩
        case measure => simp [intOf]; omega
    · have hk' : k = fs.length := by omega
      subst hk'
      rw [List.take_length] at hW
      obtain ⟨A', c', rfl, hc', -⟩ := hW.out.own.row
      have c1 : wr.cell? ⟨w.heap.size, 1, none⟩ = some (.int .i64 C) := hW.out.self.cell 1
      have c2 : wr.cell? ⟨w.heap.size, 2, none⟩ = some (.int .i64 (left : Nat)) := hW.out.self.cell 2
      have c3 : wr.cell? ⟨w.heap.size, 3, none⟩ = some (.int .i64 (steps : Nat)) := hW.out.self.cell 3
      have c4 : wr.cell? ⟨w.heap.size, 4, none⟩ = some (.bool down) := hW.out.self.cell 4
      have f0 : wr.frozen? ⟨w.heap.size, 0, none⟩ = false := hW.out.self.free 0
      obtain ⟨cs, hcs, hres⟩ := hW.out.res
      match cs, hcs with
      | [a0, a1, a2, a3, a4], _ =>
      have r0 : wr.cell? ⟨w.heap.size + 1, 0, none⟩ = some a0 := hres.cell 0
      have r1 : wr.cell? ⟨w.heap.size + 1, 1, none⟩ = some a1 := hres.cell 1
      have r2 : wr.cell? ⟨w.heap.size + 1, 2, none⟩ = some a2 := hres.cell 2
      have r3 : wr.cell? ⟨w.heap.size + 1, 3, none⟩ = some a3 := hres.cell 3
      have r4 : wr.cell? ⟨w.heap.size + 1, 4, none⟩ = some a4 := hres.cell 4
      have g0 : wr.frozen? ⟨w.heap.size + 1, 0, none⟩ = false := hres.free 0
      have g1 : wr.frozen? ⟨w.heap.size + 1, 1, none⟩ = false := hres.free 1
      have g2 : wr.frozen? ⟨w.heap.size + 1, 2, none⟩ = false := hres.free 2
      have g3 : wr.frozen? ⟨w.heap.size + 1, 3, none⟩ = false := hres.free 3
      have g4 : wr.frozen? ⟨w.heap.size + 1, 4, none⟩ = false := hres.free 4
      have HC := Lib.hid hc'
      have hbig := hW.out.big
      have HT : Hid (Turn [w.heap.size, w.heap.size + 1] [w.heap.size, w.heap.size + 1] wr ((((((wr.setCell ⟨w.heap.size, 0, none⟩ (.slice A' (omap.del s.data.toList fs).length c')).setCell ⟨w.heap.size + 1, 0, none⟩ (.slice A' (omap.del s.data.toList fs).length c')).setCell ⟨w.heap.size + 1, 1, none⟩ (.int .i64 C)).setCell ⟨w.heap.size + 1, 2, none⟩ (.int .i64 (left : Nat))).setCell ⟨w.heap.size + 1, 3, none⟩ (.int .i64 (steps : Nat))).setCell ⟨w.heap.size + 1, 4, none⟩ (.bool down))) :=
        (((((Turn.set (by simp) _).trans (Turn.set (by simp) _)).trans (Turn.set (by simp) _)).trans (Turn.set (by simp) _)).trans (Turn.set (by simp) _)).trans (Turn.set (by simp) _)
      have HF : Hid (Blk ((((((wr.setCell ⟨w.heap.size, 0, none⟩ (.slice A' (omap.del s.data.toList fs).length c')).setCell ⟨w.heap.size + 1, 0, none⟩ (.slice A' (omap.del s.data.toList fs).length c')).setCell ⟨w.heap.size + 1, 1, none⟩ (.int .i64 C)).setCell ⟨w.heap.size + 1, 2, none⟩ (.int .i64 (left : Nat))).setCell ⟨w.heap.size + 1, 3, none⟩ (.int .i64 (steps : Nat))).setCell ⟨w.heap.size + 1, 4, none⟩ (.bool down)) (w.heap.size + 1) [.slice A' (omap.del s.data.toList fs).length c', .int .i64 C, .int .i64 (left : Nat), .int .i64 (steps : Nat), .bool down]) :=
        (((((hres.stays (heap_setCell_other _ _ _ _ (by simp))).set 0 _).set 1 _).set 2 _).set 3 _).set 4 _
      clear hlt hk hc' hres
      go_wp2_with (fail)
      obtain ⟨T, hT⟩ := HF.out
      refine bodyPost_ret_by (results_cell_row rfl _ _ (w.heap.size + 1) T _ _ _ rfl hT Try.underlying32 rfl (by kernel_rfl)) rfl ?_
      have hown := hW.out.own.stays fun g hg => (HT.out.far g (hW.out.own.block hg).2 (by have := (hW.out.own.block hg).1; simp; omega)).2
      refine ⟨⟨A', c', ⟨⟨steps, left, down⟩, cap, omap.del s.data.toList fs⟩⟩, rfl, ⟨hown.row_of, HC.out, Nat.le_trans (List.length_filter_le _ _) hfew⟩, rfl, hW.out.bel.trans (HT.out.to_below (by omega) (by intro g hg; simp at hg; omega)), fun a ha => by
        subst ha
        have := (hown.block (g := a.block) rfl).1
        omega⟩

structure WiAt (C : Int) (w wr : World) (x : Rf) (k : Nm) (f : Fl) (v : Value) (p : Bool) (i : Nat) (acc : Fs) : Prop where
  self : Blk wr w.heap.size [.slice x.A x.d.fs.length x.c, .int .i64 C, .int .i64 (x.d.p.left : Nat), .int .i64 (x.d.p.steps : Nat), .bool x.d.p.down]
  file : Blk wr (w.heap.size + 1) [.string ⟨k.toArray⟩, .string (strOf f.l), .int .i64 (f.s : Nat)]
  res : ∃ cs, cs.length = 5 ∧ Blk wr (w.heap.size + 2) cs
  row : RfRow wr x.A x.d.fs
  own : FOwn wr (w.heap.size + 3) v acc
  bel : Below w.heap.size w wr
  big : w.heap.size + 3 ≤ wr.heap.size
  sum : acc ++ (if p then x.d.fs.drop i else omap.ins lt k f (x.d.fs.drop i)) = omap.ins lt k f x.d.fs
  apart : 0 < x.d.fs.length → ∀ a, x.A = some a → v.ownBlock ≠ some a.block
theorem WiAt.grow {w wr wr' w1 : World} {x : Rf} {k : Nm} {f : Fl} {v v' : Value} {p p' : Bool} {i i' : Nat} {acc acc' : Fs} (h : WiAt C w wr x k f v p i acc) (hb : Below wr.heap.size wr wr') (hg : wr'.grownBy w1 v.ownBlock) (hat : v'.ownBlock = v.ownBlock ∨ v'.ownBlock = some wr'.heap.size) (ho : FOwn w1 (w.heap.size + 3) v' acc')
    (hs : acc' ++ (if p' then x.d.fs.drop i' else omap.ins lt k f (x.d.fs.drop i')) = omap.ins lt k f x.d.fs) : WiAt C w w1 x k f v' p' i' acc' := by
  have hbig := h.big
  have hsz := hb.size
  have hst : ∀ g, g < w.heap.size + 3 → w1.heap[g]? = wr.heap[g]? := fun g hlt => by
    rw [hg.block g (by omega) (fun e => by have := (h.own.block e.symm).1; omega), hb.block g (by omega)]
  obtain ⟨cs, hcs, hres⟩ := h.res
  refine ⟨h.self.stays (hst _ (by omega)), h.file.stays (hst _ (by omega)), ⟨cs, hcs, hres.stays (hst _ (by omega))⟩, h.row.stays fun hn a ha => ?_, ho, ⟨?_, ?_, ?_, ?_, ?_⟩, ?_, hs, fun hn a ha => ?_⟩
  · have hlt := h.row.inside hn ha
    rw [hg.block _ (by omega) (fun e => h.apart hn a ha e.symm), hb.block _ hlt]
  · exact hg.os.trans (hb.os.trans h.bel.os)
  · exact hg.tape.trans (hb.tape.trans h.bel.tape)
  · exact hg.output.trans (hb.output.trans h.bel.output)
  · exact Nat.le_trans h.bel.size (Nat.le_trans hb.size hg.size)
  · exact fun k hk => (hst k (by omega)).trans (h.bel.block k hk)
  · exact Nat.le_trans hbig (Nat.le_trans hb.size hg.size)
  · have hlt := h.row.inside hn ha
    rcases hat with e | e
    · rw [e]; exact h.apart hn a ha
    · rw [e]; intro e2; have := Option.some.inj e2; omega

theorem WiAt.drewN {w wr : World} {x : Rf} {k : Nm} {f : Fl} {v : Value} {p : Bool} {i : Nat} {acc : Fs} (h : WiAt C w wr x k f v p i acc) (n : Nat) : WiAt C w (wr.drewN n) x k f v p i acc := by
  obtain ⟨cs, hcs, hres⟩ := h.res
  exact ⟨h.self.stays rfl, h.file.stays rfl, ⟨cs, hcs, hres.stays rfl⟩, h.row.stays fun _ _ _ => rfl, h.own.stays fun _ _ => rfl, ⟨h.bel.os, h.bel.tape, h.bel.output, h.bel.size, h.bel.block⟩, h.big, h.sum, h.apart⟩
theorem WiAt.len {w wr : World} {x : Rf} {k : Nm} {f : Fl} {v : Value} {p : Bool} {i : Nat} {acc : Fs} (h : WiAt C w wr x k f v p i acc) : acc.length ≤ x.d.fs.length + 1 := by
  have := congrArg List.length h.sum
  rw [List.length_append, omap.length_ins] at this
  omega
/-- one file more behind it -/
theorem WiAt.app {w wr : World} {x : Rf} {k : Nm} {f : Fl} {v : Value} {p : Bool} {i : Nat} {acc : Fs} (h : WiAt C w wr x k f v p i acc) (hf : x.d.fs.length ≤ 1000000) (y : Nm × Fl) (p' : Bool) (i' : Nat)
    (hs : acc ++ [y] ++ (if p' then x.d.fs.drop i' else omap.ins lt k f (x.d.fs.drop i')) = omap.ins lt k f x.d.fs) :
    ∃ v' w1, (Builtin.append_ #[30, 30] 30 #[v, .slice (some ⟨wr.heap.size, 0, none⟩) 1 1]).run Try.prog (wr.alloc (.cells #[.string ⟨y.1.toArray⟩, .string (strOf y.2.l), .int .i64 (y.2.s : Nat)] 48)) = .ok v' w1 ∧ WiAt C w w1 x k f v' p' i' (acc ++ [y]) := by
  have hl := h.len
  obtain ⟨v', w1, run, own, hg, hat⟩ := app_file (wr.alloc (.cells #[.string ⟨y.1.toArray⟩, .string (strOf y.2.l), .int .i64 (y.2.s : Nat)] 48)) (w.heap.size + 3) v _ (h.own.below ((Below.refl _ _).alloc (Nat.le_refl _) _)) wr.heap.size 1 y (cell_of_row _ _ 0 _ _ _ (heap_alloc_new wr _)) (cell_of_row _ _ 1 _ _ _ (heap_alloc_new wr _)) (cell_of_row _ _ 2 _ _ _ (heap_alloc_new wr _)) (by omega) (by have := h.big; simp; omega)
  exact ⟨v', w1, run, h.grow ((Below.refl _ _).alloc (Nat.le_refl _) _) hg hat own hs⟩
/-- what is told at the end -/
theorem WiAt.told {w wr : World} {x : Rf} {k : Nm} {f : Fl} {v : Value} {acc : Fs} (h : WiAt C w wr x k f v true x.d.fs.length acc) :
    acc = omap.ins lt k f x.d.fs ∧ ∃ A c, v = .slice A (omap.ins lt k f x.d.fs).length c ∧ (omap.ins lt k f x.d.fs).length ≤ c ∧ Blk ((((((wr.setCell ⟨w.heap.size, 0, none⟩ v).setCell ⟨w.heap.size + 1 + 1, 0, none⟩ v).setCell ⟨w.heap.size + 1 + 1, 1, none⟩ (.int .i64 C)).setCell ⟨w.heap.size + 1 + 1, 2, none⟩ (.int .i64 (x.d.p.left : Nat))).setCell ⟨w.heap.size + 1 + 1, 3, none⟩ (.int .i64 (x.d.p.steps : Nat))).setCell ⟨w.heap.size + 1 + 1, 4, none⟩ (.bool x.d.p.down)) (w.heap.size + 1 + 1) [v, .int .i64 C, .int .i64 (x.d.p.left : Nat), .int .i64 (x.d.p.steps : Nat), .bool x.d.p.down] ∧
      RfRow ((((((wr.setCell ⟨w.heap.size, 0, none⟩ v).setCell ⟨w.heap.size + 1 + 1, 0, none⟩ v).setCell ⟨w.heap.size + 1 + 1, 1, none⟩ (.int .i64 C)).setCell ⟨w.heap.size + 1 + 1, 2, none⟩ (.int .i64 (x.d.p.left : Nat))).setCell ⟨w.heap.size + 1 + 1, 3, none⟩ (.int .i64 (x.d.p.steps : Nat))).setCell ⟨w.heap.size + 1 + 1, 4, none⟩ (.bool x.d.p.down)) A (omap.ins lt k f x.d.fs) ∧ Below w.heap.size w ((((((wr.setCell ⟨w.heap.size, 0, none⟩ v).setCell ⟨w.heap.size + 1 + 1, 0, none⟩ v).setCell ⟨w.heap.size + 1 + 1, 1, none⟩ (.int .i64 C)).setCell ⟨w.heap.size + 1 + 1, 2, none⟩ (.int .i64 (x.d.p.left : Nat))).setCell ⟨w.heap.size + 1 + 1, 3, none⟩ (.int .i64 (x.d.p.steps : Nat))).setCell ⟨w.heap.size + 1 + 1, 4, none⟩ (.bool x.d.p.down)) ∧ (∀ a, A = some a → w.heap.size ≤ a.block) := by
  have he : acc = omap.ins lt k f x.d.fs := by
    have := h.sum
    simpa using this
  subst he
  obtain ⟨A, c, rfl, hc, -⟩ := h.own.row
  obtain ⟨cs, hcs, hres0⟩ := h.res
  have hres : Blk wr (w.heap.size + 1 + 1) cs := hres0
  have hbig := h.big
  have HT : Turn [w.heap.size, w.heap.size + 1 + 1] [w.heap.size, w.heap.size + 1 + 1] wr ((((((wr.setCell ⟨w.heap.size, 0, none⟩ (.slice A (omap.ins lt k f x.d.fs).length c)).setCell ⟨w.heap.size + 1 + 1, 0, none⟩ (.slice A (omap.ins lt k f x.d.fs).length c)).setCell ⟨w.heap.size + 1 + 1, 1, none⟩ (.int .i64 C)).setCell ⟨w.heap.size + 1 + 1, 2, none⟩ (.int .i64 (x.d.p.left : Nat))).setCell ⟨w.heap.size + 1 + 1, 3, none⟩ (.int .i64 (x.d.p.steps : Nat))).setCell ⟨w.heap.size + 1 + 1, 4, none⟩ (.bool x.d.p.down)) := (((((Turn.set (by simp) _).trans (Turn.set (by simp) _)).trans (Turn.set (by simp) _)).trans (Turn.set (by simp) _)).trans (Turn.set (by simp) _)).trans (Turn.set (by simp) _)
  have hown := h.own.stays fun g hg => (HT.far g (h.own.block hg).2 (by have := (h.own.block hg).1; simp; omega)).2
  match cs, hcs with
  | [a0, a1, a2, a3, a4], _ =>
  exact ⟨rfl, A, c, rfl, hc, (((((hres.stays (heap_setCell_other _ _ _ _ (by simp; omega))).set 0 _).set 1 _).set 2 _).set 3 _).set 4 _, hown.row_of, h.bel.trans (HT.to_below (by omega) (by intro g hg; simp at hg; omega)), fun a ha => by
    subst ha
    have := (hown.block (g := a.block) rfl).1
    omega⟩
set_option maxRecDepth 100000 in
set_option maxHeartbeats 2000000 in
theorem rwith_any (C : Int) (x : Rf) (k : Nm) (f : Fl) (w : World) (hx : x.ok w) (hfew : x.d.fs.length < 1000000) : Calls Try.prog 15 #[(vC C x), .agg #[.string ⟨k.toArray⟩, .string (strOf f.l), .int .i64 (f.s : Nat)]] w fun e w' => ∃ r : Rf, e = .returned (vC C r) ∧ r.ok w' ∧ r.d = { x.d with fs := omap.put lt k f x.d.fs } ∧ Below w.heap.size w w' ∧ (∀ a, r.A = some a → w.heap.size ≤ a.block) := by
  have hC := fun (wx : World) (h : x.ok wx) => rwo_any C x ⟨k.toArray⟩ wx h
  obtain ⟨A, c, d⟩ := x
  obtain ⟨⟨steps, left, down⟩, cap, fs⟩ := d
  simp only at hfew
  have HX := Lib.hid hx
  have HC := Lib.hid hC
  unfold vC
  simp only
  clear hx hC
  go_enter Try.func15, Try.ntmps15
  go_wp2_with (fail)
  refine (HC.out _ (HX.out.below ((((Below.refl _ _).alloc (Nat.le_refl _) _).alloc (by simp) _).alloc (by simp; omega) _))).mono ?_
  rintro e w1 ⟨⟨A2, c2, d2⟩, rfl, hok, hd2, hbel, hnew⟩
  simp only at hd2
  subst hd2
  have hsz : w.heap.size + 3 ≤ w1.heap.size := by have := hbel.size; simpa using this
  have hb0 : Blk w1 w.heap.size [.slice A fs.length c, .int .i64 C, .int .i64 (left : Nat), .int .i64 (steps : Nat), .bool down] :=
    (((blk_new w _ _).stays (heap_alloc_old _ _ (by simp))).stays (heap_alloc_old _ _ (by simp; omega))).stays (hbel.block _ (by simp; omega))
  have cc0 : w1.cell? ⟨w.heap.size, 0, none⟩ = some (.slice A fs.length c) := hb0.cell 0
  have cc1 : w1.cell? ⟨w.heap.size, 1, none⟩ = some (.int .i64 C) := hb0.cell 1
  have cc2 : w1.cell? ⟨w.heap.size, 2, none⟩ = some (.int .i64 (left : Nat)) := hb0.cell 2
  have cc3 : w1.cell? ⟨w.heap.size, 3, none⟩ = some (.int .i64 (steps : Nat)) := hb0.cell 3
  have cc4 : w1.cell? ⟨w.heap.size, 4, none⟩ = some (.bool down) := hb0.cell 4
  have f0 : w1.frozen? ⟨w.heap.size, 0, none⟩ = false := hb0.free 0
  have f1 : w1.frozen? ⟨w.heap.size, 1, none⟩ = false := hb0.free 1
  have f2 : w1.frozen? ⟨w.heap.size, 2, none⟩ = false := hb0.free 2
  have f3 : w1.frozen? ⟨w.heap.size, 3, none⟩ = false := hb0.free 3
  have f4 : w1.frozen? ⟨w.heap.size, 4, none⟩ = false := hb0.free 4
  have HB0 := Lib.hid hb0
  have HOK := Lib.hid hok
  have HBEL := Lib.hid hbel
  have HNEW := Lib.hid hnew
  clear hb0 hok hbel hnew
  generalize hfs2 : omap.del k fs = fs2 at *
  unfold vC
  simp only
  go_wp2_with (fail)
  go_loopw [5, 6, 7] (fun v p i wr => ∃ (n : Nat) (pb : Bool) (acc : Fs), n ≤ fs2.length ∧ p = .bool pb ∧ i = .int .i64 n ∧ Hid (WiAt C w wr ⟨A2, c2, ⟨⟨steps, left, down⟩, cap, fs2⟩⟩ k f v pb n acc)) (fun _ _ i _ => fs2.length - (intOf i).toNat)
  case atStart =>
    refine ⟨0, false, [], Nat.zero_le _, rfl, rfl, ?_⟩
    show WiAt C _ _ _ _ _ _ _ _ _
    have HT : Turn [w.heap.size] [w.heap.size] w1 (((((w1.setCell ⟨w.heap.size, 0, none⟩ (.slice A2 fs2.length c2)).setCell ⟨w.heap.size, 1, none⟩ (.int .i64 C)).setCell ⟨w.heap.size, 2, none⟩ (.int .i64 (left : Nat))).setCell ⟨w.heap.size, 3, none⟩ (.int .i64 (steps : Nat))).setCell ⟨w.heap.size, 4, none⟩ (.bool down)) := ((((Turn.set (by simp) _).trans (Turn.set (by simp) _)).trans (Turn.set (by simp) _)).trans (Turn.set (by simp) _)).trans (Turn.set (by simp) _)
    have hbs := HBEL.out
    refine ⟨((((HB0.out.set 0 _).set 1 _).set 2 _).set 3 _).set 4 _, ?_, ⟨[.slice none 0 0, .int .i64 0, .int .i64 0, .int .i64 0, .bool false], rfl, ?_⟩, HOK.out.row.stays fun hn a ha => ?_, FOwn.nil _ _, ?_, ?_, by simp, fun _ _ _ => by simp [Value.ownBlock]⟩
    · have := blk_new (w.alloc (.cells #[.slice A fs.length c, .int .i64 C, .int .i64 (left : Nat), .int .i64 (steps : Nat), .bool down] 32)) [.string ⟨k.toArray⟩, .string (strOf f.l), .int .i64 (f.s : Nat)] 48
      have := ((this.stays (heap_alloc_old _ _ (by simp))).stays (hbs.block _ (by simp))).stays (HT.far _ (by simp; omega) (by simp)).2
      simpa using this
    · have := blk_new ((w.alloc (.cells #[.slice A fs.length c, .int .i64 C, .int .i64 (left : Nat), .int .i64 (steps : Nat), .bool down] 32)).alloc (.cells #[.string ⟨k.toArray⟩, .string (strOf f.l), .int .i64 (f.s : Nat)] 48)) [.slice none 0 0, .int .i64 0, .int .i64 0, .int .i64 0, .bool false] 32
      have := (this.stays (hbs.block _ (by simp))).stays (HT.far _ (by simp; omega) (by simp; omega)).2
      simpa using this
    · have hge := HNEW.out a ha
      have hin := HOK.out.row.inside hn ha
      exact (HT.far _ hin (by simp at hge ⊢; omega)).2
    · exact (((((Below.refl _ _).alloc (Nat.le_refl _) _).alloc (by simp) _).alloc (by simp; omega) _).trans (hbs.mono (by simp; omega))).trans (HT.to_below (by omega) (by simp))
    · exact Nat.le_trans hsz HT.size
  case round =>
    obtain ⟨n, pb, acc, hn, rfl, rfl, hW⟩ := hrel
    have cc0 : wr.cell? ⟨w.heap.size, 0, none⟩ = some (.slice A2 fs2.length c2) := hW.out.self.cell 0
    have n0 : wr.cell? ⟨w.heap.size + 1, 0, none⟩ = some (.string ⟨k.toArray⟩) := hW.out.file.cell 0
    by_cases hlt : n < fs2.length
    · obtain ⟨rb, off, ra, hcell⟩ := hW.out.row (Nat.lt_of_le_of_lt (Nat.zero_le _) hlt)
      simp only at ra
      subst ra
      obtain ⟨q0, q1, q2⟩ := hcell n hlt
      simp only at q0 q1 q2
      have hrbl : rb < wr.heap.size := World.block_lt_of_cell? wr _ q0
      have hlti : (n : Int) < (fs2.length : Int) := by omega
      have hnb : (n : Int) ≤ 1000000 := by have := HOK.out.few; simp only at this; omega
      have hfewz : fs2.length ≤ 1000000 := HOK.out.few
      cases pb with
      | true =>
        clear hcell q0 q1 q2
        go_wp2_with (fail)
        go_quiet (fail)
        have hsum := hW.out.sum
        simp only [if_true] at hsum
        obtain ⟨v', w2, run, HW⟩ := (hW.out.drewN nq).app hfewz fs2[n] true (n + 1) (by simp only [if_true]; rw [← hsum, List.drop_eq_getElem_cons hlt]; simp)
        have HQ := Lib.hid (hW.out.drewN nq)
        have HW2 := Lib.hid HW
        clear cc0 n0 hW hrbl HW hsum
        generalize wr.drewN nq = wq at *
        have cc0 : wq.cell? ⟨w.heap.size, 0, none⟩ = some (.slice (some ⟨rb, off, none⟩) fs2.length c2) := HQ.out.self.cell 0
        obtain ⟨rb', off', ra', hcell⟩ := HQ.out.row (Nat.lt_of_le_of_lt (Nat.zero_le _) hlt)
        cases ra'
        obtain ⟨q0, q1, q2⟩ := hcell n hlt
        simp only at q0 q1 q2
        have hrbl : rb < wq.heap.size := World.block_lt_of_cell? wq _ q0
        clear hcell
        go_wp2_with (at_builtin; refine wpList_append_run rfl _ _ 30 30 30 rfl rfl _ _ _ _ rfl rfl run ?_)
        go_roundw
        case rel => exact ⟨n + 1, true, _, by omega, rfl, by go_num, HW2.out⟩
        case measure => simp [intOf]; omega
      | false =>
        have hne : (fs2[n].1 == k) = false := by
          have hm : fs2[n] ∈ omap.del k fs := by rw [hfs2]; exact List.getElem_mem hlt
          have := (List.mem_filter.1 hm).2
          simpa using this
        have hsum := hW.out.sum
        simp only [Bool.false_eq_true, if_false] at hsum
        cases hl : lt fs2[n].1 k with
        | true =>
          have ht : Op.bytesLess fs2[n].1 k = true := (bytesLess_eq _ _).trans hl
          have hlk := ord.asymm hl
          clear hcell
          go_wp2_with (fail)
          go_quiet (fail)
          obtain ⟨v', w2, run, HW⟩ := (hW.out.drewN nq).app hfewz fs2[n] false (n + 1) (by simp only [Bool.false_eq_true, if_false]; rw [← hsum, ins_later hlt hlk]; simp)
          have HQ := Lib.hid (hW.out.drewN nq)
          have HW2 := Lib.hid HW
          clear cc0 n0 hW hrbl HW hsum q0 q1 q2
          generalize wr.drewN nq = wq at *
          have cc0 : wq.cell? ⟨w.heap.size, 0, none⟩ = some (.slice (some ⟨rb, off, none⟩) fs2.length c2) := HQ.out.self.cell 0
          obtain ⟨rb', off', ra', hcell⟩ := HQ.out.row (Nat.lt_of_le_of_lt (Nat.zero_le _) hlt)
          cases ra'
          obtain ⟨q0, q1, q2⟩ := hcell n hlt
          simp only at q0 q1 q2
          have hrbl : rb < wq.heap.size := World.block_lt_of_cell? wq _ q0
          clear hcell
          go_wp2_with (at_builtin; refine wpList_append_run rfl _ _ 30 30 30 rfl rfl _ _ _ _ rfl rfl run ?_)
          go_roundw
          case rel => exact ⟨n + 1, false, _, by omega, rfl, by go_num, HW2.out⟩
          case measure => simp [intOf]; omega
        | false =>
          have ht : Op.bytesLess fs2[n].1 k = false := (bytesLess_eq _ _).trans hl
          have hlk : lt k fs2[n].1 = true := by
            cases h : lt k fs2[n].1 with
            | true => rfl
            | false =>
              have := ord.tot _ _ hl h
              simp [this] at hne
          clear hcell
          go_wp2_with (fail)
          go_quiet (fail)
          have HQ := Lib.hid (hW.out.drewN nq)
          obtain ⟨v1, w2, run1, HW⟩ := HQ.out.app hfewz (k, f) true n (by simp only [if_true]; rw [← hsum, ins_here hlt hlk, List.drop_eq_getElem_cons hlt]; simp)
          have HW1 := Lib.hid HW
          obtain ⟨v2, w3, run2, HW3⟩ := HW.app hfewz fs2[n] true (n + 1) (by simp only [if_true]; rw [← hsum, ins_here hlt hlk]; simp)
          have HW2 := Lib.hid HW3
          clear cc0 n0 hW hrbl HW HW3 hsum q0 q1 q2
          generalize wr.drewN nq = wq at *
          have n0 : wq.cell? ⟨w.heap.size + 1, 0, none⟩ = some (.string ⟨k.toArray⟩) := HQ.out.file.cell 0
          have n1 : wq.cell? ⟨w.heap.size + 1, 1, none⟩ = some (.string (strOf f.l)) := HQ.out.file.cell 1
          have n2 : wq.cell? ⟨w.heap.size + 1, 2, none⟩ = some (.int .i64 (f.s : Nat)) := HQ.out.file.cell 2
          have hnbl : w.heap.size + 1 < wq.heap.size := World.block_lt_of_cell? wq _ n0
          have cc0 : w2.cell? ⟨w.heap.size, 0, none⟩ = some (.slice (some ⟨rb, off, none⟩) fs2.length c2) := HW1.out.self.cell 0
          obtain ⟨rb', off', ra', hcell⟩ := HW1.out.row (Nat.lt_of_le_of_lt (Nat.zero_le _) hlt)
          cases ra'
          obtain ⟨q0, q1, q2⟩ := hcell n hlt
          simp only at q0 q1 q2
          have hrbl : rb < w2.heap.size := World.block_lt_of_cell? w2 _ q0
          clear hcell
          go_wp2_with (at_builtin; first | refine wpList_append_run rfl _ _ 30 30 30 rfl rfl _ _ _ _ rfl rfl run1 ?_ | refine wpList_append_run rfl _ _ 30 30 30 rfl rfl _ _ _ _ rfl rfl run2 ?_)
          go_roundw
          case rel => exact ⟨n + 1, true, _, by omega, rfl, by go_num, HW2.out⟩
          case measure => simp [intOf]; omega
    · have hk' : n = fs2.length := by omega
      subst hk'
      cases pb with
      | true =>
        clear cc0 n0 hlt hn
        have HWE := Lib.hid hW.out
        have cc0 : wr.cell? ⟨w.heap.size, 0, none⟩ = some (.slice A2 fs2.length c2) := HWE.out.self.cell 0
        have cc1 : wr.cell? ⟨w.heap.size, 1, none⟩ = some (.int .i64 C) := HWE.out.self.cell 1
        have cc2 : wr.cell? ⟨w.heap.size, 2, none⟩ = some (.int .i64 (left : Nat)) := HWE.out.self.cell 2
        have cc3 : wr.cell? ⟨w.heap.size, 3, none⟩ = some (.int .i64 (steps : Nat)) := HWE.out.self.cell 3
        have cc4 : wr.cell? ⟨w.heap.size, 4, none⟩ = some (.bool down) := HWE.out.self.cell 4
        have f0 : wr.frozen? ⟨w.heap.size, 0, none⟩ = false := HWE.out.self.free 0
        obtain ⟨cs, hcs, hres⟩ := HWE.out.res
        match cs, hcs with
        | [a0, a1, a2, a3, a4], _ =>
        have r0 : wr.cell? ⟨w.heap.size + 1 + 1, 0, none⟩ = some a0 := hres.cell 0
        have r1 : wr.cell? ⟨w.heap.size + 1 + 1, 1, none⟩ = some a1 := hres.cell 1
        have r2 : wr.cell? ⟨w.heap.size + 1 + 1, 2, none⟩ = some a2 := hres.cell 2
        have r3 : wr.cell? ⟨w.heap.size + 1 + 1, 3, none⟩ = some a3 := hres.cell 3
        have r4 : wr.cell? ⟨w.heap.size + 1 + 1, 4, none⟩ = some a4 := hres.cell 4
        have g0 : wr.frozen? ⟨w.heap.size + 1 + 1, 0, none⟩ = false := hres.free 0
        have g1 : wr.frozen? ⟨w.heap.size + 1 + 1, 1, none⟩ = false := hres.free 1
        have g2 : wr.frozen? ⟨w.heap.size + 1 + 1, 2, none⟩ = false := hres.free 2
        have g3 : wr.frozen? ⟨w.heap.size + 1 + 1, 3, none⟩ = false := hres.free 3
        have g4 : wr.frozen? ⟨w.heap.size + 1 + 1, 4, none⟩ = false := hres.free 4
        have hbigE := HWE.out.big
        obtain ⟨hacc, A', c', hv, hc', hblk, hrow, hbl, hfr⟩ := HWE.out.told
        simp only at hv hc' hblk hrow hbl hfr
        subst hv
        have HT := Lib.hid hblk
        have HRW := Lib.hid hrow
        have HBL := Lib.hid hbl
        have HFR := Lib.hid hfr
        have HCC := Lib.hid hc'
        have hlen := Lib.hid (omap.length_ins (lt := lt) k f fs2)
        clear hacc hc' hblk hrow hbl hfr hres
        go_wp2_with (fail)
        obtain ⟨T, hT⟩ := HT.out
        refine bodyPost_ret_by (results_cell_row rfl _ _ (w.heap.size + 1 + 1) T _ _ _ (by kernel_rfl) hT Try.underlying32 rfl (by kernel_rfl)) rfl ?_
        refine ⟨⟨A', c', ⟨⟨steps, left, down⟩, cap, omap.ins lt k f fs2⟩⟩, rfl, ⟨HRW.out, HCC.out, ?_⟩, ?_, HBL.out, HFR.out⟩
        · have hl2 : fs2.length ≤ fs.length := by rw [← hfs2]; exact List.length_filter_le _ _
          have hl3 := hlen.out
          simp only
          omega
        · unfold omap.put
          rw [hfs2]
      | false =>
        have hsum := hW.out.sum
        simp only [Bool.false_eq_true, if_false] at hsum
        obtain ⟨v1, w2, run1, HW⟩ := hW.out.app (show fs2.length ≤ 1000000 from HOK.out.few) (k, f) true fs2.length (by simp only [if_true]; rw [← hsum]; simp [omap.ins])
        have HW1 := Lib.hid HW
        have n1 : wr.cell? ⟨w.heap.size + 1, 1, none⟩ = some (.string (strOf f.l)) := hW.out.file.cell 1
        have n2 : wr.cell? ⟨w.heap.size + 1, 2, none⟩ = some (.int .i64 (f.s : Nat)) := hW.out.file.cell 2
        have hnbl : w.heap.size + 1 < wr.heap.size := World.block_lt_of_cell? wr _ n0
        clear hlt hn hsum HW
        have HWE := Lib.hid HW1.out
        have dd0 : w2.cell? ⟨w.heap.size, 0, none⟩ = some (.slice A2 fs2.length c2) := HWE.out.self.cell 0
        have dd1 : w2.cell? ⟨w.heap.size, 1, none⟩ = some (.int .i64 C) := HWE.out.self.cell 1
        have dd2 : w2.cell? ⟨w.heap.size, 2, none⟩ = some (.int .i64 (left : Nat)) := HWE.out.self.cell 2
        have dd3 : w2.cell? ⟨w.heap.size, 3, none⟩ = some (.int .i64 (steps : Nat)) := HWE.out.self.cell 3
        have dd4 : w2.cell? ⟨w.heap.size, 4, none⟩ = some (.bool down) := HWE.out.self.cell 4
        have f0 : w2.frozen? ⟨w.heap.size, 0, none⟩ = false := HWE.out.self.free 0
        obtain ⟨cs, hcs, hres⟩ := HWE.out.res
        match cs, hcs with
        | [a0, a1, a2, a3, a4], _ =>
        have r0 : w2.cell? ⟨w.heap.size + 1 + 1, 0, none⟩ = some a0 := hres.cell 0
        have r1 : w2.cell? ⟨w.heap.size + 1 + 1, 1, none⟩ = some a1 := hres.cell 1
        have r2 : w2.cell? ⟨w.heap.size + 1 + 1, 2, none⟩ = some a2 := hres.cell 2
        have r3 : w2.cell? ⟨w.heap.size + 1 + 1, 3, none⟩ = some a3 := hres.cell 3
        have r4 : w2.cell? ⟨w.heap.size + 1 + 1, 4, none⟩ = some a4 := hres.cell 4
        have g0 : w2.frozen? ⟨w.heap.size + 1 + 1, 0, none⟩ = false := hres.free 0
        have g1 : w2.frozen? ⟨w.heap.size + 1 + 1, 1, none⟩ = false := hres.free 1
        have g2 : w2.frozen? ⟨w.heap.size + 1 + 1, 2, none⟩ = false := hres.free 2
        have g3 : w2.frozen? ⟨w.heap.size + 1 + 1, 3, none⟩ = false := hres.free 3
        have g4 : w2.frozen? ⟨w.heap.size + 1 + 1, 4, none⟩ = false := hres.free 4
        have hbigE := HWE.out.big
        obtain ⟨hacc, A', c', hv, hc', hblk, hrow, hbl, hfr⟩ := HWE.out.told
        simp only at hv hc' hblk hrow hbl hfr
        subst hv
        have HT := Lib.hid hblk
        have HRW := Lib.hid hrow
        have HBL := Lib.hid hbl
        have HFR := Lib.hid hfr
        have HCC := Lib.hid hc'
        have hlen := Lib.hid (omap.length_ins (lt := lt) k f fs2)
        clear hacc hc' hblk hrow hbl hfr hres
        go_wp2_with (at_builtin; refine wpList_append_run rfl _ _ 30 30 30 rfl rfl _ _ _ _ rfl rfl run1 ?_)
        obtain ⟨T, hT⟩ := HT.out
        refine bodyPost_ret_by (results_cell_row rfl _ _ (w.heap.size + 1 + 1) T _ _ _ (by kernel_rfl) hT Try.underlying32 rfl (by kernel_rfl)) rfl ?_
        refine ⟨⟨A', c', ⟨⟨steps, left, down⟩, cap, omap.ins lt k f fs2⟩⟩, rfl, ⟨HRW.out, HCC.out, ?_⟩, ?_, HBL.out, HFR.out⟩
        · have hl2 : fs2.length ≤ fs.length := by rw [← hfs2]; exact List.length_filter_le _ _
          have hl3 := hlen.out
          simp only
          omega
        · unfold omap.put
          rw [hfs2]

end Go.Proofs.Ytpnhgongjfknbaa.rfi
