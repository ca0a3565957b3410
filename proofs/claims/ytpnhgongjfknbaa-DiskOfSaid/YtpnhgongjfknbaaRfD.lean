/-
  The document's own disk: without a file.
-/
import Derived.Test.YtpnhgongjfknbaaRfC
import Derived.Laws.NewBlocks
import Derived.Laws.Rows
namespace Go.Proofs.Ytpnhgongjfknbaa
open Go.RowKit omap

theorem del_take_succ {fs : Fs} {k : Nat} (h : k < fs.length) (nm : Nm) : omap.del nm (fs.take (k + 1)) = if fs[k].1 = nm then omap.del nm (fs.take k) else omap.del nm (fs.take k) ++ [fs[k]] := by
  unfold omap.del
  rw [List.take_succ_eq_append_getElem h, List.filter_append]
  by_cases he : fs[k].1 = nm
  · simp [he]
  · simp [he]
theorem FOwn.row_of {w : World} {base : Nat} {A : Option Addr} {c : Nat} {fs : Fs} (h : FOwn w base (.slice A fs.length c) fs) : RfRow w A fs := by
  obtain ⟨A', c', e, -, hr⟩ := h.row
  cases e
  exact hr
/-- what the walk through without's round knows -/
structure WoAt (w wr : World) (x : Rf) (v : Value) (fs : Fs) : Prop where
  self : Blk wr w.heap.size [.slice x.A x.d.fs.length x.c, .int .i64 (x.d.cap : Nat), .int .i64 (x.d.p.left : Nat), .int .i64 (x.d.p.steps : Nat), .bool x.d.p.down]
  res : ∃ cs, cs.length = 5 ∧ Blk wr (w.heap.size + 1) cs
  own : FOwn wr (w.heap.size + 2) v fs
  bel : Below w.heap.size w wr
  big : w.heap.size + 2 ≤ wr.heap.size

theorem WoAt.grow {w wr wr' w1 : World} {x : Rf} {v v' : Value} {fs fs' : Fs} (h : WoAt w wr x v fs) (hb : Below wr.heap.size wr wr') (hg : wr'.grownBy w1 v.ownBlock) (ho : FOwn w1 (w.heap.size + 2) v' fs') : WoAt w w1 x v' fs' := by
  have hbig := h.big
  have hsz := hb.size
  have hst : ∀ g, g < w.heap.size + 2 → w1.heap[g]? = wr.heap[g]? := fun g hlt => by
    rw [hg.block g (by omega) (fun e => by have := (h.own.block e.symm).1; omega), hb.block g (by omega)]
  obtain ⟨cs, hcs, hres⟩ := h.res
  refine ⟨h.self.stays (hst _ (by omega)), ⟨cs, hcs, hres.stays (hst _ (by omega))⟩, ho, ⟨?_, ?_, ?_, ?_, ?_⟩, ?_⟩
  · exact hg.os.trans (hb.os.trans h.bel.os)
  · exact hg.tape.trans (hb.tape.trans h.bel.tape)
  · exact hg.output.trans (hb.output.trans h.bel.output)
  · exact Nat.le_trans h.bel.size (Nat.le_trans hb.size hg.size)
  · exact fun k hk => (hst k (by omega)).trans (h.bel.block k hk)
  · exact Nat.le_trans hbig (Nat.le_trans hb.size hg.size)

set_option maxRecDepth 100000 in
set_option maxHeartbeats 4000000 in
theorem rwo_any (x : Rf) (s : ByteArray) (w : World) (hx : x.ok w) : Calls Try.prog 36 #[x.v, .string s] w fun e w' => ∃ r : Rf, e = .returned r.v ∧ r.ok w' ∧ r.d = { x.d with fs := omap.del s.data.toList x.d.fs } ∧ Below w.heap.size w w' ∧ (∀ a, r.A = some a → w.heap.size ≤ a.block) := by
  obtain ⟨A, c, d⟩ := x
  obtain ⟨hr, -, hfew⟩ := hx
  obtain ⟨⟨steps, left, down⟩, cap, fs⟩ := d
  simp only at hr hfew
  have HROW := Lib.hid hr
  unfold Rf.v
  simp only
  clear hr
  go_enter Try.func36, Try.ntmps36
  go_wp2_with (fail)
  go_loopw [5, 6] (fun v i wr => ∃ k : Nat, k ≤ fs.length ∧ i = .int .i64 k ∧ Hid (WoAt w wr ⟨A, c, ⟨⟨steps, left, down⟩, cap, fs⟩⟩ v (omap.del s.data.toList (fs.take k)))) (fun _ i _ => fs.length - (intOf i).toNat)
  case atStart =>
    refine ⟨0, Nat.zero_le _, rfl, ?_⟩
    show WoAt _ _ _ _ _
    refine ⟨(blk_new w _ _).stays (heap_alloc_old _ _ (by simp)), ⟨[.slice none 0 0, .int .i64 0, .int .i64 0, .int .i64 0, .bool false], rfl, ?_⟩, FOwn.nil _ _, ((Below.refl _ _).alloc (Nat.le_refl _) _).alloc (by simp) _, by simp⟩
    have := blk_new (w.alloc (.cells #[.slice A fs.length c, .int .i64 (cap : Nat), .int .i64 (left : Nat), .int .i64 (steps : Nat), .bool down] 32)) [.slice none 0 0, .int .i64 0, .int .i64 0, .int .i64 0, .bool false] 32
    simpa using this
  case round =>
    obtain ⟨k, hk, rfl, hW⟩ := hrel
    have c0 : wr.cell? ⟨w.heap.size, 0, none⟩ = some (.slice A fs.length c) := hW.out.self.cell 0
    by_cases hlt : k < fs.length
    · obtain ⟨rb, off, ra, hcell⟩ := (HROW.out.below hW.out.bel) (by omega)
      subst ra
      obtain ⟨q0, q1, q2⟩ := hcell k hlt
      have hdt := del_take_succ hlt s.data.toList
      have hrbl : rb < wr.heap.size := World.block_lt_of_cell? wr _ q0
      by_cases he : fs[k].1 = s.data.toList
      · rw [if_pos he] at hdt
        have HW : Hid (WoAt w wr ⟨some ⟨rb, off, none⟩, c, ⟨⟨steps, left, down⟩, cap, fs⟩⟩ u5 (omap.del s.data.toList (fs.take (k + 1)))) := by rw [hdt]; exact hW
        have ht : (fs[k].1 == s.toList) = true := by rw [ByteArray.toList_eq]; simpa using he
        clear hcell he hdt
        go_wp2_with (fail)
        go_roundw
        case rel => exact ⟨k + 1, by omega, by go_num, HW.out⟩
        case measure => simp [intOf]; omega
      · rw [if_neg he] at hdt
        have ht : (fs[k].1 == s.toList) = false := by rw [ByteArray.toList_eq]; simpa using he
        have hdl : (omap.del s.data.toList (fs.take k)).length ≤ 1000000 := Nat.le_trans (List.length_filter_le _ _) (by rw [List.length_take]; omega)
        obtain ⟨v', w1, run, own, hg, -⟩ := app_file (wr.alloc (.cells #[.string ⟨fs[k].1.toArray⟩, .string (strOf fs[k].2.l), .int .i64 (fs[k].2.s : Nat)] 48)) (w.heap.size + 2) u5 _ (hW.out.own.below ((Below.refl _ _).alloc (Nat.le_refl _) _)) wr.heap.size 1 fs[k] (cell_of_row _ _ 0 _ _ _ (heap_alloc_new wr _)) (cell_of_row _ _ 1 _ _ _ (heap_alloc_new wr _)) (cell_of_row _ _ 2 _ _ _ (heap_alloc_new wr _)) (by omega) (by have := hW.out.big; simp; omega)
        have HW := Lib.hid (hW.out.grow ((Below.refl _ _).alloc (Nat.le_refl _) _) hg (hdt ▸ own))
        clear hcell he hdt own hg hdl
        go_wp2_with (at_builtin; refine wpList_append_run rfl _ _ 30 30 30 rfl rfl _ _ _ _ rfl rfl run ?_)
        go_roundw
        case rel => exact ⟨k + 1, by omega, by go_num, HW.out⟩
        case measure => simp [intOf]; omega
    · have hk' : k = fs.length := by omega
      subst hk'
      rw [List.take_length] at hW
      obtain ⟨A', c', rfl, hc', -⟩ := hW.out.own.row
      have c1 : wr.cell? ⟨w.heap.size, 1, none⟩ = some (.int .i64 (cap : Nat)) := hW.out.self.cell 1
      have c2 : wr.cell? ⟨w.heap.size, 2, none⟩ = some (.int .i64 (left : Nat)) := hW.out.self.cell 2
      have c3 : wr.cell? ⟨w.heap.size, 3, none⟩ = some (.int .i64 (steps : Nat)) := hW.out.self.cell 3
      have c4 : wr.cell? ⟨w.heap.size, 4, none⟩ = some (.bool down) := hW.out.self.cell 4
      have f0 : wr.frozen? ⟨w.heap.size, 0, none⟩ = false := hW.out.self.free 0
      obtain ⟨cs, hcs, hres⟩ := hW.out.res
      match cs, hcs with
      | [a0, a1, a2, a3, a4], _ =>
      have r0 : wr.cell? ⟨w.heap.size + 1, 0, none⟩ = some a0 := hres.cell 0
      have r1 : wr.cell? ⟨w.heap.size + 1, 1, none⟩ = some a1 := hres.cell 1
      have r2 : wr.cell? ⟨w.heap.size + 1, 2, none⟩ = some a2 := hres.cell 2
      have r3 : wr.cell? ⟨w.heap.size + 1, 3, none⟩ = some a3 := hres.cell 3
      have r4 : wr.cell? ⟨w.heap.size + 1, 4, none⟩ = some a4 := hres.cell 4
      have g0 : wr.frozen? ⟨w.heap.size + 1, 0, none⟩ = false := hres.free 0
      have g1 : wr.frozen? ⟨w.heap.size + 1, 1, none⟩ = false := hres.free 1
      have g2 : wr.frozen? ⟨w.heap.size + 1, 2, none⟩ = false := hres.free 2
      have g3 : wr.frozen? ⟨w.heap.size + 1, 3, none⟩ = false := hres.free 3
      have g4 : wr.frozen? ⟨w.heap.size + 1, 4, none⟩ = false := hres.free 4
      have HC := Lib.hid hc'
      have hbig := hW.out.big
      have HT : Hid (Turn [w.heap.size, w.heap.size + 1] [w.heap.size, w.heap.size + 1] wr ((((((wr.setCell ⟨w.heap.size, 0, none⟩ (.slice A' (omap.del s.data.toList fs).length c')).setCell ⟨w.heap.size + 1, 0, none⟩ (.slice A' (omap.del s.data.toList fs).length c')).setCell ⟨w.heap.size + 1, 1, none⟩ (.int .i64 (cap : Nat))).setCell ⟨w.heap.size + 1, 2, none⟩ (.int .i64 (left : Nat))).setCell ⟨w.heap.size + 1, 3, none⟩ (.int .i64 (steps : Nat))).setCell ⟨w.heap.size + 1, 4, none⟩ (.bool down))) :=
        (((((Turn.set (by simp) _).trans (Turn.set (by simp) _)).trans (Turn.set (by simp) _)).trans (Turn.set (by simp) _)).trans (Turn.set (by simp) _)).trans (Turn.set (by simp) _)
      have HF : Hid (Blk ((((((wr.setCell ⟨w.heap.size, 0, none⟩ (.slice A' (omap.del s.data.toList fs).length c')).setCell ⟨w.heap.size + 1, 0, none⟩ (.slice A' (omap.del s.data.toList fs).length c')).setCell ⟨w.heap.size + 1, 1, none⟩ (.int .i64 (cap : Nat))).setCell ⟨w.heap.size + 1, 2, none⟩ (.int .i64 (left : Nat))).setCell ⟨w.heap.size + 1, 3, none⟩ (.int .i64 (steps : Nat))).setCell ⟨w.heap.size + 1, 4, none⟩ (.bool down)) (w.heap.size + 1) [.slice A' (omap.del s.data.toList fs).length c', .int .i64 (cap : Nat), .int .i64 (left : Nat), .int .i64 (steps : Nat), .bool down]) :=
        (((((hres.stays (heap_setCell_other _ _ _ _ (by simp))).set 0 _).set 1 _).set 2 _).set 3 _).set 4 _
      clear hlt hk hc' hres
      go_wp2_with (fail)
      obtain ⟨T, hT⟩ := HF.out
      refine bodyPost_ret_by (results_cell_row rfl _ _ (w.heap.size + 1) T _ _ _ rfl hT Try.underlying32 rfl (by kernel_rfl)) rfl ?_
      have hown := hW.out.own.stays fun g hg => (HT.out.far g (hW.out.own.block hg).2 (by have := (hW.out.own.block hg).1; simp; omega)).2
      refine ⟨⟨A', c', ⟨⟨steps, left, down⟩, cap, omap.del s.data.toList fs⟩⟩, rfl, ⟨hown.row_of, HC.out, Nat.le_trans (List.length_filter_le _ _) hfew⟩, rfl, hW.out.bel.trans (HT.out.to_below (by omega) (by intro g hg; simp at hg; omega)), fun a ha => by
        subst ha
        have := (hown.block (g := a.block) rfl).1
        omega⟩
end Go.Proofs.Ytpnhgongjfknbaa
