/-
  The document's own disk: a file more, or another one of its name.
-/
import Derived.Test.YtpnhgongjfknbaaRfD
import Derived.BigQuiet
import Derived.Laws.Cover1
namespace Go.Proofs.Ytpnhgongjfknbaa
open Go.RowKit omap

/-- how a row of files stands while one is put into it -/
structure WiAt (w wr : World) (x : Rf) (k : Nm) (f : Fl) (v : Value) (p : Bool) (i : Nat) (acc : Fs) : Prop where
  self : Blk wr w.heap.size [.slice x.A x.d.fs.length x.c, .int .i64 (x.d.cap : Nat), .int .i64 (x.d.p.left : Nat), .int .i64 (x.d.p.steps : Nat), .bool x.d.p.down]
  file : Blk wr (w.heap.size + 1) [.string ⟨k.toArray⟩, .string (strOf f.l), .int .i64 (f.s : Nat)]
  res : ∃ cs, cs.length = 5 ∧ Blk wr (w.heap.size + 2) cs
  row : RfRow wr x.A x.d.fs
  own : FOwn wr (w.heap.size + 3) v acc
  bel : Below w.heap.size w wr
  big : w.heap.size + 3 ≤ wr.heap.size
  sum : acc ++ (if p then x.d.fs.drop i else omap.ins lt k f (x.d.fs.drop i)) = omap.ins lt k f x.d.fs
  apart : 0 < x.d.fs.length → ∀ a, x.A = some a → v.ownBlock ≠ some a.block
theorem RfRow.stays {w w' : World} {A : Option Addr} {fs : Fs} (h : RfRow w A fs) (hb : 0 < fs.length → ∀ a, A = some a → w'.heap[a.block]? = w.heap[a.block]?) : RfRow w' A fs := fun hn => by
  obtain ⟨b, off, e, hc⟩ := h hn
  have hs := hb hn _ e
  refine ⟨b, off, e, fun j hj => ?_⟩
  obtain ⟨h0, h1, h2⟩ := hc j hj
  exact ⟨(World.cell?_of_block (a := ⟨b, off + j * 3, none⟩) hs).trans h0, (World.cell?_of_block (a := ⟨b, off + j * 3 + 1, none⟩) hs).trans h1, (World.cell?_of_block (a := ⟨b, off + j * 3 + 2, none⟩) hs).trans h2⟩
theorem RfRow.inside {w : World} {A : Option Addr} {fs : Fs} (h : RfRow w A fs) (hn : 0 < fs.length) {a : Addr} (e : A = some a) : a.block < w.heap.size := by
  obtain ⟨b, off, e', hc⟩ := h hn
  rw [e] at e'
  cases e'
  exact World.block_lt_of_cell? w _ (hc 0 hn).1
theorem WiAt.grow {w wr wr' w1 : World} {x : Rf} {k : Nm} {f : Fl} {v v' : Value} {p p' : Bool} {i i' : Nat} {acc acc' : Fs} (h : WiAt w wr x k f v p i acc) (hb : Below wr.heap.size wr wr') (hg : wr'.grownBy w1 v.ownBlock) (hat : v'.ownBlock = v.ownBlock ∨ v'.ownBlock = some wr'.heap.size) (ho : FOwn w1 (w.heap.size + 3) v' acc')
    (hs : acc' ++ (if p' then x.d.fs.drop i' else omap.ins lt k f (x.d.fs.drop i')) = omap.ins lt k f x.d.fs) : WiAt w w1 x k f v' p' i' acc' := by
  have hbig := h.big
  have hsz := hb.size
  have hst : ∀ g, g < w.heap.size + 3 → w1.heap[g]? = wr.heap[g]? := fun g hlt => by
    rw [hg.block g (by omega) (fun e => by have := (h.own.block e.symm).1; omega), hb.block g (by omega)]
  obtain ⟨cs, hcs, hres⟩ := h.res
  refine ⟨h.self.stays (hst _ (by omega)), h.file.stays (hst _ (by omega)), ⟨cs, hcs, hres.stays (hst _ (by omega))⟩, h.row.stays fun hn a ha => ?_, ho, ⟨?_, ?_, ?_, ?_, ?_⟩, ?_, hs, fun hn a ha => ?_⟩
  · have hlt := h.row.inside hn ha
    rw [hg.block _ (by omega) (fun e => h.apart hn a ha e.symm), hb.block _ hlt]
  · exact hg.os.trans (hb.os.trans h.bel.os)
  · exact hg.tape.trans (hb.tape.trans h.bel.tape)
  · exact hg.output.trans (hb.output.trans h.bel.output)
  · exact Nat.le_trans h.bel.size (Nat.le_trans hb.size hg.size)
  · exact fun k hk => (hst k (by omega)).trans (h.bel.block k hk)
  · exact Nat.le_trans hbig (Nat.le_trans hb.size hg.size)
  · have hlt := h.row.inside hn ha
    rcases hat with e | e
    · rw [e]; exact h.apart hn a ha
    · rw [e]; intro e2; have := Option.some.inj e2; omega

theorem WiAt.drewN {w wr : World} {x : Rf} {k : Nm} {f : Fl} {v : Value} {p : Bool} {i : Nat} {acc : Fs} (h : WiAt w wr x k f v p i acc) (n : Nat) : WiAt w (wr.drewN n) x k f v p i acc := by
  obtain ⟨cs, hcs, hres⟩ := h.res
  exact ⟨h.self.stays rfl, h.file.stays rfl, ⟨cs, hcs, hres.stays rfl⟩, h.row.stays fun _ _ _ => rfl, h.own.stays fun _ _ => rfl, ⟨h.bel.os, h.bel.tape, h.bel.output, h.bel.size, h.bel.block⟩, h.big, h.sum, h.apart⟩
theorem WiAt.len {w wr : World} {x : Rf} {k : Nm} {f : Fl} {v : Value} {p : Bool} {i : Nat} {acc : Fs} (h : WiAt w wr x k f v p i acc) : acc.length ≤ x.d.fs.length + 1 := by
  have := congrArg List.length h.sum
  rw [List.length_append, omap.length_ins] at this
  omega
/-- one file more behind it -/
theorem WiAt.app {w wr : World} {x : Rf} {k : Nm} {f : Fl} {v : Value} {p : Bool} {i : Nat} {acc : Fs} (h : WiAt w wr x k f v p i acc) (hf : x.d.fs.length ≤ 1000000) (y : Nm × Fl) (p' : Bool) (i' : Nat)
    (hs : acc ++ [y] ++ (if p' then x.d.fs.drop i' else omap.ins lt k f (x.d.fs.drop i')) = omap.ins lt k f x.d.fs) :
    ∃ v' w1, (Builtin.append_ #[30, 30] 30 #[v, .slice (some ⟨wr.heap.size, 0, none⟩) 1 1]).run Try.prog (wr.alloc (.cells #[.string ⟨y.1.toArray⟩, .string (strOf y.2.l), .int .i64 (y.2.s : Nat)] 48)) = .ok v' w1 ∧ WiAt w w1 x k f v' p' i' (acc ++ [y]) := by
  have hl := h.len
  obtain ⟨v', w1, run, own, hg, hat⟩ := app_file (wr.alloc (.cells #[.string ⟨y.1.toArray⟩, .string (strOf y.2.l), .int .i64 (y.2.s : Nat)] 48)) (w.heap.size + 3) v _ (h.own.below ((Below.refl _ _).alloc (Nat.le_refl _) _)) wr.heap.size 1 y (cell_of_row _ _ 0 _ _ _ (heap_alloc_new wr _)) (cell_of_row _ _ 1 _ _ _ (heap_alloc_new wr _)) (cell_of_row _ _ 2 _ _ _ (heap_alloc_new wr _)) (by omega) (by have := h.big; simp; omega)
  exact ⟨v', w1, run, h.grow ((Below.refl _ _).alloc (Nat.le_refl _) _) hg hat own hs⟩
/-- what is told at the end -/
theorem WiAt.told {w wr : World} {x : Rf} {k : Nm} {f : Fl} {v : Value} {acc : Fs} (h : WiAt w wr x k f v true x.d.fs.length acc) :
    acc = omap.ins lt k f x.d.fs ∧ ∃ A c, v = .slice A (omap.ins lt k f x.d.fs).length c ∧ (omap.ins lt k f x.d.fs).length ≤ c ∧ Blk ((((((wr.setCell ⟨w.heap.size, 0, none⟩ v).setCell ⟨w.heap.size + 1 + 1, 0, none⟩ v).setCell ⟨w.heap.size + 1 + 1, 1, none⟩ (.int .i64 (x.d.cap : Nat))).setCell ⟨w.heap.size + 1 + 1, 2, none⟩ (.int .i64 (x.d.p.left : Nat))).setCell ⟨w.heap.size + 1 + 1, 3, none⟩ (.int .i64 (x.d.p.steps : Nat))).setCell ⟨w.heap.size + 1 + 1, 4, none⟩ (.bool x.d.p.down)) (w.heap.size + 1 + 1) [v, .int .i64 (x.d.cap : Nat), .int .i64 (x.d.p.left : Nat), .int .i64 (x.d.p.steps : Nat), .bool x.d.p.down] ∧
      RfRow ((((((wr.setCell ⟨w.heap.size, 0, none⟩ v).setCell ⟨w.heap.size + 1 + 1, 0, none⟩ v).setCell ⟨w.heap.size + 1 + 1, 1, none⟩ (.int .i64 (x.d.cap : Nat))).setCell ⟨w.heap.size + 1 + 1, 2, none⟩ (.int .i64 (x.d.p.left : Nat))).setCell ⟨w.heap.size + 1 + 1, 3, none⟩ (.int .i64 (x.d.p.steps : Nat))).setCell ⟨w.heap.size + 1 + 1, 4, none⟩ (.bool x.d.p.down)) A (omap.ins lt k f x.d.fs) ∧ Below w.heap.size w ((((((wr.setCell ⟨w.heap.size, 0, none⟩ v).setCell ⟨w.heap.size + 1 + 1, 0, none⟩ v).setCell ⟨w.heap.size + 1 + 1, 1, none⟩ (.int .i64 (x.d.cap : Nat))).setCell ⟨w.heap.size + 1 + 1, 2, none⟩ (.int .i64 (x.d.p.left : Nat))).setCell ⟨w.heap.size + 1 + 1, 3, none⟩ (.int .i64 (x.d.p.steps : Nat))).setCell ⟨w.heap.size + 1 + 1, 4, none⟩ (.bool x.d.p.down)) ∧ (∀ a, A = some a → w.heap.size ≤ a.block) := by
  have he : acc = omap.ins lt k f x.d.fs := by
    have := h.sum
    simpa using this
  subst he
  obtain ⟨A, c, rfl, hc, -⟩ := h.own.row
  obtain ⟨cs, hcs, hres0⟩ := h.res
  have hres : Blk wr (w.heap.size + 1 + 1) cs := hres0
  have hbig := h.big
  have HT : Turn [w.heap.size, w.heap.size + 1 + 1] [w.heap.size, w.heap.size + 1 + 1] wr ((((((wr.setCell ⟨w.heap.size, 0, none⟩ (.slice A (omap.ins lt k f x.d.fs).length c)).setCell ⟨w.heap.size + 1 + 1, 0, none⟩ (.slice A (omap.ins lt k f x.d.fs).length c)).setCell ⟨w.heap.size + 1 + 1, 1, none⟩ (.int .i64 (x.d.cap : Nat))).setCell ⟨w.heap.size + 1 + 1, 2, none⟩ (.int .i64 (x.d.p.left : Nat))).setCell ⟨w.heap.size + 1 + 1, 3, none⟩ (.int .i64 (x.d.p.steps : Nat))).setCell ⟨w.heap.size + 1 + 1, 4, none⟩ (.bool x.d.p.down)) := (((((Turn.set (by simp) _).trans (Turn.set (by simp) _)).trans (Turn.set (by simp) _)).trans (Turn.set (by simp) _)).trans (Turn.set (by simp) _)).trans (Turn.set (by simp) _)
  have hown := h.own.stays fun g hg => (HT.far g (h.own.block hg).2 (by have := (h.own.block hg).1; simp; omega)).2
  match cs, hcs with
  | [a0, a1, a2, a3, a4], _ =>
  exact ⟨rfl, A, c, rfl, hc, (((((hres.stays (heap_setCell_other _ _ _ _ (by simp; omega))).set 0 _).set 1 _).set 2 _).set 3 _).set 4 _, hown.row_of, h.bel.trans (HT.to_below (by omega) (by intro g hg; simp at hg; omega)), fun a ha => by
    subst ha
    have := (hown.block (g := a.block) rfl).1
    omega⟩
theorem ins_here {k : Nm} {f : Fl} {fs : Fs} {n : Nat} (hn : n < fs.length) (h : lt k fs[n].1 = true) : omap.ins lt k f (fs.drop n) = (k, f) :: fs[n] :: fs.drop (n + 1) := by
  rw [List.drop_eq_getElem_cons hn]
  unfold omap.ins
  rw [if_pos h]
theorem ins_later {k : Nm} {f : Fl} {fs : Fs} {n : Nat} (hn : n < fs.length) (h : lt k fs[n].1 = false) : omap.ins lt k f (fs.drop n) = fs[n] :: omap.ins lt k f (fs.drop (n + 1)) := by
  rw [List.drop_eq_getElem_cons hn]
  conv => lhs; unfold omap.ins
  rw [if_neg (by rw [h]; simp)]

set_option maxRecDepth 100000 in
set_option maxHeartbeats 2000000 in
theorem rwith_any (x : Rf) (k : Nm) (f : Fl) (w : World) (hx : x.ok w) (hfew : x.d.fs.length < 1000000) : Calls Try.prog 15 #[x.v, .agg #[.string ⟨k.toArray⟩, .string (strOf f.l), .int .i64 (f.s : Nat)]] w fun e w' => ∃ r : Rf, e = .returned r.v ∧ r.ok w' ∧ r.d = { x.d with fs := omap.put lt k f x.d.fs } ∧ Below w.heap.size w w' ∧ (∀ a, r.A = some a → w.heap.size ≤ a.block) := by
  have hC := fun (wx : World) (h : x.ok wx) => rwo_any x ⟨k.toArray⟩ wx h
  obtain ⟨A, c, d⟩ := x
  obtain ⟨⟨steps, left, down⟩, cap, fs⟩ := d
  simp only at hfew
  have HX := Lib.hid hx
  have HC := Lib.hid hC
  unfold Rf.v
  simp only
  clear hx hC
  go_enter Try.func15, Try.ntmps15
  go_wp2_with (fail)
  refine (HC.out _ (HX.out.below ((((Below.refl _ _).alloc (Nat.le_refl _) _).alloc (by simp) _).alloc (by simp; omega) _))).mono ?_
  rintro e w1 ⟨⟨A2, c2, d2⟩, rfl, hok, hd2, hbel, hnew⟩
  simp only at hd2
  subst hd2
  have hsz : w.heap.size + 3 ≤ w1.heap.size := by have := hbel.size; simpa using this
  have hb0 : Blk w1 w.heap.size [.slice A fs.length c, .int .i64 (cap : Nat), .int .i64 (left : Nat), .int .i64 (steps : Nat), .bool down] :=
    (((blk_new w _ _).stays (heap_alloc_old _ _ (by simp))).stays (heap_alloc_old _ _ (by simp; omega))).stays (hbel.block _ (by simp; omega))
  have cc0 : w1.cell? ⟨w.heap.size, 0, none⟩ = some (.slice A fs.length c) := hb0.cell 0
  have cc1 : w1.cell? ⟨w.heap.size, 1, none⟩ = some (.int .i64 (cap : Nat)) := hb0.cell 1
  have cc2 : w1.cell? ⟨w.heap.size, 2, none⟩ = some (.int .i64 (left : Nat)) := hb0.cell 2
  have cc3 : w1.cell? ⟨w.heap.size, 3, none⟩ = some (.int .i64 (steps : Nat)) := hb0.cell 3
  have cc4 : w1.cell? ⟨w.heap.size, 4, none⟩ = some (.bool down) := hb0.cell 4
  have f0 : w1.frozen? ⟨w.heap.size, 0, none⟩ = false := hb0.free 0
  have f1 : w1.frozen? ⟨w.heap.size, 1, none⟩ = false := hb0.free 1
  have f2 : w1.frozen? ⟨w.heap.size, 2, none⟩ = false := hb0.free 2
  have f3 : w1.frozen? ⟨w.heap.size, 3, none⟩ = false := hb0.free 3
  have f4 : w1.frozen? ⟨w.heap.size, 4, none⟩ = false := hb0.free 4
  have HB0 := Lib.hid hb0
  have HOK := Lib.hid hok
  have HBEL := Lib.hid hbel
  have HNEW := Lib.hid hnew
  clear hb0 hok hbel hnew
  generalize hfs2 : omap.del k fs = fs2 at *
  unfold Rf.v
  simp only
  go_wp2_with (fail)
  go_loopw [5, 6, 7] (fun v p i wr => ∃ (n : Nat) (pb : Bool) (acc : Fs), n ≤ fs2.length ∧ p = .bool pb ∧ i = .int .i64 n ∧ Hid (WiAt w wr ⟨A2, c2, ⟨⟨steps, left, down⟩, cap, fs2⟩⟩ k f v pb n acc)) (fun _ _ i _ => fs2.length - (intOf i).toNat)
  case atStart =>
    refine ⟨0, false, [], Nat.zero_le _, rfl, rfl, ?_⟩
    show WiAt _ _ _ _ _ _ _ _ _
    have HT : Turn [w.heap.size] [w.heap.size] w1 (((((w1.setCell ⟨w.heap.size, 0, none⟩ (.slice A2 fs2.length c2)).setCell ⟨w.heap.size, 1, none⟩ (.int .i64 (cap : Nat))).setCell ⟨w.heap.size, 2, none⟩ (.int .i64 (left : Nat))).setCell ⟨w.heap.size, 3, none⟩ (.int .i64 (steps : Nat))).setCell ⟨w.heap.size, 4, none⟩ (.bool down)) := ((((Turn.set (by simp) _).trans (Turn.set (by simp) _)).trans (Turn.set (by simp) _)).trans (Turn.set (by simp) _)).trans (Turn.set (by simp) _)
    have hbs := HBEL.out
    refine ⟨((((HB0.out.set 0 _).set 1 _).set 2 _).set 3 _).set 4 _, ?_, ⟨[.slice none 0 0, .int .i64 0, .int .i64 0, .int .i64 0, .bool false], rfl, ?_⟩, HOK.out.row.stays fun hn a ha => ?_, FOwn.nil _ _, ?_, ?_, by simp, fun _ _ _ => by simp [Value.ownBlock]⟩
    · have := blk_new (w.alloc (.cells #[.slice A fs.length c, .int .i64 (cap : Nat), .int .i64 (left : Nat), .int .i64 (steps : Nat), .bool down] 32)) [.string ⟨k.toArray⟩, .string (strOf f.l), .int .i64 (f.s : Nat)] 48
      have := ((this.stays (heap_alloc_old _ _ (by simp))).stays (hbs.block _ (by simp))).stays (HT.far _ (by simp; omega) (by simp)).2
      simpa using this
    · have := blk_new ((w.alloc (.cells #[.slice A fs.length c, .int .i64 (cap : Nat), .int .i64 (left : Nat), .int .i64 (steps : Nat), .bool down] 32)).alloc (.cells #[.string ⟨k.toArray⟩, .string (strOf f.l), .int .i64 (f.s : Nat)] 48)) [.slice none 0 0, .int .i64 0, .int .i64 0, .int .i64 0, .bool false] 32
      have := (this.stays (hbs.block _ (by simp))).stays (HT.far _ (by simp; omega) (by simp; omega)).2
      simpa using this
    · have hge := HNEW.out a ha
      have hin := HOK.out.row.inside hn ha
      exact (HT.far _ hin (by simp at hge ⊢; omega)).2
    · exact (((((Below.refl _ _).alloc (Nat.le_refl _) _).alloc (by simp) _).alloc (by simp; omega) _).trans (hbs.mono (by simp; omega))).trans (HT.to_below (by omega) (by simp))
    · exact Nat.le_trans hsz HT.size
  case round =>
    obtain ⟨n, pb, acc, hn, rfl, rfl, hW⟩ := hrel
    have cc0 : wr.cell? ⟨w.heap.size, 0, none⟩ = some (.slice A2 fs2.length c2) := hW.out.self.cell 0
    have n0 : wr.cell? ⟨w.heap.size + 1, 0, none⟩ = some (.string ⟨k.toArray⟩) := hW.out.file.cell 0
    by_cases hlt : n < fs2.length
    · obtain ⟨rb, off, ra, hcell⟩ := hW.out.row (Nat.lt_of_le_of_lt (Nat.zero_le _) hlt)
      simp only at ra
      subst ra
      obtain ⟨q0, q1, q2⟩ := hcell n hlt
      simp only at q0 q1 q2
      have hrbl : rb < wr.heap.size := World.block_lt_of_cell? wr _ q0
      have hlti : (n : Int) < (fs2.length : Int) := by omega
      have hnb : (n : Int) ≤ 1000000 := by have := HOK.out.few; simp only at this; omega
      have hfewz : fs2.length ≤ 1000000 := HOK.out.few
      cases pb with
      | true =>
        clear hcell q0 q1 q2
        go_wp2_with (fail)
        go_quiet (fail)
        have hsum := hW.out.sum
        simp only [if_true] at hsum
        obtain ⟨v', w2, run, HW⟩ := (hW.out.drewN nq).app hfewz fs2[n] true (n + 1) (by simp only [if_true]; rw [← hsum, List.drop_eq_getElem_cons hlt]; simp)
        have HQ := Lib.hid (hW.out.drewN nq)
        have HW2 := Lib.hid HW
        clear cc0 n0 hW hrbl HW hsum
        generalize wr.drewN nq = wq at *
        have cc0 : wq.cell? ⟨w.heap.size, 0, none⟩ = some (.slice (some ⟨rb, off, none⟩) fs2.length c2) := HQ.out.self.cell 0
        obtain ⟨rb', off', ra', hcell⟩ := HQ.out.row (Nat.lt_of_le_of_lt (Nat.zero_le _) hlt)
        cases ra'
        obtain ⟨q0, q1, q2⟩ := hcell n hlt
        simp only at q0 q1 q2
        have hrbl : rb < wq.heap.size := World.block_lt_of_cell? wq _ q0
        clear hcell
        go_wp2_with (at_builtin; refine wpList_append_run rfl _ _ 30 30 30 rfl rfl _ _ _ _ rfl rfl run ?_)
        go_roundw
        case rel => exact ⟨n + 1, true, _, by omega, rfl, by go_num, HW2.out⟩
        case measure => simp [intOf]; omega
      | false =>
        have hne : (fs2[n].1 == k) = false := by
          have hm : fs2[n] ∈ omap.del k fs := by rw [hfs2]; exact List.getElem_mem hlt
          have := (List.mem_filter.1 hm).2
          simpa using this
        have hsum := hW.out.sum
        simp only [Bool.false_eq_true, if_false] at hsum
        cases hl : lt fs2[n].1 k with
        | true =>
          have ht : Op.bytesLess fs2[n].1 k = true := (bytesLess_eq _ _).trans hl
          have hlk := ord.asymm hl
          clear hcell
          go_wp2_with (fail)
          go_quiet (fail)
          obtain ⟨v', w2, run, HW⟩ := (hW.out.drewN nq).app hfewz fs2[n] false (n + 1) (by simp only [Bool.false_eq_true, if_false]; rw [← hsum, ins_later hlt hlk]; simp)
          have HQ := Lib.hid (hW.out.drewN nq)
          have HW2 := Lib.hid HW
          clear cc0 n0 hW hrbl HW hsum q0 q1 q2
          generalize wr.drewN nq = wq at *
          have cc0 : wq.cell? ⟨w.heap.size, 0, none⟩ = some (.slice (some ⟨rb, off, none⟩) fs2.length c2) := HQ.out.self.cell 0
          obtain ⟨rb', off', ra', hcell⟩ := HQ.out.row (Nat.lt_of_le_of_lt (Nat.zero_le _) hlt)
          cases ra'
          obtain ⟨q0, q1, q2⟩ := hcell n hlt
          simp only at q0 q1 q2
          have hrbl : rb < wq.heap.size := World.block_lt_of_cell? wq _ q0
          clear hcell
          go_wp2_with (at_builtin; refine wpList_append_run rfl _ _ 30 30 30 rfl rfl _ _ _ _ rfl rfl run ?_)
          go_roundw
          case rel => exact ⟨n + 1, false, _, by omega, rfl, by go_num, HW2.out⟩
          case measure => simp [intOf]; omega
        | false =>
          have ht : Op.bytesLess fs2[n].1 k = false := (bytesLess_eq _ _).trans hl
          have hlk : lt k fs2[n].1 = true := by
            cases h : lt k fs2[n].1 with
            | true => rfl
            | false =>
              have := ord.tot _ _ hl h
              simp [this] at hne
          clear hcell
          go_wp2_with (fail)
          go_quiet (fail)
          have HQ := Lib.hid (hW.out.drewN nq)
          obtain ⟨v1, w2, run1, HW⟩ := HQ.out.app hfewz (k, f) true n (by simp only [if_true]; rw [← hsum, ins_here hlt hlk, List.drop_eq_getElem_cons hlt]; simp)
          have HW1 := Lib.hid HW
          obtain ⟨v2, w3, run2, HW3⟩ := HW.app hfewz fs2[n] true (n + 1) (by simp only [if_true]; rw [← hsum, ins_here hlt hlk]; simp)
          have HW2 := Lib.hid HW3
          clear cc0 n0 hW hrbl HW HW3 hsum q0 q1 q2
          generalize wr.drewN nq = wq at *
          have n0 : wq.cell? ⟨w.heap.size + 1, 0, none⟩ = some (.string ⟨k.toArray⟩) := HQ.out.file.cell 0
          have n1 : wq.cell? ⟨w.heap.size + 1, 1, none⟩ = some (.string (strOf f.l)) := HQ.out.file.cell 1
          have n2 : wq.cell? ⟨w.heap.size + 1, 2, none⟩ = some (.int .i64 (f.s : Nat)) := HQ.out.file.cell 2
          have hnbl : w.heap.size + 1 < wq.heap.size := World.block_lt_of_cell? wq _ n0
          have cc0 : w2.cell? ⟨w.heap.size, 0, none⟩ = some (.slice (some ⟨rb, off, none⟩) fs2.length c2) := HW1.out.self.cell 0
          obtain ⟨rb', off', ra', hcell⟩ := HW1.out.row (Nat.lt_of_le_of_lt (Nat.zero_le _) hlt)
          cases ra'
          obtain ⟨q0, q1, q2⟩ := hcell n hlt
          simp only at q0 q1 q2
          have hrbl : rb < w2.heap.size := World.block_lt_of_cell? w2 _ q0
          clear hcell
          go_wp2_with (at_builtin; first | refine wpList_append_run rfl _ _ 30 30 30 rfl rfl _ _ _ _ rfl rfl run1 ?_ | refine wpList_append_run rfl _ _ 30 30 30 rfl rfl _ _ _ _ rfl rfl run2 ?_)
          go_roundw
          case rel => exact ⟨n + 1, true, _, by omega, rfl, by go_num, HW2.out⟩
          case measure => simp [intOf]; omega
    · have hk' : n = fs2.length := by omega
      subst hk'
      cases pb with
      | true =>
        clear cc0 n0 hlt hn
        have HWE := Lib.hid hW.out
        have cc0 : wr.cell? ⟨w.heap.size, 0, none⟩ = some (.slice A2 fs2.length c2) := HWE.out.self.cell 0
        have cc1 : wr.cell? ⟨w.heap.size, 1, none⟩ = some (.int .i64 (cap : Nat)) := HWE.out.self.cell 1
        have cc2 : wr.cell? ⟨w.heap.size, 2, none⟩ = some (.int .i64 (left : Nat)) := HWE.out.self.cell 2
        have cc3 : wr.cell? ⟨w.heap.size, 3, none⟩ = some (.int .i64 (steps : Nat)) := HWE.out.self.cell 3
        have cc4 : wr.cell? ⟨w.heap.size, 4, none⟩ = some (.bool down) := HWE.out.self.cell 4
        have f0 : wr.frozen? ⟨w.heap.size, 0, none⟩ = false := HWE.out.self.free 0
        obtain ⟨cs, hcs, hres⟩ := HWE.out.res
        match cs, hcs with
        | [a0, a1, a2, a3, a4], _ =>
        have r0 : wr.cell? ⟨w.heap.size + 1 + 1, 0, none⟩ = some a0 := hres.cell 0
        have r1 : wr.cell? ⟨w.heap.size + 1 + 1, 1, none⟩ = some a1 := hres.cell 1
        have r2 : wr.cell? ⟨w.heap.size + 1 + 1, 2, none⟩ = some a2 := hres.cell 2
        have r3 : wr.cell? ⟨w.heap.size + 1 + 1, 3, none⟩ = some a3 := hres.cell 3
        have r4 : wr.cell? ⟨w.heap.size + 1 + 1, 4, none⟩ = some a4 := hres.cell 4
        have g0 : wr.frozen? ⟨w.heap.size + 1 + 1, 0, none⟩ = false := hres.free 0
        have g1 : wr.frozen? ⟨w.heap.size + 1 + 1, 1, none⟩ = false := hres.free 1
        have g2 : wr.frozen? ⟨w.heap.size + 1 + 1, 2, none⟩ = false := hres.free 2
        have g3 : wr.frozen? ⟨w.heap.size + 1 + 1, 3, none⟩ = false := hres.free 3
        have g4 : wr.frozen? ⟨w.heap.size + 1 + 1, 4, none⟩ = false := hres.free 4
        have hbigE := HWE.out.big
        obtain ⟨hacc, A', c', hv, hc', hblk, hrow, hbl, hfr⟩ := HWE.out.told
        simp only at hv hc' hblk hrow hbl hfr
        subst hv
        have HT := Lib.hid hblk
        have HRW := Lib.hid hrow
        have HBL := Lib.hid hbl
        have HFR := Lib.hid hfr
        have HCC := Lib.hid hc'
        have hlen := Lib.hid (omap.length_ins (lt := lt) k f fs2)
        clear hacc hc' hblk hrow hbl hfr hres
        go_wp2_with (fail)
        obtain ⟨T, hT⟩ := HT.out
        refine bodyPost_ret_by (results_cell_row rfl _ _ (w.heap.size + 1 + 1) T _ _ _ (by kernel_rfl) hT Try.underlying32 rfl (by kernel_rfl)) rfl ?_
        refine ⟨⟨A', c', ⟨⟨steps, left, down⟩, cap, omap.ins lt k f fs2⟩⟩, rfl, ⟨HRW.out, HCC.out, ?_⟩, ?_, HBL.out, HFR.out⟩
        · have hl2 : fs2.length ≤ fs.length := by rw [← hfs2]; exact List.length_filter_le _ _
          have hl3 := hlen.out
          simp only
          omega
        · unfold omap.put
          rw [hfs2]
      | false =>
        have hsum := hW.out.sum
        simp only [Bool.false_eq_true, if_false] at hsum
        obtain ⟨v1, w2, run1, HW⟩ := hW.out.app (show fs2.length ≤ 1000000 from HOK.out.few) (k, f) true fs2.length (by simp only [if_true]; rw [← hsum]; simp [omap.ins])
        have HW1 := Lib.hid HW
        have n1 : wr.cell? ⟨w.heap.size + 1, 1, none⟩ = some (.string (strOf f.l)) := hW.out.file.cell 1
        have n2 : wr.cell? ⟨w.heap.size + 1, 2, none⟩ = some (.int .i64 (f.s : Nat)) := hW.out.file.cell 2
        have hnbl : w.heap.size + 1 < wr.heap.size := World.block_lt_of_cell? wr _ n0
        clear hlt hn hsum HW
        have HWE := Lib.hid HW1.out
        have dd0 : w2.cell? ⟨w.heap.size, 0, none⟩ = some (.slice A2 fs2.length c2) := HWE.out.self.cell 0
        have dd1 : w2.cell? ⟨w.heap.size, 1, none⟩ = some (.int .i64 (cap : Nat)) := HWE.out.self.cell 1
        have dd2 : w2.cell? ⟨w.heap.size, 2, none⟩ = some (.int .i64 (left : Nat)) := HWE.out.self.cell 2
        have dd3 : w2.cell? ⟨w.heap.size, 3, none⟩ = some (.int .i64 (steps : Nat)) := HWE.out.self.cell 3
        have dd4 : w2.cell? ⟨w.heap.size, 4, none⟩ = some (.bool down) := HWE.out.self.cell 4
        have f0 : w2.frozen? ⟨w.heap.size, 0, none⟩ = false := HWE.out.self.free 0
        obtain ⟨cs, hcs, hres⟩ := HWE.out.res
        match cs, hcs with
        | [a0, a1, a2, a3, a4], _ =>
        have r0 : w2.cell? ⟨w.heap.size + 1 + 1, 0, none⟩ = some a0 := hres.cell 0
        have r1 : w2.cell? ⟨w.heap.size + 1 + 1, 1, none⟩ = some a1 := hres.cell 1
        have r2 : w2.cell? ⟨w.heap.size + 1 + 1, 2, none⟩ = some a2 := hres.cell 2
        have r3 : w2.cell? ⟨w.heap.size + 1 + 1, 3, none⟩ = some a3 := hres.cell 3
        have r4 : w2.cell? ⟨w.heap.size + 1 + 1, 4, none⟩ = some a4 := hres.cell 4
        have g0 : w2.frozen? ⟨w.heap.size + 1 + 1, 0, none⟩ = false := hres.free 0
        have g1 : w2.frozen? ⟨w.heap.size + 1 + 1, 1, none⟩ = false := hres.free 1
        have g2 : w2.frozen? ⟨w.heap.size + 1 + 1, 2, none⟩ = false := hres.free 2
        have g3 : w2.frozen? ⟨w.heap.size + 1 + 1, 3, none⟩ = false := hres.free 3
        have g4 : w2.frozen? ⟨w.heap.size + 1 + 1, 4, none⟩ = false := hres.free 4
        have hbigE := HWE.out.big
        obtain ⟨hacc, A', c', hv, hc', hblk, hrow, hbl, hfr⟩ := HWE.out.told
        simp only at hv hc' hblk hrow hbl hfr
        subst hv
        have HT := Lib.hid hblk
        have HRW := Lib.hid hrow
        have HBL := Lib.hid hbl
        have HFR := Lib.hid hfr
        have HCC := Lib.hid hc'
        have hlen := Lib.hid (omap.length_ins (lt := lt) k f fs2)
        clear hacc hc' hblk hrow hbl hfr hres
        go_wp2_with (at_builtin; refine wpList_append_run rfl _ _ 30 30 30 rfl rfl _ _ _ _ rfl rfl run1 ?_)
        obtain ⟨T, hT⟩ := HT.out
        refine bodyPost_ret_by (results_cell_row rfl _ _ (w.heap.size + 1 + 1) T _ _ _ (by kernel_rfl) hT Try.underlying32 rfl (by kernel_rfl)) rfl ?_
        refine ⟨⟨A', c', ⟨⟨steps, left, down⟩, cap, omap.ins lt k f fs2⟩⟩, rfl, ⟨HRW.out, HCC.out, ?_⟩, ?_, HBL.out, HFR.out⟩
        · have hl2 : fs2.length ≤ fs.length := by rw [← hfs2]; exact List.length_filter_le _ _
          have hl3 := hlen.out
          simp only
          omega
        · unfold omap.put
          rw [hfs2]
end Go.Proofs.Ytpnhgongjfknbaa
