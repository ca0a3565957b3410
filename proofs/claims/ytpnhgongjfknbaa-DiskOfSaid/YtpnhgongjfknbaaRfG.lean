/-
  The document's own disk: a command that may be, done.
-/
import Derived.Test.YtpnhgongjfknbaaRfF
import Derived.Deep.RegionHeld3
namespace Go.Proofs.Ytpnhgongjfknbaa
open Go.RowKit omap

theorem below_set {w W : World} {g i : Nat} {v : Value} (h : Below w.heap.size w W) (hg : w.heap.size ≤ g) : Below w.heap.size w (W.setCell ⟨g, i, none⟩ v) :=
  h.trans ((Turn.set (S := [g]) (a := ⟨g, i, none⟩) (by simp) v).to_below h.size (by simp; omega))
/-- a command that may be, done -/
def doneS (kind : Int) (k j : Nm) (l : List Nat) (f : Fl) (fs : Fs) : Fs :=
  if kind = 2 then omap.put lt k ⟨f.l ++ l, f.s⟩ fs else if kind = 3 then omap.put lt k ⟨f.l, f.l.length⟩ fs else if kind = 5 then omap.put lt j f (omap.del k fs) else omap.del k fs
/-- a disk laid into five cells -/
theorem laid5 {w W : World} {g : Nat} {cs : List Value} (hb : Below w.heap.size w W) (hg : w.heap.size ≤ g) (hcs : cs.length = 5) (h : Blk W g cs) (u0 u1 u2 u3 u4 : Value) :
    Blk (((((W.setCell ⟨g, 0, none⟩ u0).setCell ⟨g, 1, none⟩ u1).setCell ⟨g, 2, none⟩ u2).setCell ⟨g, 3, none⟩ u3).setCell ⟨g, 4, none⟩ u4) g [u0, u1, u2, u3, u4] ∧ Below w.heap.size w (((((W.setCell ⟨g, 0, none⟩ u0).setCell ⟨g, 1, none⟩ u1).setCell ⟨g, 2, none⟩ u2).setCell ⟨g, 3, none⟩ u3).setCell ⟨g, 4, none⟩ u4) ∧
    ∀ b, b ≠ g → (((((W.setCell ⟨g, 0, none⟩ u0).setCell ⟨g, 1, none⟩ u1).setCell ⟨g, 2, none⟩ u2).setCell ⟨g, 3, none⟩ u3).setCell ⟨g, 4, none⟩ u4).heap[b]? = W.heap[b]? := by
  match cs, hcs with
  | [a0, a1, a2, a3, a4], _ =>
  refine ⟨((((h.set 0 u0).set 1 u1).set 2 u2).set 3 u3).set 4 u4, below_set (below_set (below_set (below_set (below_set hb hg) hg) hg) hg) hg, fun b hb => ?_⟩
  rw [heap_setCell_other _ _ _ _ hb, heap_setCell_other _ _ _ _ hb, heap_setCell_other _ _ _ _ hb, heap_setCell_other _ _ _ _ hb, heap_setCell_other _ _ _ _ hb]
set_option maxRecDepth 100000 in
set_option maxHeartbeats 4000000 in
theorem rdone_any (x : Rf) (kind : Int) (s t u : ByteArray) (f : Fl) (w : World) (hx : x.ok w) (hfew : x.d.fs.length < 900000) (hk1 : kind ≠ 1) (hlk : omap.look x.d.fs s.data.toList = some f) (hfb : AreBytes f.l) (hfn : f.l.length ≤ 1000000000) (hun : u.size ≤ 1000000) :
    Calls Try.prog 56 #[x.v, opV kind s t u] w fun e w' => ∃ r : Rf, e = .returned r.v ∧ r.ok w' ∧ r.d = { x.d with fs := doneS kind s.data.toList t.data.toList (natsOf u) f x.d.fs } ∧ Below w.heap.size w w' ∧ (∀ a, r.A = some a → w.heap.size ≤ a.block) := by
  have HX := Lib.hid hx
  have HA := Lib.hid (fun (wx : World) (h : x.ok wx) => rAt_ex x s wx h)
  have HW := Lib.hid (fun (k : Nm) (f : Fl) (wx : World) (h : x.ok wx) => rwith_any x k f wx h (by omega))
  have HO := Lib.hid (fun (wx : World) (h : x.ok wx) => rwo_any x s wx h)
  have HFB := Lib.hid hfb
  have hpl := place_of s.data.toList x.d.fs
  obtain ⟨A, c, d⟩ := x
  obtain ⟨⟨steps, left, down⟩, cap, fs⟩ := d
  simp only at hlk hpl hfew
  rcases hpl with ⟨_, h2⟩ | ⟨i, hi, h1, h2, h3⟩
  · rw [hlk] at h2; cases h2
  rw [hlk] at h3
  obtain rfl := Option.some.inj h3
  obtain ⟨res, hres⟩ : ∃ r, r = doneS kind s.data.toList t.data.toList (natsOf u) fs[i].2 fs := ⟨_, rfl⟩
  have hE : Hid (∀ r : Fs, r = doneS kind s.data.toList t.data.toList (natsOf u) fs[i].2 fs → r = res) := fun r h => h.trans hres.symm
  unfold Rf.v at HA HW HO ⊢
  unfold opV
  simp only at HA HW HO ⊢
  rw [← hres]
  clear hres
  rw [h1] at HA
  obtain ⟨rb, off, ra, hcell⟩ := HX.out.row (by simp only; omega)
  simp only at ra hcell
  subst ra
  obtain ⟨q0, q1, q2⟩ := hcell i hi
  rw [h2] at q0
  obtain ⟨k, hkk⟩ : ∃ k, k = s.data.toList := ⟨_, rfl⟩
  obtain ⟨f, hff⟩ : ∃ f, f = fs[i].2 := ⟨_, rfl⟩
  rw [← hkk] at q0
  rw [← hff] at q1 q2 hE HFB hfn
  have HKE := Lib.hid hkk
  have HFE := Lib.hid hff
  have hrbl : rb < w.heap.size := World.block_lt_of_cell? w _ q0
  have tk1 : (kind == 1) = false := by simpa using hk1
  have hil : (i : Int) < (fs.length : Int) := by omega
  have hfl : (fs.length : Int) < 900000 := by omega
  have hl1 : (strOf f.l).size ≤ 1000000000 := by rw [strOf_size]; exact hfn
  have HL1 := Lib.hid hl1
  have HL2 := Lib.hid hun
  have HFEW := Lib.hid hfew
  clear hcell h1 h2 h3 hlk hx hfb hff hkk hl1
  go_enter Try.func56, Try.ntmps56
  go_wp2_with (fail)
  have hBA : Below w.heap.size w (((w.alloc (.cells #[.slice (some ⟨rb, off, none⟩) fs.length c, .int .i64 (cap : Nat), .int .i64 (left : Nat), .int .i64 (steps : Nat), .bool down] 32)).alloc (.cells #[.int .i64 kind, .string s, .string t, .string u] 81)).alloc (.cells #[.slice none 0 0, .int .i64 0, .int .i64 0, .int .i64 0, .bool false] 32)) := (((Below.refl _ _).alloc (Nat.le_refl _) _).alloc (by simp) _).alloc (by simp; omega) _
  have hb0 := (blk_new w [.slice (some ⟨rb, off, none⟩) fs.length c, .int .i64 (cap : Nat), .int .i64 (left : Nat), .int .i64 (steps : Nat), .bool down] 32)
  have hb0' : Blk (((w.alloc (.cells #[.slice (some ⟨rb, off, none⟩) fs.length c, .int .i64 (cap : Nat), .int .i64 (left : Nat), .int .i64 (steps : Nat), .bool down] 32)).alloc (.cells #[.int .i64 kind, .string s, .string t, .string u] 81)).alloc (.cells #[.slice none 0 0, .int .i64 0, .int .i64 0, .int .i64 0, .bool false] 32)) w.heap.size [.slice (some ⟨rb, off, none⟩) fs.length c, .int .i64 (cap : Nat), .int .i64 (left : Nat), .int .i64 (steps : Nat), .bool down] := (hb0.stays (heap_alloc_old _ _ (by simp))).stays (heap_alloc_old _ _ (by simp; omega))
  have hb1' : Blk (((w.alloc (.cells #[.slice (some ⟨rb, off, none⟩) fs.length c, .int .i64 (cap : Nat), .int .i64 (left : Nat), .int .i64 (steps : Nat), .bool down] 32)).alloc (.cells #[.int .i64 kind, .string s, .string t, .string u] 81)).alloc (.cells #[.slice none 0 0, .int .i64 0, .int .i64 0, .int .i64 0, .bool false] 32)) (w.heap.size + 1) [.int .i64 kind, .string s, .string t, .string u] := (blk_new_at (w.alloc _) _ (by simp) _ _).stays (heap_alloc_old _ _ (by simp))
  have hb2' : Blk (((w.alloc (.cells #[.slice (some ⟨rb, off, none⟩) fs.length c, .int .i64 (cap : Nat), .int .i64 (left : Nat), .int .i64 (steps : Nat), .bool down] 32)).alloc (.cells #[.int .i64 kind, .string s, .string t, .string u] 81)).alloc (.cells #[.slice none 0 0, .int .i64 0, .int .i64 0, .int .i64 0, .bool false] 32)) (w.heap.size + 2) [.slice none 0 0, .int .i64 0, .int .i64 0, .int .i64 0, .bool false] := blk_new_at ((w.alloc _).alloc _) _ (by simp) _ _
  have hsz : (((w.alloc (.cells #[.slice (some ⟨rb, off, none⟩) fs.length c, .int .i64 (cap : Nat), .int .i64 (left : Nat), .int .i64 (steps : Nat), .bool down] 32)).alloc (.cells #[.int .i64 kind, .string s, .string t, .string u] 81)).alloc (.cells #[.slice none 0 0, .int .i64 0, .int .i64 0, .int .i64 0, .bool false] 32)).heap.size = w.heap.size + 3 := by simp
  have r0 := (hBA.cell (p := ⟨rb, off + i * 3, none⟩) hrbl).trans q0
  have r1 := (hBA.cell (p := ⟨rb, off + i * 3 + 1, none⟩) hrbl).trans q1
  have r2 := (hBA.cell (p := ⟨rb, off + i * 3 + 2, none⟩) hrbl).trans q2
  have HXA := HX.out.below hBA
  have HXA := Lib.hid HXA
  have HBA := Lib.hid hBA
  clear hb0 hBA
  generalize (((w.alloc (.cells #[.slice (some ⟨rb, off, none⟩) fs.length c, .int .i64 (cap : Nat), .int .i64 (left : Nat), .int .i64 (steps : Nat), .bool down] 32)).alloc (.cells #[.int .i64 kind, .string s, .string t, .string u] 81)).alloc (.cells #[.slice none 0 0, .int .i64 0, .int .i64 0, .int .i64 0, .bool false] 32)) = wA at *
  have a0 : wA.cell? ⟨w.heap.size, 0, none⟩ = some (.slice (some ⟨rb, off, none⟩) fs.length c) := hb0'.cell 0
  have a1 : wA.cell? ⟨w.heap.size, 1, none⟩ = some (.int .i64 (cap : Nat)) := hb0'.cell 1
  have a2 : wA.cell? ⟨w.heap.size, 2, none⟩ = some (.int .i64 (left : Nat)) := hb0'.cell 2
  have a3 : wA.cell? ⟨w.heap.size, 3, none⟩ = some (.int .i64 (steps : Nat)) := hb0'.cell 3
  have a4 : wA.cell? ⟨w.heap.size, 4, none⟩ = some (.bool down) := hb0'.cell 4
  have o1 : wA.cell? ⟨w.heap.size + 1, 1, none⟩ = some (.string s) := hb1'.cell 1
  have hrbl2 : rb < wA.heap.size := by omega
  have hwl0 : w.heap.size < wA.heap.size := by omega
  have hwl1 : w.heap.size + 1 < wA.heap.size := by omega
  go_region_held3 (fun w' => w'.cell? ⟨w.heap.size, 0, none⟩ = some (.slice (some ⟨rb, off, none⟩) fs.length c) ∧ w'.cell? ⟨w.heap.size, 1, none⟩ = some (.int .i64 (cap : Nat)) ∧ w'.cell? ⟨w.heap.size, 2, none⟩ = some (.int .i64 (left : Nat)) ∧ w'.cell? ⟨w.heap.size, 3, none⟩ = some (.int .i64 (steps : Nat)) ∧ w'.cell? ⟨w.heap.size, 4, none⟩ = some (.bool down) ∧ w'.cell? ⟨w.heap.size + 1, 1, none⟩ = some (.string s) ∧
      w'.cell? ⟨rb, off + i * 3, none⟩ = some (.string ⟨k.toArray⟩) ∧ w'.cell? ⟨rb, off + i * 3 + 1, none⟩ = some (.string (strOf f.l)) ∧ w'.cell? ⟨rb, off + i * 3 + 2, none⟩ = some (.int .i64 (f.s : Nat)))
    (first | go_keep)
    ((first | (go_at_call 14; refine (HA.out _ (HXA.out.below ((Below.refl _ _).drew))).mono ?_; rintro e w' ⟨rfl, rfl⟩) | (go_at_call 14; refine (HA.out _ (HXA.out.below (((Below.refl _ _).alloc (Nat.le_refl _) _).drew))).mono ?_; rintro e w' ⟨rfl, rfl⟩)))
  have HBB : Hid (Below w.heap.size w (((wA.alloc (.cells #[.slice (some ⟨rb, off, none⟩) fs.length c, .int .i64 (cap : Nat), .int .i64 (left : Nat), .int .i64 (steps : Nat), .bool down] 32)).alloc (.cells #[.string ⟨k.toArray⟩, .string (strOf f.l), .int .i64 (f.s : Nat)] 48)).drew)) := ((HBA.out.alloc (by omega) _).alloc (by simp; omega) _).drew
  have bF : Blk (((wA.alloc (.cells #[.slice (some ⟨rb, off, none⟩) fs.length c, .int .i64 (cap : Nat), .int .i64 (left : Nat), .int .i64 (steps : Nat), .bool down] 32)).alloc (.cells #[.string ⟨k.toArray⟩, .string (strOf f.l), .int .i64 (f.s : Nat)] 48)).drew) (w.heap.size + 3 + 1) [.string ⟨k.toArray⟩, .string (strOf f.l), .int .i64 (f.s : Nat)] := (blk_new_at (wA.alloc _) _ (by simp; omega) _ _)
  have bD : Blk (((wA.alloc (.cells #[.slice (some ⟨rb, off, none⟩) fs.length c, .int .i64 (cap : Nat), .int .i64 (left : Nat), .int .i64 (steps : Nat), .bool down] 32)).alloc (.cells #[.string ⟨k.toArray⟩, .string (strOf f.l), .int .i64 (f.s : Nat)] 48)).drew) w.heap.size [.slice (some ⟨rb, off, none⟩) fs.length c, .int .i64 (cap : Nat), .int .i64 (left : Nat), .int .i64 (steps : Nat), .bool down] := ((hb0'.stays (heap_alloc_old _ _ (by omega))).stays (heap_alloc_old _ _ (by simp; omega)))
  have bO : Blk (((wA.alloc (.cells #[.slice (some ⟨rb, off, none⟩) fs.length c, .int .i64 (cap : Nat), .int .i64 (left : Nat), .int .i64 (steps : Nat), .bool down] 32)).alloc (.cells #[.string ⟨k.toArray⟩, .string (strOf f.l), .int .i64 (f.s : Nat)] 48)).drew) (w.heap.size + 1) [.int .i64 kind, .string s, .string t, .string u] := ((hb1'.stays (heap_alloc_old _ _ (by omega))).stays (heap_alloc_old _ _ (by simp; omega)))
  have bR : Blk (((wA.alloc (.cells #[.slice (some ⟨rb, off, none⟩) fs.length c, .int .i64 (cap : Nat), .int .i64 (left : Nat), .int .i64 (steps : Nat), .bool down] 32)).alloc (.cells #[.string ⟨k.toArray⟩, .string (strOf f.l), .int .i64 (f.s : Nat)] 48)).drew) (w.heap.size + 2) [.slice none 0 0, .int .i64 0, .int .i64 0, .int .i64 0, .bool false] := ((hb2'.stays (heap_alloc_old _ _ (by omega))).stays (heap_alloc_old _ _ (by simp; omega)))
  have hg : w.heap.size + 2 < w.heap.size + 3 + 1 := by omega
  clear HBA HXA hb0' hb1' hb2' a0 a1 a2 a3 a4 o1 r0 r1 r2 q0 q1 q2
  generalize (((wA.alloc (.cells #[.slice (some ⟨rb, off, none⟩) fs.length c, .int .i64 (cap : Nat), .int .i64 (left : Nat), .int .i64 (steps : Nat), .bool down] 32)).alloc (.cells #[.string ⟨k.toArray⟩, .string (strOf f.l), .int .i64 (f.s : Nat)] 48)).drew) = wB at *
  generalize w.heap.size + 3 + 1 = g at *
  rotate_left 1
  have HBB : Hid (Below w.heap.size w (((wA.alloc (.cells #[.string ⟨k.toArray⟩, .string (strOf f.l), .int .i64 (f.s : Nat)] 48)).alloc (.cells #[.slice (some ⟨rb, off, none⟩) fs.length c, .int .i64 (cap : Nat), .int .i64 (left : Nat), .int .i64 (steps : Nat), .bool down] 32)).drew)) := ((HBA.out.alloc (by omega) _).alloc (by simp; omega) _).drew
  have bF : Blk (((wA.alloc (.cells #[.string ⟨k.toArray⟩, .string (strOf f.l), .int .i64 (f.s : Nat)] 48)).alloc (.cells #[.slice (some ⟨rb, off, none⟩) fs.length c, .int .i64 (cap : Nat), .int .i64 (left : Nat), .int .i64 (steps : Nat), .bool down] 32)).drew) (w.heap.size + 3) [.string ⟨k.toArray⟩, .string (strOf f.l), .int .i64 (f.s : Nat)] := ((blk_new_at wA _ (by omega) _ _).stays (heap_alloc_old _ _ (by simp; omega)))
  have bD : Blk (((wA.alloc (.cells #[.string ⟨k.toArray⟩, .string (strOf f.l), .int .i64 (f.s : Nat)] 48)).alloc (.cells #[.slice (some ⟨rb, off, none⟩) fs.length c, .int .i64 (cap : Nat), .int .i64 (left : Nat), .int .i64 (steps : Nat), .bool down] 32)).drew) w.heap.size [.slice (some ⟨rb, off, none⟩) fs.length c, .int .i64 (cap : Nat), .int .i64 (left : Nat), .int .i64 (steps : Nat), .bool down] := ((hb0'.stays (heap_alloc_old _ _ (by omega))).stays (heap_alloc_old _ _ (by simp; omega)))
  have bO : Blk (((wA.alloc (.cells #[.string ⟨k.toArray⟩, .string (strOf f.l), .int .i64 (f.s : Nat)] 48)).alloc (.cells #[.slice (some ⟨rb, off, none⟩) fs.length c, .int .i64 (cap : Nat), .int .i64 (left : Nat), .int .i64 (steps : Nat), .bool down] 32)).drew) (w.heap.size + 1) [.int .i64 kind, .string s, .string t, .string u] := ((hb1'.stays (heap_alloc_old _ _ (by omega))).stays (heap_alloc_old _ _ (by simp; omega)))
  have bR : Blk (((wA.alloc (.cells #[.string ⟨k.toArray⟩, .string (strOf f.l), .int .i64 (f.s : Nat)] 48)).alloc (.cells #[.slice (some ⟨rb, off, none⟩) fs.length c, .int .i64 (cap : Nat), .int .i64 (left : Nat), .int .i64 (steps : Nat), .bool down] 32)).drew) (w.heap.size + 2) [.slice none 0 0, .int .i64 0, .int .i64 0, .int .i64 0, .bool false] := ((hb2'.stays (heap_alloc_old _ _ (by omega))).stays (heap_alloc_old _ _ (by simp; omega)))
  have hg : w.heap.size + 2 < w.heap.size + 3 := by omega
  clear HBA HXA hb0' hb1' hb2' a0 a1 a2 a3 a4 o1 r0 r1 r2 q0 q1 q2
  generalize (((wA.alloc (.cells #[.string ⟨k.toArray⟩, .string (strOf f.l), .int .i64 (f.s : Nat)] 48)).alloc (.cells #[.slice (some ⟨rb, off, none⟩) fs.length c, .int .i64 (cap : Nat), .int .i64 (left : Nat), .int .i64 (steps : Nat), .bool down] 32)).drew) = wB at *
  generalize w.heap.size + 3 = g at *
  all_goals have hzB := HBB.out.size
  all_goals have hgB : g < wB.heap.size := bF.inside
  all_goals have F0 : wB.cell? ⟨g, 0, none⟩ = some (.string ⟨k.toArray⟩) := bF.cell 0
  all_goals have F1 : wB.cell? ⟨g, 1, none⟩ = some (.string (strOf f.l)) := bF.cell 1
  all_goals have F2 : wB.cell? ⟨g, 2, none⟩ = some (.int .i64 (f.s : Nat)) := bF.cell 2
  all_goals have G0 : wB.frozen? ⟨g, 0, none⟩ = false := bF.free 0
  all_goals have G1 : wB.frozen? ⟨g, 1, none⟩ = false := bF.free 1
  all_goals have G2 : wB.frozen? ⟨g, 2, none⟩ = false := bF.free 2
  all_goals have O0 : wB.cell? ⟨w.heap.size + 1, 0, none⟩ = some (.int .i64 kind) := bO.cell 0
  all_goals have O1 : wB.cell? ⟨w.heap.size + 1, 1, none⟩ = some (.string s) := bO.cell 1
  all_goals have O2 : wB.cell? ⟨w.heap.size + 1, 2, none⟩ = some (.string t) := bO.cell 2
  all_goals have O3 : wB.cell? ⟨w.heap.size + 1, 3, none⟩ = some (.string u) := bO.cell 3
  all_goals have D0 : wB.cell? ⟨w.heap.size, 0, none⟩ = some (.slice (some ⟨rb, off, none⟩) fs.length c) := bD.cell 0
  all_goals have D1 : wB.cell? ⟨w.heap.size, 1, none⟩ = some (.int .i64 (cap : Nat)) := bD.cell 1
  all_goals have D2 : wB.cell? ⟨w.heap.size, 2, none⟩ = some (.int .i64 (left : Nat)) := bD.cell 2
  all_goals have D3 : wB.cell? ⟨w.heap.size, 3, none⟩ = some (.int .i64 (steps : Nat)) := bD.cell 3
  all_goals have D4 : wB.cell? ⟨w.heap.size, 4, none⟩ = some (.bool down) := bD.cell 4
  all_goals clear hk1 tk1 hsz hrbl2 hwl0 hwl1 HFE hi hfew hil hfl hrbl hun hfn
  all_goals
    by_cases hk2 : kind = 2
    · subst hk2
      have hl1 := HL1.out
      have hl2 := HL2.out
      have HS : Hid (strOf f.l ++ u = strOf (f.l ++ natsOf u)) := natsOf_inj (by rw [natsOf_append, natsOf_strOf HFB.out, natsOf_strOf (HFB.out.append (natsOf_are u))])
      go_wp2_with (fail)
      rw [HS.out]
      refine (HW.out k ⟨f.l ++ natsOf u, f.s⟩ _ (HX.out.below (below_set HBB.out (by omega)))).mono ?_
      rintro r wD ⟨⟨A4, c4, d4⟩, rfl, hok, hd4, hb4, hn4⟩
      simp only at hd4 hn4
      subst hd4
      have hCB : Below w.heap.size w (wB.setCell ⟨g, 1, none⟩ (.string (strOf (f.l ++ natsOf u)))) := below_set HBB.out (by omega)
      have hDB : Below w.heap.size w wD := hCB.trans (hb4.mono hCB.size)
      have bR4 : Blk wD (w.heap.size + 1 + 1) [.slice none 0 0, .int .i64 0, .int .i64 0, .int .i64 0, .bool false] := (bR.stays (heap_setCell_other _ _ _ _ (by simp; omega))).stays (hb4.block _ (by simp [World.setCell]; omega))
      
      have hn5 : ∀ a, A4 = some a → a.block ≠ w.heap.size + 1 + 1 := fun a ha => by have h1 := hn4 a ha; have h2 : w.heap.size + 1 + 1 < (wB.setCell ⟨g, 1, none⟩ (.string (strOf (f.l ++ natsOf u)))).heap.size := (by simp [World.setCell]; omega); omega
      have hn6 : ∀ a, A4 = some a → w.heap.size ≤ a.block := fun a ha => by have h1 := hn4 a ha; have h2 : w.heap.size + 1 + 1 < (wB.setCell ⟨g, 1, none⟩ (.string (strOf (f.l ++ natsOf u)))).heap.size := (by simp [World.setCell]; omega); omega
      have HN6 := Lib.hid hn6
      have r0 : wD.cell? ⟨w.heap.size + 1 + 1, 0, none⟩ = some (.slice none 0 0) := bR4.cell 0
      have r1 : wD.cell? ⟨w.heap.size + 1 + 1, 1, none⟩ = some (.int .i64 0) := bR4.cell 1
      have r2 : wD.cell? ⟨w.heap.size + 1 + 1, 2, none⟩ = some (.int .i64 0) := bR4.cell 2
      have r3 : wD.cell? ⟨w.heap.size + 1 + 1, 3, none⟩ = some (.int .i64 0) := bR4.cell 3
      have r4 : wD.cell? ⟨w.heap.size + 1 + 1, 4, none⟩ = some (.bool false) := bR4.cell 4
      have z0 : wD.frozen? ⟨w.heap.size + 1 + 1, 0, none⟩ = false := bR4.free 0
      have z1 : wD.frozen? ⟨w.heap.size + 1 + 1, 1, none⟩ = false := bR4.free 1
      have z2 : wD.frozen? ⟨w.heap.size + 1 + 1, 2, none⟩ = false := bR4.free 2
      have z3 : wD.frozen? ⟨w.heap.size + 1 + 1, 3, none⟩ = false := bR4.free 3
      have z4 : wD.frozen? ⟨w.heap.size + 1 + 1, 4, none⟩ = false := bR4.free 4
      obtain ⟨fs4, hfs4⟩ : ∃ z, z = omap.put lt k ⟨f.l ++ natsOf u, f.s⟩ fs := ⟨_, rfl⟩
      rw [← hfs4] at hok ⊢
      have hll := laid5 hDB (by omega) rfl bR4 (.slice A4 fs4.length c4) (.int .i64 (cap : Nat)) (.int .i64 (left : Nat)) (.int .i64 (steps : Nat)) (.bool down)
      have HT := Lib.hid hll.1
      have HBZ := Lib.hid hll.2.1
      have HFAR := Lib.hid hll.2.2
      have HOK := Lib.hid hok
      have HN5 := Lib.hid hn5
      have HRS : Hid (fs4 = res) := hE.out fs4 (by rw [hfs4]; rw [HKE.out, doneS, if_pos rfl])
      clear hll hok hb4 hn4 hn5 hn6 hCB hDB bR4 hfs4
      go_wp2_with (fail)
      obtain ⟨T, hT⟩ := HT.out
      refine bodyPost_ret_by (results_cell_row rfl _ _ (w.heap.size + 1 + 1) T _ _ _ (by kernel_rfl) hT Try.underlying32 rfl (by kernel_rfl)) rfl ?_
      refine ⟨⟨A4, c4, ⟨⟨steps, left, down⟩, cap, fs4⟩⟩, rfl, ⟨HOK.out.row.stays fun hn a ha => HFAR.out _ (HN5.out a ha), HOK.out.room, HOK.out.few⟩, ?_, HBZ.out, HN6.out⟩
      rw [HRS.out]
    · have tk2 : (kind == 2) = false := by simpa using hk2
      by_cases hk3 : kind = 3
      · subst hk3
        have hlf : (strOf f.l).size = f.l.length := strOf_size _
        go_wp2_with (fail)
        refine (HW.out k ⟨f.l, f.l.length⟩ _ (HX.out.below (below_set HBB.out (by omega)))).mono ?_
        rintro r wD ⟨⟨A4, c4, d4⟩, rfl, hok, hd4, hb4, hn4⟩
        simp only at hd4 hn4
        subst hd4
        have hCB : Below w.heap.size w (wB.setCell ⟨g, 2, none⟩ (.int .i64 (f.l.length : Nat))) := below_set HBB.out (by omega)
        have hDB : Below w.heap.size w wD := hCB.trans (hb4.mono hCB.size)
        have bR4 : Blk wD (w.heap.size + 1 + 1) [.slice none 0 0, .int .i64 0, .int .i64 0, .int .i64 0, .bool false] := (bR.stays (heap_setCell_other _ _ _ _ (by simp; omega))).stays (hb4.block _ (by simp [World.setCell]; omega))
        
        have hn5 : ∀ a, A4 = some a → a.block ≠ w.heap.size + 1 + 1 := fun a ha => by have h1 := hn4 a ha; have h2 : w.heap.size + 1 + 1 < (wB.setCell ⟨g, 2, none⟩ (.int .i64 (f.l.length : Nat))).heap.size := (by simp [World.setCell]; omega); omega
        have hn6 : ∀ a, A4 = some a → w.heap.size ≤ a.block := fun a ha => by have h1 := hn4 a ha; have h2 : w.heap.size + 1 + 1 < (wB.setCell ⟨g, 2, none⟩ (.int .i64 (f.l.length : Nat))).heap.size := (by simp [World.setCell]; omega); omega
        have HN6 := Lib.hid hn6
        have r0 : wD.cell? ⟨w.heap.size + 1 + 1, 0, none⟩ = some (.slice none 0 0) := bR4.cell 0
        have r1 : wD.cell? ⟨w.heap.size + 1 + 1, 1, none⟩ = some (.int .i64 0) := bR4.cell 1
        have r2 : wD.cell? ⟨w.heap.size + 1 + 1, 2, none⟩ = some (.int .i64 0) := bR4.cell 2
        have r3 : wD.cell? ⟨w.heap.size + 1 + 1, 3, none⟩ = some (.int .i64 0) := bR4.cell 3
        have r4 : wD.cell? ⟨w.heap.size + 1 + 1, 4, none⟩ = some (.bool false) := bR4.cell 4
        have z0 : wD.frozen? ⟨w.heap.size + 1 + 1, 0, none⟩ = false := bR4.free 0
        have z1 : wD.frozen? ⟨w.heap.size + 1 + 1, 1, none⟩ = false := bR4.free 1
        have z2 : wD.frozen? ⟨w.heap.size + 1 + 1, 2, none⟩ = false := bR4.free 2
        have z3 : wD.frozen? ⟨w.heap.size + 1 + 1, 3, none⟩ = false := bR4.free 3
        have z4 : wD.frozen? ⟨w.heap.size + 1 + 1, 4, none⟩ = false := bR4.free 4
        obtain ⟨fs4, hfs4⟩ : ∃ z, z = omap.put lt k ⟨f.l, f.l.length⟩ fs := ⟨_, rfl⟩
        rw [← hfs4] at hok ⊢
        have hll := laid5 hDB (by omega) rfl bR4 (.slice A4 fs4.length c4) (.int .i64 (cap : Nat)) (.int .i64 (left : Nat)) (.int .i64 (steps : Nat)) (.bool down)
        have HT := Lib.hid hll.1
        have HBZ := Lib.hid hll.2.1
        have HFAR := Lib.hid hll.2.2
        have HOK := Lib.hid hok
        have HN5 := Lib.hid hn5
        have HRS : Hid (fs4 = res) := hE.out fs4 (by rw [hfs4]; rw [HKE.out]; rfl)
        clear hll hok hb4 hn4 hn5 hn6 hCB hDB bR4 hfs4
        go_wp2_with (fail)
        obtain ⟨T, hT⟩ := HT.out
        refine bodyPost_ret_by (results_cell_row rfl _ _ (w.heap.size + 1 + 1) T _ _ _ (by kernel_rfl) hT Try.underlying32 rfl (by kernel_rfl)) rfl ?_
        refine ⟨⟨A4, c4, ⟨⟨steps, left, down⟩, cap, fs4⟩⟩, rfl, ⟨HOK.out.row.stays fun hn a ha => HFAR.out _ (HN5.out a ha), HOK.out.room, HOK.out.few⟩, ?_, HBZ.out, HN6.out⟩
        rw [HRS.out]
      · have tk3 : (kind == 3) = false := by simpa using hk3
        have HDL : Hid (∀ b : Fs, doneS kind k t.data.toList (natsOf u) f b = if kind = 5 then omap.put lt t.data.toList f (omap.del k b) else omap.del k b) := fun b => by unfold doneS; rw [if_neg hk2, if_neg hk3]
        clear hk2 hk3
        go_wp2_with (fail)
        refine (HO.out wB (HX.out.below HBB.out)).mono ?_
        rintro r w2 ⟨⟨A2, c2, d2⟩, rfl, hok2, hd2, hb2, hn2⟩
        simp only at hd2 hn2
        subst hd2
        rw [← HKE.out] at hok2 ⊢
        have hfl2 : (omap.del k fs).length < 900000 := Nat.lt_of_le_of_lt (List.length_filter_le _ _) HFEW.out
        obtain ⟨fs2, hfs2⟩ : ∃ z, z = omap.del k fs := ⟨_, rfl⟩
        rw [← hfs2] at hok2 hfl2 ⊢
        have HFS2 := Lib.hid hfs2
        have HOK2 := Lib.hid hok2
        have HN2 := Lib.hid hn2
        have HB2 : Hid (Below w.heap.size w w2) := HBB.out.trans (hb2.mono HBB.out.size)
        have hz2 := hb2.size
        have bF2 := bF.stays (hb2.block _ (by omega))
        have bO2 := bO.stays (hb2.block _ (by omega))
        have bR2 := bR.stays (hb2.block _ (by omega))
        have bD2 := bD.stays (hb2.block _ (by omega))
        have F0 : w2.cell? ⟨g, 0, none⟩ = some (.string ⟨k.toArray⟩) := bF2.cell 0
        have F1 : w2.cell? ⟨g, 1, none⟩ = some (.string (strOf f.l)) := bF2.cell 1
        have F2 : w2.cell? ⟨g, 2, none⟩ = some (.int .i64 (f.s : Nat)) := bF2.cell 2
        have G0 : w2.frozen? ⟨g, 0, none⟩ = false := bF2.free 0
        have O0 : w2.cell? ⟨w.heap.size + 1, 0, none⟩ = some (.int .i64 kind) := bO2.cell 0
        have O2 : w2.cell? ⟨w.heap.size + 1, 2, none⟩ = some (.string t) := bO2.cell 2
        have D0 : w2.cell? ⟨w.heap.size, 0, none⟩ = some (.slice (some ⟨rb, off, none⟩) fs.length c) := bD2.cell 0
        have D1 : w2.cell? ⟨w.heap.size, 1, none⟩ = some (.int .i64 (cap : Nat)) := bD2.cell 1
        have D2 : w2.cell? ⟨w.heap.size, 2, none⟩ = some (.int .i64 (left : Nat)) := bD2.cell 2
        have D3 : w2.cell? ⟨w.heap.size, 3, none⟩ = some (.int .i64 (steps : Nat)) := bD2.cell 3
        have D4 : w2.cell? ⟨w.heap.size, 4, none⟩ = some (.bool down) := bD2.cell 4
        have Y0 : w2.frozen? ⟨w.heap.size, 0, none⟩ = false := bD2.free 0
        have Y1 : w2.frozen? ⟨w.heap.size, 1, none⟩ = false := bD2.free 1
        have Y2 : w2.frozen? ⟨w.heap.size, 2, none⟩ = false := bD2.free 2
        have Y3 : w2.frozen? ⟨w.heap.size, 3, none⟩ = false := bD2.free 3
        have Y4 : w2.frozen? ⟨w.heap.size, 4, none⟩ = false := bD2.free 4
        have hl5 := laid5 HB2.out (Nat.le_refl _) rfl bD2 (.slice A2 fs2.length c2) (.int .i64 (cap : Nat)) (.int .i64 (left : Nat)) (.int .i64 (steps : Nat)) (.bool down)
        have HL5 := Lib.hid hl5
        have hz5 : w2.heap.size ≤ (((((w2.setCell ⟨w.heap.size, 0, none⟩ (.slice A2 fs2.length c2)).setCell ⟨w.heap.size, 1, none⟩ (.int .i64 (cap : Nat))).setCell ⟨w.heap.size, 2, none⟩ (.int .i64 (left : Nat))).setCell ⟨w.heap.size, 3, none⟩ (.int .i64 (steps : Nat))).setCell ⟨w.heap.size, 4, none⟩ (.bool down)).heap.size := by simp [World.setCell]
        clear hok2 hn2 hfs2 hb2 hl5
        by_cases hk5 : kind = 5
        · subst hk5
          have hks : (⟨t.data.toList.toArray⟩ : ByteArray) = t := by simp
          have HW5 := Lib.hid (fun (wx : World) (h : (⟨A2, c2, ⟨⟨steps, left, down⟩, cap, fs2⟩⟩ : Rf).ok wx) => rwith_any ⟨A2, c2, ⟨⟨steps, left, down⟩, cap, fs2⟩⟩ t.data.toList f wx h (by simp only; omega))
          unfold Rf.v at HW5
          simp only at HW5
          rw [hks] at HW5
          clear hks
          go_wp2_with (fail)
          refine (HW5.out _ ⟨HOK2.out.row.stays fun hn a ha => ?_, HOK2.out.room, HOK2.out.few⟩).mono ?_
          · have h1 := HN2.out a ha
            rw [heap_setCell_other _ _ _ _ (by simp; omega), HL5.out.2.2 _ (by omega)]
          rintro r wD ⟨⟨A4, c4, d4⟩, rfl, hok, hd4, hb4, hn4⟩
          simp only at hd4 hn4
          subst hd4
          have hCB : Below w.heap.size w ((((((w2.setCell ⟨w.heap.size, 0, none⟩ (.slice A2 fs2.length c2)).setCell ⟨w.heap.size, 1, none⟩ (.int .i64 (cap : Nat))).setCell ⟨w.heap.size, 2, none⟩ (.int .i64 (left : Nat))).setCell ⟨w.heap.size, 3, none⟩ (.int .i64 (steps : Nat))).setCell ⟨w.heap.size, 4, none⟩ (.bool down)).setCell ⟨g, 0, none⟩ (.string t)) := below_set HL5.out.2.1 (by omega)
          have hDB : Below w.heap.size w wD := hCB.trans (hb4.mono hCB.size)
          have bR4 : Blk wD (w.heap.size + 1 + 1) [.slice none 0 0, .int .i64 0, .int .i64 0, .int .i64 0, .bool false] := ((bR2.stays (HL5.out.2.2 _ (by omega))).stays (heap_setCell_other _ _ _ _ (by simp; omega))).stays (hb4.block _ (by simp [World.setCell]; omega))
          
          have hn5 : ∀ a, A4 = some a → a.block ≠ w.heap.size + 1 + 1 := fun a ha => by have h1 := hn4 a ha; have h2 : w.heap.size + 1 + 1 < ((((((w2.setCell ⟨w.heap.size, 0, none⟩ (.slice A2 fs2.length c2)).setCell ⟨w.heap.size, 1, none⟩ (.int .i64 (cap : Nat))).setCell ⟨w.heap.size, 2, none⟩ (.int .i64 (left : Nat))).setCell ⟨w.heap.size, 3, none⟩ (.int .i64 (steps : Nat))).setCell ⟨w.heap.size, 4, none⟩ (.bool down)).setCell ⟨g, 0, none⟩ (.string t)).heap.size := (by simp [World.setCell]; omega); omega
          have hn6 : ∀ a, A4 = some a → w.heap.size ≤ a.block := fun a ha => by have h1 := hn4 a ha; have h2 : w.heap.size + 1 + 1 < ((((((w2.setCell ⟨w.heap.size, 0, none⟩ (.slice A2 fs2.length c2)).setCell ⟨w.heap.size, 1, none⟩ (.int .i64 (cap : Nat))).setCell ⟨w.heap.size, 2, none⟩ (.int .i64 (left : Nat))).setCell ⟨w.heap.size, 3, none⟩ (.int .i64 (steps : Nat))).setCell ⟨w.heap.size, 4, none⟩ (.bool down)).setCell ⟨g, 0, none⟩ (.string t)).heap.size := (by simp [World.setCell]; omega); omega
          have HN6 := Lib.hid hn6
          have r0 : wD.cell? ⟨w.heap.size + 1 + 1, 0, none⟩ = some (.slice none 0 0) := bR4.cell 0
          have r1 : wD.cell? ⟨w.heap.size + 1 + 1, 1, none⟩ = some (.int .i64 0) := bR4.cell 1
          have r2 : wD.cell? ⟨w.heap.size + 1 + 1, 2, none⟩ = some (.int .i64 0) := bR4.cell 2
          have r3 : wD.cell? ⟨w.heap.size + 1 + 1, 3, none⟩ = some (.int .i64 0) := bR4.cell 3
          have r4 : wD.cell? ⟨w.heap.size + 1 + 1, 4, none⟩ = some (.bool false) := bR4.cell 4
          have z0 : wD.frozen? ⟨w.heap.size + 1 + 1, 0, none⟩ = false := bR4.free 0
          have z1 : wD.frozen? ⟨w.heap.size + 1 + 1, 1, none⟩ = false := bR4.free 1
          have z2 : wD.frozen? ⟨w.heap.size + 1 + 1, 2, none⟩ = false := bR4.free 2
          have z3 : wD.frozen? ⟨w.heap.size + 1 + 1, 3, none⟩ = false := bR4.free 3
          have z4 : wD.frozen? ⟨w.heap.size + 1 + 1, 4, none⟩ = false := bR4.free 4
          obtain ⟨fs4, hfs4⟩ : ∃ z, z = omap.put lt t.data.toList f fs2 := ⟨_, rfl⟩
          rw [← hfs4] at hok ⊢
          have hll := laid5 hDB (by omega) rfl bR4 (.slice A4 fs4.length c4) (.int .i64 (cap : Nat)) (.int .i64 (left : Nat)) (.int .i64 (steps : Nat)) (.bool down)
          have HT := Lib.hid hll.1
          have HBZ := Lib.hid hll.2.1
          have HFAR := Lib.hid hll.2.2
          have HOK := Lib.hid hok
          have HN5 := Lib.hid hn5
          have HRS : Hid (fs4 = res) := hE.out fs4 (by rw [hfs4]; rw [HFS2.out]; have := HDL.out fs; rw [if_pos trivial] at this; rw [← this, HKE.out])
          clear hll hok hb4 hn4 hn5 hn6 hCB hDB bR4 hfs4
          go_wp2_with (fail)
          obtain ⟨T, hT⟩ := HT.out
          refine bodyPost_ret_by (results_cell_row rfl _ _ (w.heap.size + 1 + 1) T _ _ _ (by kernel_rfl) hT Try.underlying32 rfl (by kernel_rfl)) rfl ?_
          refine ⟨⟨A4, c4, ⟨⟨steps, left, down⟩, cap, fs4⟩⟩, rfl, ⟨HOK.out.row.stays fun hn a ha => HFAR.out _ (HN5.out a ha), HOK.out.room, HOK.out.few⟩, ?_, HBZ.out, HN6.out⟩
          rw [HRS.out]
        · have tk5 : (kind == 5) = false := by simpa using hk5
          have HRS : Hid (fs2 = res) := hE.out fs2 (by rw [HFS2.out]; have := HDL.out fs; rw [if_neg hk5] at this; rw [← this, HKE.out])
          have r0 : w2.cell? ⟨w.heap.size + 1 + 1, 0, none⟩ = some (.slice none 0 0) := bR2.cell 0
          have r1 : w2.cell? ⟨w.heap.size + 1 + 1, 1, none⟩ = some (.int .i64 0) := bR2.cell 1
          have r2 : w2.cell? ⟨w.heap.size + 1 + 1, 2, none⟩ = some (.int .i64 0) := bR2.cell 2
          have r3 : w2.cell? ⟨w.heap.size + 1 + 1, 3, none⟩ = some (.int .i64 0) := bR2.cell 3
          have r4 : w2.cell? ⟨w.heap.size + 1 + 1, 4, none⟩ = some (.bool false) := bR2.cell 4
          have z0 : w2.frozen? ⟨w.heap.size + 1 + 1, 0, none⟩ = false := bR2.free 0
          have z1 : w2.frozen? ⟨w.heap.size + 1 + 1, 1, none⟩ = false := bR2.free 1
          have z2 : w2.frozen? ⟨w.heap.size + 1 + 1, 2, none⟩ = false := bR2.free 2
          have z3 : w2.frozen? ⟨w.heap.size + 1 + 1, 3, none⟩ = false := bR2.free 3
          have z4 : w2.frozen? ⟨w.heap.size + 1 + 1, 4, none⟩ = false := bR2.free 4
          have hll := laid5 HL5.out.2.1 (by omega) rfl (bR2.stays (HL5.out.2.2 _ (by omega))) (.slice A2 fs2.length c2) (.int .i64 (cap : Nat)) (.int .i64 (left : Nat)) (.int .i64 (steps : Nat)) (.bool down)
          have HT := Lib.hid hll.1
          have HBZ := Lib.hid hll.2.1
          have HFAR := Lib.hid hll.2.2
          have HN6 : Hid (∀ a, A2 = some a → w.heap.size ≤ a.block) := fun a ha => by have := HN2.out a ha; have := HBB.out.size; omega
          have HNX : Hid (∀ a, A2 = some a → a.block ≠ w.heap.size ∧ a.block ≠ w.heap.size + 1 + 1) := fun a ha => by have := HN2.out a ha; omega
          clear hll hk5
          go_wp2_with (fail)
          obtain ⟨T, hT⟩ := HT.out
          refine bodyPost_ret_by (results_cell_row rfl _ _ (w.heap.size + 1 + 1) T _ _ _ (by kernel_rfl) hT Try.underlying32 rfl (by kernel_rfl)) rfl ?_
          refine ⟨⟨A2, c2, ⟨⟨steps, left, down⟩, cap, fs2⟩⟩, rfl, ⟨HOK2.out.row.stays fun hn a ha => (HFAR.out _ (HNX.out a ha).2).trans (HL5.out.2.2 _ (HNX.out a ha).1), HOK2.out.room, HOK2.out.few⟩, ?_, HBZ.out, HN6.out⟩
          rw [HRS.out]
set_option maxRecDepth 100000 in
set_option maxHeartbeats 4000000 in
theorem rdone1_any (x : Rf) (s t u : ByteArray) (w : World) (hx : x.ok w) (hfew : x.d.fs.length < 900000) :
    Calls Try.prog 56 #[x.v, opV 1 s t u] w fun e w' => ∃ r : Rf, e = .returned r.v ∧ r.ok w' ∧ r.d = { x.d with fs := omap.put lt s.data.toList ⟨[], 0⟩ x.d.fs } ∧ Below w.heap.size w w' ∧ (∀ a, r.A = some a → w.heap.size ≤ a.block) := by
  have HX := Lib.hid hx
  have hW := fun (wx : World) (h : x.ok wx) => rwith_any x s.data.toList ⟨[], 0⟩ wx h (by omega)
  obtain ⟨A, c, d⟩ := x
  obtain ⟨⟨steps, left, down⟩, cap, fs⟩ := d
  simp only at hfew
  obtain ⟨res, hres⟩ : ∃ r, r = omap.put lt s.data.toList ⟨[], 0⟩ fs := ⟨_, rfl⟩
  have hE : Hid (∀ r : Fs, r = omap.put lt s.data.toList ⟨[], 0⟩ fs → r = res) := fun r h => h.trans hres.symm
  have hks : (⟨s.data.toList.toArray⟩ : ByteArray) = s := by simp
  unfold Rf.v at hW ⊢
  unfold opV
  simp only at hW ⊢
  rw [hks, strOf_nil] at hW
  rw [← hres]
  have HW := Lib.hid hW
  clear hres hx hfew hW hks
  go_enter Try.func56, Try.ntmps56
  go_wp2_with (fail)
  have hBA : Below w.heap.size w (((w.alloc (.cells #[.slice A fs.length c, .int .i64 (cap : Nat), .int .i64 (left : Nat), .int .i64 (steps : Nat), .bool down] 32)).alloc (.cells #[.int .i64 1, .string s, .string t, .string u] 81)).alloc (.cells #[.slice none 0 0, .int .i64 0, .int .i64 0, .int .i64 0, .bool false] 32)) := (((Below.refl _ _).alloc (Nat.le_refl _) _).alloc (by simp) _).alloc (by simp; omega) _
  have hb0 := (blk_new w [.slice A fs.length c, .int .i64 (cap : Nat), .int .i64 (left : Nat), .int .i64 (steps : Nat), .bool down] 32)
  have hb0' : Blk (((w.alloc (.cells #[.slice A fs.length c, .int .i64 (cap : Nat), .int .i64 (left : Nat), .int .i64 (steps : Nat), .bool down] 32)).alloc (.cells #[.int .i64 1, .string s, .string t, .string u] 81)).alloc (.cells #[.slice none 0 0, .int .i64 0, .int .i64 0, .int .i64 0, .bool false] 32)) w.heap.size [.slice A fs.length c, .int .i64 (cap : Nat), .int .i64 (left : Nat), .int .i64 (steps : Nat), .bool down] := (hb0.stays (heap_alloc_old _ _ (by simp))).stays (heap_alloc_old _ _ (by simp; omega))
  have hb1' : Blk (((w.alloc (.cells #[.slice A fs.length c, .int .i64 (cap : Nat), .int .i64 (left : Nat), .int .i64 (steps : Nat), .bool down] 32)).alloc (.cells #[.int .i64 1, .string s, .string t, .string u] 81)).alloc (.cells #[.slice none 0 0, .int .i64 0, .int .i64 0, .int .i64 0, .bool false] 32)) (w.heap.size + 1) [.int .i64 1, .string s, .string t, .string u] := (blk_new_at (w.alloc _) _ (by simp) _ _).stays (heap_alloc_old _ _ (by simp))
  have hb2' : Blk (((w.alloc (.cells #[.slice A fs.length c, .int .i64 (cap : Nat), .int .i64 (left : Nat), .int .i64 (steps : Nat), .bool down] 32)).alloc (.cells #[.int .i64 1, .string s, .string t, .string u] 81)).alloc (.cells #[.slice none 0 0, .int .i64 0, .int .i64 0, .int .i64 0, .bool false] 32)) (w.heap.size + 2) [.slice none 0 0, .int .i64 0, .int .i64 0, .int .i64 0, .bool false] := blk_new_at ((w.alloc _).alloc _) _ (by simp) _ _
  have hsz : (((w.alloc (.cells #[.slice A fs.length c, .int .i64 (cap : Nat), .int .i64 (left : Nat), .int .i64 (steps : Nat), .bool down] 32)).alloc (.cells #[.int .i64 1, .string s, .string t, .string u] 81)).alloc (.cells #[.slice none 0 0, .int .i64 0, .int .i64 0, .int .i64 0, .bool false] 32)).heap.size = w.heap.size + 3 := by simp
  have HXA := Lib.hid (HX.out.below hBA)
  have HBA := Lib.hid hBA
  clear hb0 hBA hb0' hb1'
  generalize (((w.alloc (.cells #[.slice A fs.length c, .int .i64 (cap : Nat), .int .i64 (left : Nat), .int .i64 (steps : Nat), .bool down] 32)).alloc (.cells #[.int .i64 1, .string s, .string t, .string u] 81)).alloc (.cells #[.slice none 0 0, .int .i64 0, .int .i64 0, .int .i64 0, .bool false] 32)) = wA at *
  refine (HW.out _ HXA.out).mono ?_
  rintro r wD ⟨⟨A4, c4, d4⟩, rfl, hok, hd4, hb4, hn4⟩
  simp only at hd4 hn4
  subst hd4
  have hCB : Below w.heap.size w (wA) := HBA.out
  have hDB : Below w.heap.size w wD := hCB.trans (hb4.mono hCB.size)
  have bR4 : Blk wD (w.heap.size + 1 + 1) [.slice none 0 0, .int .i64 0, .int .i64 0, .int .i64 0, .bool false] := (hb2').stays (hb4.block _ (by omega))
  
  have hn5 : ∀ a, A4 = some a → a.block ≠ w.heap.size + 1 + 1 := fun a ha => by have h1 := hn4 a ha; have h2 : w.heap.size + 1 + 1 < (wA).heap.size := (by omega); omega
  have hn6 : ∀ a, A4 = some a → w.heap.size ≤ a.block := fun a ha => by have h1 := hn4 a ha; have h2 : w.heap.size + 1 + 1 < (wA).heap.size := (by omega); omega
  have HN6 := Lib.hid hn6
  have r0 : wD.cell? ⟨w.heap.size + 1 + 1, 0, none⟩ = some (.slice none 0 0) := bR4.cell 0
  have r1 : wD.cell? ⟨w.heap.size + 1 + 1, 1, none⟩ = some (.int .i64 0) := bR4.cell 1
  have r2 : wD.cell? ⟨w.heap.size + 1 + 1, 2, none⟩ = some (.int .i64 0) := bR4.cell 2
  have r3 : wD.cell? ⟨w.heap.size + 1 + 1, 3, none⟩ = some (.int .i64 0) := bR4.cell 3
  have r4 : wD.cell? ⟨w.heap.size + 1 + 1, 4, none⟩ = some (.bool false) := bR4.cell 4
  have z0 : wD.frozen? ⟨w.heap.size + 1 + 1, 0, none⟩ = false := bR4.free 0
  have z1 : wD.frozen? ⟨w.heap.size + 1 + 1, 1, none⟩ = false := bR4.free 1
  have z2 : wD.frozen? ⟨w.heap.size + 1 + 1, 2, none⟩ = false := bR4.free 2
  have z3 : wD.frozen? ⟨w.heap.size + 1 + 1, 3, none⟩ = false := bR4.free 3
  have z4 : wD.frozen? ⟨w.heap.size + 1 + 1, 4, none⟩ = false := bR4.free 4
  obtain ⟨fs4, hfs4⟩ : ∃ z, z = omap.put lt s.data.toList ⟨[], 0⟩ fs := ⟨_, rfl⟩
  rw [← hfs4] at hok ⊢
  have hll := laid5 hDB (by omega) rfl bR4 (.slice A4 fs4.length c4) (.int .i64 (cap : Nat)) (.int .i64 (left : Nat)) (.int .i64 (steps : Nat)) (.bool down)
  have HT := Lib.hid hll.1
  have HBZ := Lib.hid hll.2.1
  have HFAR := Lib.hid hll.2.2
  have HOK := Lib.hid hok
  have HN5 := Lib.hid hn5
  have HRS : Hid (fs4 = res) := hE.out fs4 (hfs4)
  clear hll hok hb4 hn4 hn5 hn6 hCB hDB bR4 hfs4
  go_wp2_with (fail)
  obtain ⟨T, hT⟩ := HT.out
  refine bodyPost_ret_by (results_cell_row rfl _ _ (w.heap.size + 1 + 1) T _ _ _ (by kernel_rfl) hT Try.underlying32 rfl (by kernel_rfl)) rfl ?_
  refine ⟨⟨A4, c4, ⟨⟨steps, left, down⟩, cap, fs4⟩⟩, rfl, ⟨HOK.out.row.stays fun hn a ha => HFAR.out _ (HN5.out a ha), HOK.out.room, HOK.out.few⟩, ?_, HBZ.out, HN6.out⟩
  rw [HRS.out]
end Go.Proofs.Ytpnhgongjfknbaa
