/-
  What arguments give: nodes, four ints by value.
-/
import Derived.Test.YtfmlecjobpdbbaaRows
import Derived.Test.YtfmlecjobpdbbaaNdF
import Derived.ProofKit
import Derived.OpenShut
import Derived.ChangeOld
import Derived.Carry
import Derived.Below
import Derived.Laws.IdiomArrays
import Derived.Deep.Grids
import Derived.Deep.Fields
namespace Go.Proofs.Ytfmlecjobpdbbaa
open Go.RowKit Go.ChangeShapes Go.WideShapes Go.ChangeAt Go.Deep pxm imm

theorem own : ownKnob Try.prog.godebug = none := by kernel_rfl
theorem laidOut : laidOutB Try.prog = true := by kernel_rfl
theorem add_none (b off j : Nat) : (⟨b, off, none⟩ : Addr).add j = ⟨b, off + j, none⟩ := by unfold Addr.add; split <;> simp_all
/-- An argument's slice of numbers is a row. -/
theorem ints_row {k : IntKind} {w : World} {x : Addr} {zs : List Int} {n : Nat} (hn : n ≤ zs.length) (hcell : ∀ i, i < zs.length → w.cell? (x.add i) = some (.int k (zs.getD i 0))) :
    Row (fun z => Value.int k z) w (some x) (zs.take n) := fun hn' => by
  rw [List.length_take] at hn'
  obtain ⟨b, off, spot⟩ := x
  have h0 := hcell 0 (by omega)
  have hspot : spot = none := by simpa [Addr.add] using World.cell?_spot h0
  subst hspot
  refine ⟨b, off, rfl, fun j hj => ?_⟩
  rw [List.length_take] at hj
  have hc := hcell j (by omega)
  rw [add_none] at hc
  rw [hc, List.getElem_take]
  simp [List.getD, show j < zs.length from by omega]
section
variable {H : Type} {enc : TypeId × Value → H} {w : World} {base b0 : Nat} {held : Bool} {r : Reach} {v : Value} {d : DataW H} {p : List MemPlace}
/-- four ints by value -/
theorem arr4_of (hv : Value.okWide Try.prog w r b0 41 v) (h : DataW.Trod enc Try.prog w base (fun _ => true) held 41 v d p) : ∃ x : Bx, v = x.v := by
  obtain ⟨cs, rfl, hsz, _⟩ : ∃ cs, v = .agg cs ∧ cs.size = Try.prog.cellsOf 41 ∧ Row.okWide Try.prog w r b0 41 cs := by
    simpa [Value.okWide, Try.underlying41] using hv
  obtain ⟨fuel, hf⟩ := h
  have hl : cs.toList.length = 4 := by rw [Array.length_toList, hsz]; kernel_rfl
  obtain ⟨l⟩ := cs
  obtain ⟨c0, c1, c2, c3, rfl⟩ : ∃ c0 c1 c2 c3, l = [c0, c1, c2, c3] := by
    match l, hl with
    | [c0, c1, c2, c3], _ => exact ⟨_, _, _, _, rfl⟩
  obtain ⟨y0, y1, y2, y3, m, hx, hy0, hy1, hy2, hy3⟩ := trod_array4 Try.underlying41 (by kernel_rfl) hf
  obtain ⟨x0, e0, -, -⟩ := DataW.trod_int Try.underlying3 hy0
  obtain ⟨x1, e1, -, -⟩ := DataW.trod_int Try.underlying3 hy1
  obtain ⟨x2, e2, -, -⟩ := DataW.trod_int Try.underlying3 hy2
  obtain ⟨x3, e3, -, -⟩ := DataW.trod_int Try.underlying3 hy3
  obtain rfl := List.singleton_inj.1 e0
  obtain rfl := List.singleton_inj.1 e1
  obtain rfl := List.singleton_inj.1 e2
  obtain rfl := List.singleton_inj.1 e3
  exact ⟨⟨x0, x1, x2, x3⟩, rfl⟩
end
section
variable {H : Type} {enc : TypeId × Value → H} {w : World} {base : Nat} {held : Bool} {k : Nat}
/-- pixels -/
theorem px_cell {x : Value} {y : DataW H × List MemPlace} (h : DataW.trod enc Try.prog w base (fun _ => true) held k 28 [x] = some y) : ∃ (A : Option Addr) (l : List Nat) (c : Nat), x = .slice A l.length c ∧ Row eW w A l ∧ l.length ≤ c ∧ c ≤ maxLen ∧ ∀ z ∈ l, z < 4294967296 := by
  rcases open_ints Try.underlying28 Try.underlying27 (by kernel_rfl) h with ⟨hcs, _⟩ | ⟨a, l, c, zs, hcs, _, hl, hm, hz, _, hcell, hwz⟩
  · obtain rfl := List.singleton_inj.1 hcs
    exact ⟨none, [], 0, rfl, Row.none_ rfl, Nat.le_refl _, by unfold maxLen; omega, fun z hz => by cases hz⟩
  · obtain rfl := List.singleton_inj.1 hcs
    have hzl : zs.length = c := by simpa using hz
    have hb : ∀ z ∈ zs, 0 ≤ z ∧ z ≤ 4294967295 := fun z hz => bounds_u32 (hwz z hz)
    have hll : ((zs.take l).map Int.toNat).length = l := by simp; omega
    refine ⟨some a, (zs.take l).map Int.toNat, c, by rw [hll], fun hn => ?_, by rw [hll]; exact hl, hm, fun z hz => ?_⟩
    · rw [hll] at hn
      obtain ⟨b, off, spot⟩ := a
      have h0 := hcell 0 (by omega)
      have hspot : spot = none := by simpa [Addr.add] using World.cell?_spot h0
      subst hspot
      refine ⟨b, off, rfl, fun j hj => ?_⟩
      rw [hll] at hj
      have hc := hcell j (by omega)
      rw [add_none] at hc
      rw [hc]
      have hj' : j < zs.length := by omega
      have h3 := hb zs[j] (List.getElem_mem hj')
      simp only [List.getElem_map, List.getElem_take, List.getD_eq_getElem?_getD, List.getElem?_eq_getElem hj', Option.getD_some, eW, Option.some.injEq, Value.int.injEq, true_and]
      omega
    · simp only [List.mem_map] at hz
      obtain ⟨y, hy, rfl⟩ := hz
      have := hb y (List.mem_of_mem_take hy)
      omega
set_option maxRecDepth 100000 in
theorem map_cells {cs : List Value} {y : DataW H × List MemPlace} (hc : cs.length = 6) (h : DataW.trod enc Try.prog w base (fun _ => true) held k 23 cs = some y) : ∃ m : Mp, cs = m.cs := by
  obtain ⟨c0, c1, c2, c3, c4, c5, rfl⟩ : ∃ c0 c1 c2 c3 c4 c5, cs = [c0, c1, c2, c3, c4, c5] := by
    match cs, hc with
    | [c0, c1, c2, c3, c4, c5], _ => exact ⟨_, _, _, _, _, _, rfl⟩
  obtain ⟨d, p⟩ := y
  obtain ⟨ys, n', _, hy, hlen, hyl, hfl⟩ := DataW.trod_struct Try.underlying23 h
  have hyl2 : ys.length = 6 := hyl
  have z0 : Try.prog.cellsOf 2 = 1 := by kernel_rfl
  have g0 : DataW.trod enc Try.prog w base (fun _ => true) held n' 2 ((([c0, c1, c2, c3, c4, c5] : List Value).drop 0).take (Try.prog.cellsOf 2)) = ys[0]? := hfl 0 _ rfl
  rw [z0] at g0; try simp only [List.drop_zero, List.take_succ_cons, List.take_zero] at g0
  rw [List.getElem?_eq_getElem (by omega)] at g0
  have z1 : Try.prog.cellsOf 2 = 1 := by kernel_rfl
  have g1 : DataW.trod enc Try.prog w base (fun _ => true) held n' 2 ((([c0, c1, c2, c3, c4, c5] : List Value).drop 1).take (Try.prog.cellsOf 2)) = ys[1]? := hfl 1 _ rfl
  rw [z1] at g1; try simp only [List.drop_succ_cons, List.drop_zero, List.take_succ_cons, List.take_zero] at g1
  rw [List.getElem?_eq_getElem (by omega)] at g1
  have z2 : Try.prog.cellsOf 2 = 1 := by kernel_rfl
  have g2 : DataW.trod enc Try.prog w base (fun _ => true) held n' 2 ((([c0, c1, c2, c3, c4, c5] : List Value).drop 2).take (Try.prog.cellsOf 2)) = ys[2]? := hfl 2 _ rfl
  rw [z2] at g2; try simp only [List.drop_succ_cons, List.drop_zero, List.take_succ_cons, List.take_zero] at g2
  rw [List.getElem?_eq_getElem (by omega)] at g2
  have z3 : Try.prog.cellsOf 2 = 1 := by kernel_rfl
  have g3 : DataW.trod enc Try.prog w base (fun _ => true) held n' 2 ((([c0, c1, c2, c3, c4, c5] : List Value).drop 3).take (Try.prog.cellsOf 2)) = ys[3]? := hfl 3 _ rfl
  rw [z3] at g3; try simp only [List.drop_succ_cons, List.drop_zero, List.take_succ_cons, List.take_zero] at g3
  rw [List.getElem?_eq_getElem (by omega)] at g3
  have z4 : Try.prog.cellsOf 2 = 1 := by kernel_rfl
  have g4 : DataW.trod enc Try.prog w base (fun _ => true) held n' 2 ((([c0, c1, c2, c3, c4, c5] : List Value).drop 4).take (Try.prog.cellsOf 2)) = ys[4]? := hfl 4 _ rfl
  rw [z4] at g4; try simp only [List.drop_succ_cons, List.drop_zero, List.take_succ_cons, List.take_zero] at g4
  rw [List.getElem?_eq_getElem (by omega)] at g4
  have z5 : Try.prog.cellsOf 2 = 1 := by kernel_rfl
  have g5 : DataW.trod enc Try.prog w base (fun _ => true) held n' 2 ((([c0, c1, c2, c3, c4, c5] : List Value).drop 5).take (Try.prog.cellsOf 2)) = ys[5]? := hfl 5 _ rfl
  rw [z5] at g5; try simp only [List.drop_succ_cons, List.drop_zero, List.take_succ_cons, List.take_zero] at g5
  rw [List.getElem?_eq_getElem (by omega)] at g5
  obtain ⟨x0, e0, -, w0⟩ := DataW.trod_int Try.underlying2 g0
  obtain rfl := List.singleton_inj.1 e0
  obtain ⟨x1, e1, -, w1⟩ := DataW.trod_int Try.underlying2 g1
  obtain rfl := List.singleton_inj.1 e1
  obtain ⟨x2, e2, -, w2⟩ := DataW.trod_int Try.underlying2 g2
  obtain rfl := List.singleton_inj.1 e2
  obtain ⟨x3, e3, -, w3⟩ := DataW.trod_int Try.underlying2 g3
  obtain rfl := List.singleton_inj.1 e3
  obtain ⟨x4, e4, -, w4⟩ := DataW.trod_int Try.underlying2 g4
  obtain rfl := List.singleton_inj.1 e4
  obtain ⟨x5, e5, -, w5⟩ := DataW.trod_int Try.underlying2 g5
  obtain rfl := List.singleton_inj.1 e5
  exact ⟨⟨x0, x1, x2, x3, x4, x5⟩, rfl⟩
set_option maxRecDepth 100000 in
theorem rect_cells {cs : List Value} {y : DataW H × List MemPlace} (hc : cs.length = 4) (h : DataW.trod enc Try.prog w base (fun _ => true) held k 25 cs = some y) : ∃ m : Bx, cs = m.cs := by
  obtain ⟨c0, c1, c2, c3, rfl⟩ : ∃ c0 c1 c2 c3, cs = [c0, c1, c2, c3] := by
    match cs, hc with
    | [c0, c1, c2, c3], _ => exact ⟨_, _, _, _, rfl⟩
  obtain ⟨d, p⟩ := y
  obtain ⟨ys, n', _, hy, hlen, hyl, hfl⟩ := DataW.trod_struct Try.underlying25 h
  have hyl2 : ys.length = 4 := hyl
  have z0 : Try.prog.cellsOf 3 = 1 := by kernel_rfl
  have g0 : DataW.trod enc Try.prog w base (fun _ => true) held n' 3 ((([c0, c1, c2, c3] : List Value).drop 0).take (Try.prog.cellsOf 3)) = ys[0]? := hfl 0 _ rfl
  rw [z0] at g0; try simp only [List.drop_zero, List.take_succ_cons, List.take_zero] at g0
  rw [List.getElem?_eq_getElem (by omega)] at g0
  have z1 : Try.prog.cellsOf 3 = 1 := by kernel_rfl
  have g1 : DataW.trod enc Try.prog w base (fun _ => true) held n' 3 ((([c0, c1, c2, c3] : List Value).drop 1).take (Try.prog.cellsOf 3)) = ys[1]? := hfl 1 _ rfl
  rw [z1] at g1; try simp only [List.drop_succ_cons, List.drop_zero, List.take_succ_cons, List.take_zero] at g1
  rw [List.getElem?_eq_getElem (by omega)] at g1
  have z2 : Try.prog.cellsOf 3 = 1 := by kernel_rfl
  have g2 : DataW.trod enc Try.prog w base (fun _ => true) held n' 3 ((([c0, c1, c2, c3] : List Value).drop 2).take (Try.prog.cellsOf 3)) = ys[2]? := hfl 2 _ rfl
  rw [z2] at g2; try simp only [List.drop_succ_cons, List.drop_zero, List.take_succ_cons, List.take_zero] at g2
  rw [List.getElem?_eq_getElem (by omega)] at g2
  have z3 : Try.prog.cellsOf 3 = 1 := by kernel_rfl
  have g3 : DataW.trod enc Try.prog w base (fun _ => true) held n' 3 ((([c0, c1, c2, c3] : List Value).drop 3).take (Try.prog.cellsOf 3)) = ys[3]? := hfl 3 _ rfl
  rw [z3] at g3; try simp only [List.drop_succ_cons, List.drop_zero, List.take_succ_cons, List.take_zero] at g3
  rw [List.getElem?_eq_getElem (by omega)] at g3
  obtain ⟨x0, e0, -, w0⟩ := DataW.trod_int Try.underlying3 g0
  obtain rfl := List.singleton_inj.1 e0
  obtain ⟨x1, e1, -, w1⟩ := DataW.trod_int Try.underlying3 g1
  obtain rfl := List.singleton_inj.1 e1
  obtain ⟨x2, e2, -, w2⟩ := DataW.trod_int Try.underlying3 g2
  obtain rfl := List.singleton_inj.1 e2
  obtain ⟨x3, e3, -, w3⟩ := DataW.trod_int Try.underlying3 g3
  obtain rfl := List.singleton_inj.1 e3
  exact ⟨⟨x0, x1, x2, x3⟩, rfl⟩
set_option maxRecDepth 100000 in
theorem image_cells {cs : List Value} {y : DataW H × List MemPlace} (hc : cs.length = 3) (h : DataW.trod enc Try.prog w base (fun _ => true) held k 30 cs = some y) : ∃ (iw ih : Int) (A : Option Addr) (l : List Nat) (c : Nat), cs = [.int .i64 iw, .int .i64 ih, .slice A l.length c] ∧ Row eW w A l ∧ l.length ≤ c ∧ c ≤ maxLen ∧ ∀ z ∈ l, z < 4294967296 := by
  obtain ⟨c0, c1, c2, rfl⟩ : ∃ c0 c1 c2, cs = [c0, c1, c2] := by
    match cs, hc with
    | [c0, c1, c2], _ => exact ⟨_, _, _, rfl⟩
  obtain ⟨d, p⟩ := y
  obtain ⟨ys, n', _, hy, hlen, hyl, hfl⟩ := DataW.trod_struct Try.underlying30 h
  have hyl2 : ys.length = 3 := hyl
  have z0 : Try.prog.cellsOf 3 = 1 := by kernel_rfl
  have g0 : DataW.trod enc Try.prog w base (fun _ => true) held n' 3 ((([c0, c1, c2] : List Value).drop 0).take (Try.prog.cellsOf 3)) = ys[0]? := hfl 0 _ rfl
  rw [z0] at g0; try simp only [List.drop_zero, List.take_succ_cons, List.take_zero] at g0
  rw [List.getElem?_eq_getElem (by omega)] at g0
  have z1 : Try.prog.cellsOf 3 = 1 := by kernel_rfl
  have g1 : DataW.trod enc Try.prog w base (fun _ => true) held n' 3 ((([c0, c1, c2] : List Value).drop 1).take (Try.prog.cellsOf 3)) = ys[1]? := hfl 1 _ rfl
  rw [z1] at g1; try simp only [List.drop_succ_cons, List.drop_zero, List.take_succ_cons, List.take_zero] at g1
  rw [List.getElem?_eq_getElem (by omega)] at g1
  have z2 : Try.prog.cellsOf 28 = 1 := by kernel_rfl
  have g2 : DataW.trod enc Try.prog w base (fun _ => true) held n' 28 ((([c0, c1, c2] : List Value).drop 2).take (Try.prog.cellsOf 28)) = ys[2]? := hfl 2 _ rfl
  rw [z2] at g2; try simp only [List.drop_succ_cons, List.drop_zero, List.take_succ_cons, List.take_zero] at g2
  rw [List.getElem?_eq_getElem (by omega)] at g2
  obtain ⟨x0, e0, -, w0⟩ := DataW.trod_int Try.underlying3 g0
  obtain rfl := List.singleton_inj.1 e0
  obtain ⟨x1, e1, -, w1⟩ := DataW.trod_int Try.underlying3 g1
  obtain rfl := List.singleton_inj.1 e1
  obtain ⟨A, l, c, rfl, r1, r2, r3, r4⟩ := px_cell g2
  exact ⟨x0, x1, A, l, c, rfl, r1, r2, r3, r4⟩
set_option maxRecDepth 100000 in
theorem look_cells {cs : List Value} {y : DataW H × List MemPlace} (hc : cs.length = 7) (h : DataW.trod enc Try.prog w base (fun _ => true) held k 32 cs = some y) : ∃ (kk WW HH : Int) (pp : Nat) (iw ih : Int) (A : Option Addr) (l : List Nat) (c : Nat), cs = [.int .i64 kk, .int .i64 WW, .int .i64 HH, .int .u32 (pp : Nat), .int .i64 iw, .int .i64 ih, .slice A l.length c] ∧ pp < 4294967296 ∧ Row eW w A l ∧ l.length ≤ c ∧ c ≤ maxLen ∧ ∀ z ∈ l, z < 4294967296 := by
  obtain ⟨c0, c1, c2, c3, c4, c5, c6, rfl⟩ : ∃ c0 c1 c2 c3 c4 c5 c6, cs = [c0, c1, c2, c3, c4, c5, c6] := by
    match cs, hc with
    | [c0, c1, c2, c3, c4, c5, c6], _ => exact ⟨_, _, _, _, _, _, _, rfl⟩
  obtain ⟨d, p⟩ := y
  obtain ⟨ys, n', _, hy, hlen, hyl, hfl⟩ := DataW.trod_struct Try.underlying32 h
  have hyl2 : ys.length = 5 := hyl
  have z0 : Try.prog.cellsOf 3 = 1 := by kernel_rfl
  have g0 : DataW.trod enc Try.prog w base (fun _ => true) held n' 3 ((([c0, c1, c2, c3, c4, c5, c6] : List Value).drop 0).take (Try.prog.cellsOf 3)) = ys[0]? := hfl 0 _ rfl
  rw [z0] at g0; try simp only [List.drop_zero, List.take_succ_cons, List.take_zero] at g0
  rw [List.getElem?_eq_getElem (by omega)] at g0
  have z1 : Try.prog.cellsOf 3 = 1 := by kernel_rfl
  have g1 : DataW.trod enc Try.prog w base (fun _ => true) held n' 3 ((([c0, c1, c2, c3, c4, c5, c6] : List Value).drop 1).take (Try.prog.cellsOf 3)) = ys[1]? := hfl 1 _ rfl
  rw [z1] at g1; try simp only [List.drop_succ_cons, List.drop_zero, List.take_succ_cons, List.take_zero] at g1
  rw [List.getElem?_eq_getElem (by omega)] at g1
  have z2 : Try.prog.cellsOf 3 = 1 := by kernel_rfl
  have g2 : DataW.trod enc Try.prog w base (fun _ => true) held n' 3 ((([c0, c1, c2, c3, c4, c5, c6] : List Value).drop 2).take (Try.prog.cellsOf 3)) = ys[2]? := hfl 2 _ rfl
  rw [z2] at g2; try simp only [List.drop_succ_cons, List.drop_zero, List.take_succ_cons, List.take_zero] at g2
  rw [List.getElem?_eq_getElem (by omega)] at g2
  have z3 : Try.prog.cellsOf 27 = 1 := by kernel_rfl
  have g3 : DataW.trod enc Try.prog w base (fun _ => true) held n' 27 ((([c0, c1, c2, c3, c4, c5, c6] : List Value).drop 3).take (Try.prog.cellsOf 27)) = ys[3]? := hfl 3 _ rfl
  rw [z3] at g3; try simp only [List.drop_succ_cons, List.drop_zero, List.take_succ_cons, List.take_zero] at g3
  rw [List.getElem?_eq_getElem (by omega)] at g3
  have z4 : Try.prog.cellsOf 30 = 3 := by kernel_rfl
  have g4 : DataW.trod enc Try.prog w base (fun _ => true) held n' 30 ((([c0, c1, c2, c3, c4, c5, c6] : List Value).drop 4).take (Try.prog.cellsOf 30)) = ys[4]? := hfl 4 _ rfl
  rw [z4] at g4; try simp only [List.drop_succ_cons, List.drop_zero, List.take_succ_cons, List.take_zero] at g4
  rw [List.getElem?_eq_getElem (by omega)] at g4
  obtain ⟨x0, e0, -, w0⟩ := DataW.trod_int Try.underlying3 g0
  obtain rfl := List.singleton_inj.1 e0
  obtain ⟨x1, e1, -, w1⟩ := DataW.trod_int Try.underlying3 g1
  obtain rfl := List.singleton_inj.1 e1
  obtain ⟨x2, e2, -, w2⟩ := DataW.trod_int Try.underlying3 g2
  obtain rfl := List.singleton_inj.1 e2
  obtain ⟨x3, e3, -, w3⟩ := DataW.trod_int Try.underlying27 g3
  obtain rfl := List.singleton_inj.1 e3
  have b3 := bounds_u32 w3
  obtain ⟨iw, ih, A, l, c, ei, r1, r2, r3, r4⟩ := image_cells rfl g4
  simp only [List.cons.injEq, and_true] at ei
  obtain ⟨rfl, rfl, rfl⟩ := ei
  obtain ⟨pp, rfl⟩ : ∃ pp : Nat, x3 = (pp : Nat) := ⟨x3.toNat, by omega⟩
  exact ⟨x0, x1, x2, pp, iw, ih, A, l, c, rfl, by omega, r1, r2, r3, r4⟩
set_option maxRecDepth 100000 in
theorem node_cells {cs : List Value} {y : DataW H × List MemPlace} (hc : cs.length = 20) (h : DataW.trod enc Try.prog w base (fun _ => true) held k 34 cs = some y) : ∃ (m : Mp) (op : Int) (hi cl : Bool) (r : Bx) (kk WW HH : Int) (pp : Nat) (iw ih : Int) (A : Option Addr) (l : List Nat) (c : Nat), ndV m op hi cl r kk WW HH pp iw ih A l.length c = .agg cs.toArray ∧ pp < 4294967296 ∧ Row eW w A l ∧ l.length ≤ c ∧ c ≤ maxLen ∧ ∀ z ∈ l, z < 4294967296 := by
  obtain ⟨c0, c1, c2, c3, c4, c5, c6, c7, c8, c9, c10, c11, c12, c13, c14, c15, c16, c17, c18, c19, rfl⟩ : ∃ c0 c1 c2 c3 c4 c5 c6 c7 c8 c9 c10 c11 c12 c13 c14 c15 c16 c17 c18 c19, cs = [c0, c1, c2, c3, c4, c5, c6, c7, c8, c9, c10, c11, c12, c13, c14, c15, c16, c17, c18, c19] := by
    match cs, hc with
    | [c0, c1, c2, c3, c4, c5, c6, c7, c8, c9, c10, c11, c12, c13, c14, c15, c16, c17, c18, c19], _ => exact ⟨_, _, _, _, _, _, _, _, _, _, _, _, _, _, _, _, _, _, _, _, rfl⟩
  obtain ⟨d, p⟩ := y
  obtain ⟨ys, n', _, hy, hlen, hyl, hfl⟩ := DataW.trod_struct Try.underlying34 h
  have hyl2 : ys.length = 6 := hyl
  have z0 : Try.prog.cellsOf 23 = 6 := by kernel_rfl
  have g0 : DataW.trod enc Try.prog w base (fun _ => true) held n' 23 ((([c0, c1, c2, c3, c4, c5, c6, c7, c8, c9, c10, c11, c12, c13, c14, c15, c16, c17, c18, c19] : List Value).drop 0).take (Try.prog.cellsOf 23)) = ys[0]? := hfl 0 _ rfl
  rw [z0] at g0; try simp only [List.drop_zero, List.take_succ_cons, List.take_zero] at g0
  rw [List.getElem?_eq_getElem (by omega)] at g0
  have z1 : Try.prog.cellsOf 3 = 1 := by kernel_rfl
  have g1 : DataW.trod enc Try.prog w base (fun _ => true) held n' 3 ((([c0, c1, c2, c3, c4, c5, c6, c7, c8, c9, c10, c11, c12, c13, c14, c15, c16, c17, c18, c19] : List Value).drop 6).take (Try.prog.cellsOf 3)) = ys[1]? := hfl 1 _ rfl
  rw [z1] at g1; try simp only [List.drop_succ_cons, List.drop_zero, List.take_succ_cons, List.take_zero] at g1
  rw [List.getElem?_eq_getElem (by omega)] at g1
  have z2 : Try.prog.cellsOf 4 = 1 := by kernel_rfl
  have g2 : DataW.trod enc Try.prog w base (fun _ => true) held n' 4 ((([c0, c1, c2, c3, c4, c5, c6, c7, c8, c9, c10, c11, c12, c13, c14, c15, c16, c17, c18, c19] : List Value).drop 7).take (Try.prog.cellsOf 4)) = ys[2]? := hfl 2 _ rfl
  rw [z2] at g2; try simp only [List.drop_succ_cons, List.drop_zero, List.take_succ_cons, List.take_zero] at g2
  rw [List.getElem?_eq_getElem (by omega)] at g2
  have z3 : Try.prog.cellsOf 4 = 1 := by kernel_rfl
  have g3 : DataW.trod enc Try.prog w base (fun _ => true) held n' 4 ((([c0, c1, c2, c3, c4, c5, c6, c7, c8, c9, c10, c11, c12, c13, c14, c15, c16, c17, c18, c19] : List Value).drop 8).take (Try.prog.cellsOf 4)) = ys[3]? := hfl 3 _ rfl
  rw [z3] at g3; try simp only [List.drop_succ_cons, List.drop_zero, List.take_succ_cons, List.take_zero] at g3
  rw [List.getElem?_eq_getElem (by omega)] at g3
  have z4 : Try.prog.cellsOf 25 = 4 := by kernel_rfl
  have g4 : DataW.trod enc Try.prog w base (fun _ => true) held n' 25 ((([c0, c1, c2, c3, c4, c5, c6, c7, c8, c9, c10, c11, c12, c13, c14, c15, c16, c17, c18, c19] : List Value).drop 9).take (Try.prog.cellsOf 25)) = ys[4]? := hfl 4 _ rfl
  rw [z4] at g4; try simp only [List.drop_succ_cons, List.drop_zero, List.take_succ_cons, List.take_zero] at g4
  rw [List.getElem?_eq_getElem (by omega)] at g4
  have z5 : Try.prog.cellsOf 32 = 7 := by kernel_rfl
  have g5 : DataW.trod enc Try.prog w base (fun _ => true) held n' 32 ((([c0, c1, c2, c3, c4, c5, c6, c7, c8, c9, c10, c11, c12, c13, c14, c15, c16, c17, c18, c19] : List Value).drop 13).take (Try.prog.cellsOf 32)) = ys[5]? := hfl 5 _ rfl
  rw [z5] at g5; try simp only [List.drop_succ_cons, List.drop_zero, List.take_succ_cons, List.take_zero] at g5
  rw [List.getElem?_eq_getElem (by omega)] at g5
  obtain ⟨m, em⟩ := map_cells rfl g0
  obtain ⟨x1, e1, -, w1⟩ := DataW.trod_int Try.underlying3 g1
  obtain rfl := List.singleton_inj.1 e1
  obtain ⟨x2, e2, -⟩ := DataW.trod_bool Try.underlying4 g2
  obtain rfl := List.singleton_inj.1 e2
  obtain ⟨x3, e3, -⟩ := DataW.trod_bool Try.underlying4 g3
  obtain rfl := List.singleton_inj.1 e3
  obtain ⟨r, er⟩ := rect_cells rfl g4
  obtain ⟨kk, WW, HH, pp, iw, ih, A, l, c, el, hp, r1, r2, r3, r4⟩ := look_cells rfl g5
  unfold Mp.cs at em
  unfold Bx.cs at er
  simp only [List.cons.injEq, and_true] at em er el
  obtain ⟨rfl, rfl, rfl, rfl, rfl, rfl⟩ := em
  obtain ⟨rfl, rfl, rfl, rfl⟩ := er
  obtain ⟨rfl, rfl, rfl, rfl, rfl, rfl, rfl⟩ := el
  exact ⟨m, x1, x2, x3, r, kk, WW, HH, pp, iw, ih, A, l, c, rfl, hp, r1, r2, r3, r4⟩
end
section
variable {H : Type} {enc : TypeId × Value → H} {w : World} {base b0 : Nat} {held : Bool} {r : Reach} {v : Value} {d : DataW H} {p : List MemPlace}
theorem node_of (hv : Value.okWide Try.prog w r b0 34 v) (h : DataW.Trod enc Try.prog w base (fun _ => true) held 34 v d p) :
    ∃ (m : Mp) (op : Int) (hi cl : Bool) (r : Bx) (kk WW HH : Int) (pp : Nat) (iw ih : Int) (A : Option Addr) (l : List Nat) (c : Nat), v = ndV m op hi cl r kk WW HH pp iw ih A l.length c ∧ pp < 4294967296 ∧ Row eW w A l ∧ l.length ≤ c ∧ c ≤ maxLen ∧ ∀ z ∈ l, z < 4294967296 := by
  obtain ⟨cs, rfl, hsz⟩ := okWide_struct Try.underlying34 hv
  obtain ⟨fuel, hf⟩ := h
  have hl : cs.toList.length = 20 := by rw [Array.length_toList, hsz]; kernel_rfl
  obtain ⟨m, op, hi, cl, r, kk, WW, HH, pp, iw, ih, A, l, c, e, h1⟩ := node_cells hl hf
  exact ⟨m, op, hi, cl, r, kk, WW, HH, pp, iw, ih, A, l, c, by rw [e, Array.toArray_toList], h1⟩
end
end Go.Proofs.Ytfmlecjobpdbbaa
