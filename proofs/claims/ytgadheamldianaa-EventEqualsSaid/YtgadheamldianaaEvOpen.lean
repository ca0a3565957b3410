/-
  What arguments give: ops, events; how many there can be.
-/
import Derived.Test.YtgadheamldianaaScBase
import Derived.Test.YtgadheamldianaaEvO
import Derived.Deep.Slices
import Derived.SizedLaws
namespace Go.Proofs.Ytgadheamldianaa
open Go.RowKit Go.ChangeShapes Go.WideShapes Go.ChangeAt Go.Deep pxm imm

section
variable {H : Type} {enc : TypeId × Value → H} {w : World} {base : Nat} {held : Bool} {k : Nat}
/-- pixels -/
theorem px_cell {x : Value} {y : DataW H × List MemPlace} (h : DataW.trod enc Try.prog w base (fun _ => true) held k 46 [x] = some y) : ∃ (A : Option Addr) (l : List Nat) (c : Nat), x = .slice A l.length c ∧ Row eW w A l ∧ l.length ≤ c ∧ c ≤ maxLen ∧ ∀ z ∈ l, z < 4294967296 := by
  rcases open_ints Try.underlying46 Try.underlying45 (by kernel_rfl) h with ⟨hcs, _⟩ | ⟨a, l, c, zs, hcs, _, hl, hm, hz, _, hcell, hwz⟩
  · obtain rfl := List.singleton_inj.1 hcs
    exact ⟨none, [], 0, rfl, Row.none_ rfl, Nat.le_refl _, by unfold maxLen; omega, fun z hz => by cases hz⟩
  · obtain rfl := List.singleton_inj.1 hcs
    have hzl : zs.length = c := by simpa using hz
    have hb : ∀ z ∈ zs, 0 ≤ z ∧ z ≤ 4294967295 := fun z hz => bounds_u32 (hwz z hz)
    have hll : ((zs.take l).map Int.toNat).length = l := by simp; omega
    refine ⟨some a, (zs.take l).map Int.toNat, c, by rw [hll], fun hn => ?_, by rw [hll]; exact hl, hm, fun z hz => ?_⟩
    · rw [hll] at hn
      obtain ⟨b, off, spot⟩ := a
      have h0 := hcell 0 (by omega)
      have hspot : spot = none := by simpa [Addr.add] using World.cell?_spot h0
      subst hspot
      refine ⟨b, off, rfl, fun j hj => ?_⟩
      rw [hll] at hj
      have hc := hcell j (by omega)
      rw [add_none] at hc
      rw [hc]
      have hj' : j < zs.length := by omega
      have h3 := hb zs[j] (List.getElem_mem hj')
      simp only [List.getElem_map, List.getElem_take, List.getD_eq_getElem?_getD, List.getElem?_eq_getElem hj', Option.getD_some, eW, Option.some.injEq, Value.int.injEq, true_and]
      omega
    · simp only [List.mem_map] at hz
      obtain ⟨y, hy, rfl⟩ := hz
      have := hb y (List.mem_of_mem_take hy)
      omega
set_option maxRecDepth 100000 in
theorem map_cells {cs : List Value} {y : DataW H × List MemPlace} (hc : cs.length = 6) (h : DataW.trod enc Try.prog w base (fun _ => true) held k 41 cs = some y) : ∃ m : Mp, cs = m.cs := by
  obtain ⟨c0, c1, c2, c3, c4, c5, rfl⟩ : ∃ c0 c1 c2 c3 c4 c5, cs = [c0, c1, c2, c3, c4, c5] := by
    match cs, hc with
    | [c0, c1, c2, c3, c4, c5], _ => exact ⟨_, _, _, _, _, _, rfl⟩
  obtain ⟨d, p⟩ := y
  obtain ⟨ys, n', _, hy, hlen, hyl, hfl⟩ := DataW.trod_struct Try.underlying41 h
  have hyl2 : ys.length = 6 := hyl
  have z0 : Try.prog.cellsOf 2 = 1 := by kernel_rfl
  have g0 : DataW.trod enc Try.prog w base (fun _ => true) held n' 2 ((([c0, c1, c2, c3, c4, c5] : List Value).drop 0).take (Try.prog.cellsOf 2)) = ys[0]? := hfl 0 _ rfl
  rw [z0] at g0; try simp only [List.drop_zero, List.take_succ_cons, List.take_zero] at g0
  rw [List.getElem?_eq_getElem (by omega)] at g0
  have z1 : Try.prog.cellsOf 2 = 1 := by kernel_rfl
  have g1 : DataW.trod enc Try.prog w base (fun _ => true) held n' 2 ((([c0, c1, c2, c3, c4, c5] : List Value).drop 1).take (Try.prog.cellsOf 2)) = ys[1]? := hfl 1 _ rfl
  rw [z1] at g1; try simp only [List.drop_succ_cons, List.drop_zero, List.take_succ_cons, List.take_zero] at g1
  rw [List.getElem?_eq_getElem (by omega)] at g1
  have z2 : Try.prog.cellsOf 2 = 1 := by kernel_rfl
  have g2 : DataW.trod enc Try.prog w base (fun _ => true) held n' 2 ((([c0, c1, c2, c3, c4, c5] : List Value).drop 2).take (Try.prog.cellsOf 2)) = ys[2]? := hfl 2 _ rfl
  rw [z2] at g2; try simp only [List.drop_succ_cons, List.drop_zero, List.take_succ_cons, List.take_zero] at g2
  rw [List.getElem?_eq_getElem (by omega)] at g2
  have z3 : Try.prog.cellsOf 2 = 1 := by kernel_rfl
  have g3 : DataW.trod enc Try.prog w base (fun _ => true) held n' 2 ((([c0, c1, c2, c3, c4, c5] : List Value).drop 3).take (Try.prog.cellsOf 2)) = ys[3]? := hfl 3 _ rfl
  rw [z3] at g3; try simp only [List.drop_succ_cons, List.drop_zero, List.take_succ_cons, List.take_zero] at g3
  rw [List.getElem?_eq_getElem (by omega)] at g3
  have z4 : Try.prog.cellsOf 2 = 1 := by kernel_rfl
  have g4 : DataW.trod enc Try.prog w base (fun _ => true) held n' 2 ((([c0, c1, c2, c3, c4, c5] : List Value).drop 4).take (Try.prog.cellsOf 2)) = ys[4]? := hfl 4 _ rfl
  rw [z4] at g4; try simp only [List.drop_succ_cons, List.drop_zero, List.take_succ_cons, List.take_zero] at g4
  rw [List.getElem?_eq_getElem (by omega)] at g4
  have z5 : Try.prog.cellsOf 2 = 1 := by kernel_rfl
  have g5 : DataW.trod enc Try.prog w base (fun _ => true) held n' 2 ((([c0, c1, c2, c3, c4, c5] : List Value).drop 5).take (Try.prog.cellsOf 2)) = ys[5]? := hfl 5 _ rfl
  rw [z5] at g5; try simp only [List.drop_succ_cons, List.drop_zero, List.take_succ_cons, List.take_zero] at g5
  rw [List.getElem?_eq_getElem (by omega)] at g5
  obtain ⟨x0, e0, -, w0⟩ := DataW.trod_int Try.underlying2 g0
  obtain rfl := List.singleton_inj.1 e0
  obtain ⟨x1, e1, -, w1⟩ := DataW.trod_int Try.underlying2 g1
  obtain rfl := List.singleton_inj.1 e1
  obtain ⟨x2, e2, -, w2⟩ := DataW.trod_int Try.underlying2 g2
  obtain rfl := List.singleton_inj.1 e2
  obtain ⟨x3, e3, -, w3⟩ := DataW.trod_int Try.underlying2 g3
  obtain rfl := List.singleton_inj.1 e3
  obtain ⟨x4, e4, -, w4⟩ := DataW.trod_int Try.underlying2 g4
  obtain rfl := List.singleton_inj.1 e4
  obtain ⟨x5, e5, -, w5⟩ := DataW.trod_int Try.underlying2 g5
  obtain rfl := List.singleton_inj.1 e5
  exact ⟨⟨x0, x1, x2, x3, x4, x5⟩, rfl⟩
set_option maxRecDepth 100000 in
theorem rect_cells {cs : List Value} {y : DataW H × List MemPlace} (hc : cs.length = 4) (h : DataW.trod enc Try.prog w base (fun _ => true) held k 43 cs = some y) : ∃ m : Bx, cs = m.cs := by
  obtain ⟨c0, c1, c2, c3, rfl⟩ : ∃ c0 c1 c2 c3, cs = [c0, c1, c2, c3] := by
    match cs, hc with
    | [c0, c1, c2, c3], _ => exact ⟨_, _, _, _, rfl⟩
  obtain ⟨d, p⟩ := y
  obtain ⟨ys, n', _, hy, hlen, hyl, hfl⟩ := DataW.trod_struct Try.underlying43 h
  have hyl2 : ys.length = 4 := hyl
  have z0 : Try.prog.cellsOf 3 = 1 := by kernel_rfl
  have g0 : DataW.trod enc Try.prog w base (fun _ => true) held n' 3 ((([c0, c1, c2, c3] : List Value).drop 0).take (Try.prog.cellsOf 3)) = ys[0]? := hfl 0 _ rfl
  rw [z0] at g0; try simp only [List.drop_zero, List.take_succ_cons, List.take_zero] at g0
  rw [List.getElem?_eq_getElem (by omega)] at g0
  have z1 : Try.prog.cellsOf 3 = 1 := by kernel_rfl
  have g1 : DataW.trod enc Try.prog w base (fun _ => true) held n' 3 ((([c0, c1, c2, c3] : List Value).drop 1).take (Try.prog.cellsOf 3)) = ys[1]? := hfl 1 _ rfl
  rw [z1] at g1; try simp only [List.drop_succ_cons, List.drop_zero, List.take_succ_cons, List.take_zero] at g1
  rw [List.getElem?_eq_getElem (by omega)] at g1
  have z2 : Try.prog.cellsOf 3 = 1 := by kernel_rfl
  have g2 : DataW.trod enc Try.prog w base (fun _ => true) held n' 3 ((([c0, c1, c2, c3] : List Value).drop 2).take (Try.prog.cellsOf 3)) = ys[2]? := hfl 2 _ rfl
  rw [z2] at g2; try simp only [List.drop_succ_cons, List.drop_zero, List.take_succ_cons, List.take_zero] at g2
  rw [List.getElem?_eq_getElem (by omega)] at g2
  have z3 : Try.prog.cellsOf 3 = 1 := by kernel_rfl
  have g3 : DataW.trod enc Try.prog w base (fun _ => true) held n' 3 ((([c0, c1, c2, c3] : List Value).drop 3).take (Try.prog.cellsOf 3)) = ys[3]? := hfl 3 _ rfl
  rw [z3] at g3; try simp only [List.drop_succ_cons, List.drop_zero, List.take_succ_cons, List.take_zero] at g3
  rw [List.getElem?_eq_getElem (by omega)] at g3
  obtain ⟨x0, e0, -, w0⟩ := DataW.trod_int Try.underlying3 g0
  obtain rfl := List.singleton_inj.1 e0
  obtain ⟨x1, e1, -, w1⟩ := DataW.trod_int Try.underlying3 g1
  obtain rfl := List.singleton_inj.1 e1
  obtain ⟨x2, e2, -, w2⟩ := DataW.trod_int Try.underlying3 g2
  obtain rfl := List.singleton_inj.1 e2
  obtain ⟨x3, e3, -, w3⟩ := DataW.trod_int Try.underlying3 g3
  obtain rfl := List.singleton_inj.1 e3
  exact ⟨⟨x0, x1, x2, x3⟩, rfl⟩
set_option maxRecDepth 100000 in
theorem image_cells {cs : List Value} {y : DataW H × List MemPlace} (hc : cs.length = 3) (h : DataW.trod enc Try.prog w base (fun _ => true) held k 48 cs = some y) : ∃ (iw ih : Int) (A : Option Addr) (l : List Nat) (c : Nat), cs = [.int .i64 iw, .int .i64 ih, .slice A l.length c] ∧ Row eW w A l ∧ l.length ≤ c ∧ c ≤ maxLen ∧ ∀ z ∈ l, z < 4294967296 := by
  obtain ⟨c0, c1, c2, rfl⟩ : ∃ c0 c1 c2, cs = [c0, c1, c2] := by
    match cs, hc with
    | [c0, c1, c2], _ => exact ⟨_, _, _, rfl⟩
  obtain ⟨d, p⟩ := y
  obtain ⟨ys, n', _, hy, hlen, hyl, hfl⟩ := DataW.trod_struct Try.underlying48 h
  have hyl2 : ys.length = 3 := hyl
  have z0 : Try.prog.cellsOf 3 = 1 := by kernel_rfl
  have g0 : DataW.trod enc Try.prog w base (fun _ => true) held n' 3 ((([c0, c1, c2] : List Value).drop 0).take (Try.prog.cellsOf 3)) = ys[0]? := hfl 0 _ rfl
  rw [z0] at g0; try simp only [List.drop_zero, List.take_succ_cons, List.take_zero] at g0
  rw [List.getElem?_eq_getElem (by omega)] at g0
  have z1 : Try.prog.cellsOf 3 = 1 := by kernel_rfl
  have g1 : DataW.trod enc Try.prog w base (fun _ => true) held n' 3 ((([c0, c1, c2] : List Value).drop 1).take (Try.prog.cellsOf 3)) = ys[1]? := hfl 1 _ rfl
  rw [z1] at g1; try simp only [List.drop_succ_cons, List.drop_zero, List.take_succ_cons, List.take_zero] at g1
  rw [List.getElem?_eq_getElem (by omega)] at g1
  have z2 : Try.prog.cellsOf 46 = 1 := by kernel_rfl
  have g2 : DataW.trod enc Try.prog w base (fun _ => true) held n' 46 ((([c0, c1, c2] : List Value).drop 2).take (Try.prog.cellsOf 46)) = ys[2]? := hfl 2 _ rfl
  rw [z2] at g2; try simp only [List.drop_succ_cons, List.drop_zero, List.take_succ_cons, List.take_zero] at g2
  rw [List.getElem?_eq_getElem (by omega)] at g2
  obtain ⟨x0, e0, -, w0⟩ := DataW.trod_int Try.underlying3 g0
  obtain rfl := List.singleton_inj.1 e0
  obtain ⟨x1, e1, -, w1⟩ := DataW.trod_int Try.underlying3 g1
  obtain rfl := List.singleton_inj.1 e1
  obtain ⟨A, l, c, rfl, r1, r2, r3, r4⟩ := px_cell g2
  exact ⟨x0, x1, A, l, c, rfl, r1, r2, r3, r4⟩
set_option maxRecDepth 100000 in
theorem look_cells {cs : List Value} {y : DataW H × List MemPlace} (hc : cs.length = 7) (h : DataW.trod enc Try.prog w base (fun _ => true) held k 50 cs = some y) : ∃ (kk WW HH : Int) (pp : Nat) (iw ih : Int) (A : Option Addr) (l : List Nat) (c : Nat), cs = [.int .i64 kk, .int .i64 WW, .int .i64 HH, .int .u32 (pp : Nat), .int .i64 iw, .int .i64 ih, .slice A l.length c] ∧ pp < 4294967296 ∧ Row eW w A l ∧ l.length ≤ c ∧ c ≤ maxLen ∧ ∀ z ∈ l, z < 4294967296 := by
  obtain ⟨c0, c1, c2, c3, c4, c5, c6, rfl⟩ : ∃ c0 c1 c2 c3 c4 c5 c6, cs = [c0, c1, c2, c3, c4, c5, c6] := by
    match cs, hc with
    | [c0, c1, c2, c3, c4, c5, c6], _ => exact ⟨_, _, _, _, _, _, _, rfl⟩
  obtain ⟨d, p⟩ := y
  obtain ⟨ys, n', _, hy, hlen, hyl, hfl⟩ := DataW.trod_struct Try.underlying50 h
  have hyl2 : ys.length = 5 := hyl
  have z0 : Try.prog.cellsOf 3 = 1 := by kernel_rfl
  have g0 : DataW.trod enc Try.prog w base (fun _ => true) held n' 3 ((([c0, c1, c2, c3, c4, c5, c6] : List Value).drop 0).take (Try.prog.cellsOf 3)) = ys[0]? := hfl 0 _ rfl
  rw [z0] at g0; try simp only [List.drop_zero, List.take_succ_cons, List.take_zero] at g0
  rw [List.getElem?_eq_getElem (by omega)] at g0
  have z1 : Try.prog.cellsOf 3 = 1 := by kernel_rfl
  have g1 : DataW.trod enc Try.prog w base (fun _ => true) held n' 3 ((([c0, c1, c2, c3, c4, c5, c6] : List Value).drop 1).take (Try.prog.cellsOf 3)) = ys[1]? := hfl 1 _ rfl
  rw [z1] at g1; try simp only [List.drop_succ_cons, List.drop_zero, List.take_succ_cons, List.take_zero] at g1
  rw [List.getElem?_eq_getElem (by omega)] at g1
  have z2 : Try.prog.cellsOf 3 = 1 := by kernel_rfl
  have g2 : DataW.trod enc Try.prog w base (fun _ => true) held n' 3 ((([c0, c1, c2, c3, c4, c5, c6] : List Value).drop 2).take (Try.prog.cellsOf 3)) = ys[2]? := hfl 2 _ rfl
  rw [z2] at g2; try simp only [List.drop_succ_cons, List.drop_zero, List.take_succ_cons, List.take_zero] at g2
  rw [List.getElem?_eq_getElem (by omega)] at g2
  have z3 : Try.prog.cellsOf 45 = 1 := by kernel_rfl
  have g3 : DataW.trod enc Try.prog w base (fun _ => true) held n' 45 ((([c0, c1, c2, c3, c4, c5, c6] : List Value).drop 3).take (Try.prog.cellsOf 45)) = ys[3]? := hfl 3 _ rfl
  rw [z3] at g3; try simp only [List.drop_succ_cons, List.drop_zero, List.take_succ_cons, List.take_zero] at g3
  rw [List.getElem?_eq_getElem (by omega)] at g3
  have z4 : Try.prog.cellsOf 48 = 3 := by kernel_rfl
  have g4 : DataW.trod enc Try.prog w base (fun _ => true) held n' 48 ((([c0, c1, c2, c3, c4, c5, c6] : List Value).drop 4).take (Try.prog.cellsOf 48)) = ys[4]? := hfl 4 _ rfl
  rw [z4] at g4; try simp only [List.drop_succ_cons, List.drop_zero, List.take_succ_cons, List.take_zero] at g4
  rw [List.getElem?_eq_getElem (by omega)] at g4
  obtain ⟨x0, e0, -, w0⟩ := DataW.trod_int Try.underlying3 g0
  obtain rfl := List.singleton_inj.1 e0
  obtain ⟨x1, e1, -, w1⟩ := DataW.trod_int Try.underlying3 g1
  obtain rfl := List.singleton_inj.1 e1
  obtain ⟨x2, e2, -, w2⟩ := DataW.trod_int Try.underlying3 g2
  obtain rfl := List.singleton_inj.1 e2
  obtain ⟨x3, e3, -, w3⟩ := DataW.trod_int Try.underlying45 g3
  obtain rfl := List.singleton_inj.1 e3
  have b3 := bounds_u32 w3
  obtain ⟨iw, ih, A, l, c, ei, r1, r2, r3, r4⟩ := image_cells rfl g4
  simp only [List.cons.injEq, and_true] at ei
  obtain ⟨rfl, rfl, rfl⟩ := ei
  obtain ⟨pp, rfl⟩ : ∃ pp : Nat, x3 = (pp : Nat) := ⟨x3.toNat, by omega⟩
  exact ⟨x0, x1, x2, pp, iw, ih, A, l, c, rfl, by omega, r1, r2, r3, r4⟩
set_option maxRecDepth 100000 in
theorem op_cells {cs : List Value} {y : DataW H × List MemPlace} (hc : cs.length = 23) (h : DataW.trod enc Try.prog w base (fun _ => true) held k 52 cs = some y) : ∃ q : OpR, cs = q.cs ∧ Row eW w q.A q.o.lk.l ∧ OpRaw q.o := by
  obtain ⟨c0, c1, c2, c3, c4, c5, c6, c7, c8, c9, c10, c11, c12, c13, c14, c15, c16, c17, c18, c19, c20, c21, c22, rfl⟩ : ∃ c0 c1 c2 c3 c4 c5 c6 c7 c8 c9 c10 c11 c12 c13 c14 c15 c16 c17 c18 c19 c20 c21 c22, cs = [c0, c1, c2, c3, c4, c5, c6, c7, c8, c9, c10, c11, c12, c13, c14, c15, c16, c17, c18, c19, c20, c21, c22] := by
    match cs, hc with
    | [c0, c1, c2, c3, c4, c5, c6, c7, c8, c9, c10, c11, c12, c13, c14, c15, c16, c17, c18, c19, c20, c21, c22], _ => exact ⟨_, _, _, _, _, _, _, _, _, _, _, _, _, _, _, _, _, _, _, _, _, _, _, rfl⟩
  obtain ⟨d, p⟩ := y
  obtain ⟨ys, n', _, hy, hlen, hyl, hfl⟩ := DataW.trod_struct Try.underlying52 h
  have hyl2 : ys.length = 9 := hyl
  have z0 : Try.prog.cellsOf 3 = 1 := by kernel_rfl
  have g0 : DataW.trod enc Try.prog w base (fun _ => true) held n' 3 ((([c0, c1, c2, c3, c4, c5, c6, c7, c8, c9, c10, c11, c12, c13, c14, c15, c16, c17, c18, c19, c20, c21, c22] : List Value).drop 0).take (Try.prog.cellsOf 3)) = ys[0]? := hfl 0 _ rfl
  rw [z0] at g0; try simp only [List.drop_zero, List.take_succ_cons, List.take_zero] at g0
  rw [List.getElem?_eq_getElem (by omega)] at g0
  have z1 : Try.prog.cellsOf 3 = 1 := by kernel_rfl
  have g1 : DataW.trod enc Try.prog w base (fun _ => true) held n' 3 ((([c0, c1, c2, c3, c4, c5, c6, c7, c8, c9, c10, c11, c12, c13, c14, c15, c16, c17, c18, c19, c20, c21, c22] : List Value).drop 1).take (Try.prog.cellsOf 3)) = ys[1]? := hfl 1 _ rfl
  rw [z1] at g1; try simp only [List.drop_succ_cons, List.drop_zero, List.take_succ_cons, List.take_zero] at g1
  rw [List.getElem?_eq_getElem (by omega)] at g1
  have z2 : Try.prog.cellsOf 3 = 1 := by kernel_rfl
  have g2 : DataW.trod enc Try.prog w base (fun _ => true) held n' 3 ((([c0, c1, c2, c3, c4, c5, c6, c7, c8, c9, c10, c11, c12, c13, c14, c15, c16, c17, c18, c19, c20, c21, c22] : List Value).drop 2).take (Try.prog.cellsOf 3)) = ys[2]? := hfl 2 _ rfl
  rw [z2] at g2; try simp only [List.drop_succ_cons, List.drop_zero, List.take_succ_cons, List.take_zero] at g2
  rw [List.getElem?_eq_getElem (by omega)] at g2
  have z3 : Try.prog.cellsOf 3 = 1 := by kernel_rfl
  have g3 : DataW.trod enc Try.prog w base (fun _ => true) held n' 3 ((([c0, c1, c2, c3, c4, c5, c6, c7, c8, c9, c10, c11, c12, c13, c14, c15, c16, c17, c18, c19, c20, c21, c22] : List Value).drop 3).take (Try.prog.cellsOf 3)) = ys[3]? := hfl 3 _ rfl
  rw [z3] at g3; try simp only [List.drop_succ_cons, List.drop_zero, List.take_succ_cons, List.take_zero] at g3
  rw [List.getElem?_eq_getElem (by omega)] at g3
  have z4 : Try.prog.cellsOf 41 = 6 := by kernel_rfl
  have g4 : DataW.trod enc Try.prog w base (fun _ => true) held n' 41 ((([c0, c1, c2, c3, c4, c5, c6, c7, c8, c9, c10, c11, c12, c13, c14, c15, c16, c17, c18, c19, c20, c21, c22] : List Value).drop 4).take (Try.prog.cellsOf 41)) = ys[4]? := hfl 4 _ rfl
  rw [z4] at g4; try simp only [List.drop_succ_cons, List.drop_zero, List.take_succ_cons, List.take_zero] at g4
  rw [List.getElem?_eq_getElem (by omega)] at g4
  have z5 : Try.prog.cellsOf 43 = 4 := by kernel_rfl
  have g5 : DataW.trod enc Try.prog w base (fun _ => true) held n' 43 ((([c0, c1, c2, c3, c4, c5, c6, c7, c8, c9, c10, c11, c12, c13, c14, c15, c16, c17, c18, c19, c20, c21, c22] : List Value).drop 10).take (Try.prog.cellsOf 43)) = ys[5]? := hfl 5 _ rfl
  rw [z5] at g5; try simp only [List.drop_succ_cons, List.drop_zero, List.take_succ_cons, List.take_zero] at g5
  rw [List.getElem?_eq_getElem (by omega)] at g5
  have z6 : Try.prog.cellsOf 4 = 1 := by kernel_rfl
  have g6 : DataW.trod enc Try.prog w base (fun _ => true) held n' 4 ((([c0, c1, c2, c3, c4, c5, c6, c7, c8, c9, c10, c11, c12, c13, c14, c15, c16, c17, c18, c19, c20, c21, c22] : List Value).drop 14).take (Try.prog.cellsOf 4)) = ys[6]? := hfl 6 _ rfl
  rw [z6] at g6; try simp only [List.drop_succ_cons, List.drop_zero, List.take_succ_cons, List.take_zero] at g6
  rw [List.getElem?_eq_getElem (by omega)] at g6
  have z7 : Try.prog.cellsOf 3 = 1 := by kernel_rfl
  have g7 : DataW.trod enc Try.prog w base (fun _ => true) held n' 3 ((([c0, c1, c2, c3, c4, c5, c6, c7, c8, c9, c10, c11, c12, c13, c14, c15, c16, c17, c18, c19, c20, c21, c22] : List Value).drop 15).take (Try.prog.cellsOf 3)) = ys[7]? := hfl 7 _ rfl
  rw [z7] at g7; try simp only [List.drop_succ_cons, List.drop_zero, List.take_succ_cons, List.take_zero] at g7
  rw [List.getElem?_eq_getElem (by omega)] at g7
  have z8 : Try.prog.cellsOf 50 = 7 := by kernel_rfl
  have g8 : DataW.trod enc Try.prog w base (fun _ => true) held n' 50 ((([c0, c1, c2, c3, c4, c5, c6, c7, c8, c9, c10, c11, c12, c13, c14, c15, c16, c17, c18, c19, c20, c21, c22] : List Value).drop 16).take (Try.prog.cellsOf 50)) = ys[8]? := hfl 8 _ rfl
  rw [z8] at g8; try simp only [List.drop_succ_cons, List.drop_zero, List.take_succ_cons, List.take_zero] at g8
  rw [List.getElem?_eq_getElem (by omega)] at g8
  obtain ⟨x0, e0, -, w0⟩ := DataW.trod_int Try.underlying3 g0
  obtain rfl := List.singleton_inj.1 e0
  obtain ⟨x1, e1, -, w1⟩ := DataW.trod_int Try.underlying3 g1
  obtain rfl := List.singleton_inj.1 e1
  obtain ⟨x2, e2, -, w2⟩ := DataW.trod_int Try.underlying3 g2
  obtain rfl := List.singleton_inj.1 e2
  obtain ⟨x3, e3, -, w3⟩ := DataW.trod_int Try.underlying3 g3
  obtain rfl := List.singleton_inj.1 e3
  obtain ⟨x7, e7, -, w7⟩ := DataW.trod_int Try.underlying3 g7
  obtain rfl := List.singleton_inj.1 e7
  obtain ⟨m, em⟩ := map_cells rfl g4
  obtain ⟨r, er⟩ := rect_cells rfl g5
  obtain ⟨x6, e6, -⟩ := DataW.trod_bool Try.underlying4 g6
  obtain rfl := List.singleton_inj.1 e6
  obtain ⟨kk, WW, HH, pp, iw, ih, A, l, c, el, hp, r1, r2, r3, r4⟩ := look_cells rfl g8
  unfold Mp.cs at em
  unfold Bx.cs at er
  simp only [List.cons.injEq, and_true] at em er el
  obtain ⟨rfl, rfl, rfl, rfl, rfl, rfl⟩ := em
  obtain ⟨rfl, rfl, rfl, rfl⟩ := er
  obtain ⟨rfl, rfl, rfl, rfl, rfl, rfl, rfl⟩ := el
  exact ⟨⟨⟨x0, x1, x2, x3, m, r, x6, x7, ⟨kk, WW, HH, pp, iw, ih, l⟩⟩, A, c⟩, rfl, r1, ⟨bounds_i64 w1, bounds_i64 w2, hp, r4, Nat.le_trans r2 r3⟩⟩
/-- a slice's datum has room for as many -/
def Held (d : DataW H) (n : Nat) : Prop := n = 0 ∨ ∃ e s, d = .slice e s ∧ n ≤ e.length + s.length
set_option maxRecDepth 100000 in
theorem sops_cell {x : Value} {y : DataW H × List MemPlace} (h : DataW.trod enc Try.prog w base (fun _ => true) held k 22 [x] = some y) : ∃ (A : Option Addr) (l : List OpR) (cc : Nat), x = .slice A l.length cc ∧ OpsR w A l ∧ l.length ≤ maxLen ∧ Held y.1 l.length := by
  rcases open_slice Try.underlying22 h with ⟨hcs, _⟩ | ⟨⟨b, off, spot⟩, n, c, m, k', D, Pl, hcs, _, hl, hm, hmm, hy, hi⟩
  · obtain rfl := List.singleton_inj.1 hcs
    exact ⟨none, [], 0, rfl, ⟨fun h => absurd h (by simp), fun z hz => by cases hz⟩, by simp, .inl rfl⟩
  · obtain rfl := List.singleton_inj.1 hcs
    simp only [if_true] at hmm
    subst hmm
    have hC : Try.prog.cellsOf 52 = 23 := by kernel_rfl
    have hsp : 0 < n → spot = none := fun h0 => by
      obtain ⟨cs', hc, _⟩ := hi 0 (by omega)
      rw [hC] at hc
      obtain ⟨_, hcl, hat⟩ := World.cells?_some hc
      have a0 := hat 0 (by omega)
      rw [List.getElem?_eq_getElem (by omega)] at a0
      simpa [Addr.add] using World.cell?_spot a0
    have one : ∀ i, i < n → ∃ q : OpR, (∀ j v, q.cs[j]? = some v → w.cell? ⟨b, off + i * 23 + j, none⟩ = some v) ∧ Row eW w q.A q.o.lk.l ∧ OpRaw q.o := fun i hin => by
      obtain ⟨cs', hc, ht⟩ := hi i (by omega)
      rw [hC] at hc
      obtain ⟨_, hcl, hat⟩ := World.cells?_some hc
      obtain ⟨q, rfl, hr, ho⟩ := op_cells hcl ht
      have hspot : spot = none := hsp (by omega)
      subst hspot
      refine ⟨q, fun j v hj => ?_, hr, ho⟩
      have hlt : j < 23 := by
        have := (List.getElem?_eq_some_iff.1 hj).1
        rwa [OpR.cs_len] at this
      have a0 := hat j hlt
      rw [hj, add_none, add_none] at a0
      exact a0
    obtain ⟨xs, hxl, hxs⟩ := from_list one
    refine ⟨some ⟨b, off, spot⟩, xs, m, by rw [hxl], ⟨fun hn => ⟨b, off, by rw [hsp (by omega)], fun j hj i v hv => (hxs j hj).1 i v hv⟩, fun q hq => ?_⟩, by omega, .inr ⟨_, _, by rw [hy], by simp; omega⟩⟩
    obtain ⟨j, hj, rfl⟩ := List.mem_iff_getElem.1 hq
    exact (hxs j hj).2
/-- an event's datum has room for as many ops -/
def HeldE (d : DataW H) (n : Nat) : Prop := ∃ ds d1, d = .agg ds ∧ ds[1]? = some d1 ∧ Held d1 n
set_option maxRecDepth 100000 in
theorem ev_cells {cs : List Value} {k : Nat} {y : DataW H × List MemPlace} (hc : cs.length = 5) (h : DataW.trod enc Try.prog w base (fun _ => true) held k 25 cs = some y) :
    ∃ (kk : Int) (A : Option Addr) (l : List OpR) (c : Nat) (x1 y1 n1 : Int), cs = evl kk A l.length c x1 y1 n1 ∧ OpsR w A l ∧ HeldE y.1 l.length := by
  obtain ⟨c0, c1, c2, c3, c4, rfl⟩ : ∃ c0 c1 c2 c3 c4, cs = [c0, c1, c2, c3, c4] := by
    match cs, hc with
    | [c0, c1, c2, c3, c4], _ => exact ⟨_, _, _, _, _, rfl⟩
  obtain ⟨d, p⟩ := y
  obtain ⟨ys, n', _, hy, hlen, hyl, hfl⟩ := DataW.trod_struct Try.underlying25 h
  have hyl2 : ys.length = 5 := hyl
  have z0 : Try.prog.cellsOf 3 = 1 := by kernel_rfl
  have g0 : DataW.trod enc Try.prog w base (fun _ => true) held n' 3 ((([c0, c1, c2, c3, c4] : List Value).drop 0).take (Try.prog.cellsOf 3)) = ys[0]? := hfl 0 _ rfl
  rw [z0] at g0; try simp only [List.drop_zero, List.take_succ_cons, List.take_zero] at g0
  rw [List.getElem?_eq_getElem (by omega)] at g0
  have z1 : Try.prog.cellsOf 22 = 1 := by kernel_rfl
  have g1 : DataW.trod enc Try.prog w base (fun _ => true) held n' 22 ((([c0, c1, c2, c3, c4] : List Value).drop 1).take (Try.prog.cellsOf 22)) = ys[1]? := hfl 1 _ rfl
  rw [z1] at g1; try simp only [List.drop_succ_cons, List.drop_zero, List.take_succ_cons, List.take_zero] at g1
  rw [List.getElem?_eq_getElem (by omega)] at g1
  have z2 : Try.prog.cellsOf 3 = 1 := by kernel_rfl
  have g2 : DataW.trod enc Try.prog w base (fun _ => true) held n' 3 ((([c0, c1, c2, c3, c4] : List Value).drop 2).take (Try.prog.cellsOf 3)) = ys[2]? := hfl 2 _ rfl
  rw [z2] at g2; try simp only [List.drop_succ_cons, List.drop_zero, List.take_succ_cons, List.take_zero] at g2
  rw [List.getElem?_eq_getElem (by omega)] at g2
  have z3 : Try.prog.cellsOf 3 = 1 := by kernel_rfl
  have g3 : DataW.trod enc Try.prog w base (fun _ => true) held n' 3 ((([c0, c1, c2, c3, c4] : List Value).drop 3).take (Try.prog.cellsOf 3)) = ys[3]? := hfl 3 _ rfl
  rw [z3] at g3; try simp only [List.drop_succ_cons, List.drop_zero, List.take_succ_cons, List.take_zero] at g3
  rw [List.getElem?_eq_getElem (by omega)] at g3
  have z4 : Try.prog.cellsOf 23 = 1 := by kernel_rfl
  have g4 : DataW.trod enc Try.prog w base (fun _ => true) held n' 23 ((([c0, c1, c2, c3, c4] : List Value).drop 4).take (Try.prog.cellsOf 23)) = ys[4]? := hfl 4 _ rfl
  rw [z4] at g4; try simp only [List.drop_succ_cons, List.drop_zero, List.take_succ_cons, List.take_zero] at g4
  rw [List.getElem?_eq_getElem (by omega)] at g4
  obtain ⟨x0, e0, -, w0⟩ := DataW.trod_int Try.underlying3 g0
  obtain rfl := List.singleton_inj.1 e0
  obtain ⟨x2, e2, -, w2⟩ := DataW.trod_int Try.underlying3 g2
  obtain rfl := List.singleton_inj.1 e2
  obtain ⟨x3, e3, -, w3⟩ := DataW.trod_int Try.underlying3 g3
  obtain rfl := List.singleton_inj.1 e3
  obtain ⟨x4, e4, -, w4⟩ := DataW.trod_int Try.underlying23 g4
  obtain rfl := List.singleton_inj.1 e4
  obtain ⟨A, l, c, rfl, ho, hm, hh⟩ := sops_cell g1
  refine ⟨x0, A, l, c, x2, x3, x4, rfl, ho, _, ys[1].1, (congrArg Prod.fst hy), ?_, hh⟩
  rw [List.getElem?_map, List.getElem?_eq_getElem (by omega)]
  rfl
/-- transactions, whatever their sizes -/
structure TrRaw (w : World) (A : Option Addr) (L : List OpL) : Prop where
  row : SRow 1 OpL.cs w A L
  ops : ∀ q ∈ L, OpsR w q.A q.l
set_option maxRecDepth 100000 in
theorem sopss_cell {x : Value} {y : DataW H × List MemPlace} (h : DataW.trod enc Try.prog w base (fun _ => true) held k 27 [x] = some y) : ∃ (A : Option Addr) (L : List OpL) (cc : Nat), x = .slice A L.length cc ∧ TrRaw w A L ∧ L.length ≤ maxLen ∧
    (L = [] ∨ ∃ e s, y.1 = .slice e s ∧ L.length ≤ e.length + s.length ∧ ∀ q ∈ L, ∃ d ∈ e, Held d q.l.length) := by
  rcases open_slice Try.underlying27 h with ⟨hcs, _⟩ | ⟨⟨b, off, spot⟩, n, c, m, k', D, Pl, hcs, _, hl, hm, hmm, hy, hi⟩
  · obtain rfl := List.singleton_inj.1 hcs
    exact ⟨none, [], 0, rfl, ⟨fun h => absurd h (by simp), fun z hz => by cases hz⟩, by simp, .inl rfl⟩
  · obtain rfl := List.singleton_inj.1 hcs
    simp only [if_true] at hmm
    subst hmm
    have hC : Try.prog.cellsOf 22 = 1 := by kernel_rfl
    have hsp : 0 < n → spot = none := fun h0 => by
      obtain ⟨cs', hc, _⟩ := hi 0 (by omega)
      rw [hC] at hc
      obtain ⟨_, hcl, hat⟩ := World.cells?_some hc
      have a0 := hat 0 (by omega)
      rw [List.getElem?_eq_getElem (by omega)] at a0
      simpa [Addr.add] using World.cell?_spot a0
    have one : ∀ i, i < n → ∃ q : OpL, w.cell? ⟨b, off + i, none⟩ = some (.slice q.A q.l.length q.c) ∧ OpsR w q.A q.l ∧ Held (D i) q.l.length := fun i hin => by
      obtain ⟨cs', hc, ht⟩ := hi i (by omega)
      rw [hC] at hc
      obtain ⟨_, hcl, hat⟩ := World.cells?_some hc
      obtain ⟨c0, rfl⟩ : ∃ c0, cs' = [c0] := by
        match cs', hcl with
        | [c0], _ => exact ⟨_, rfl⟩
      obtain ⟨A, l, cc, rfl, ho, _, hh⟩ := sops_cell ht
      have hspot : spot = none := hsp (by omega)
      subst hspot
      have a0 := hat 0 (by omega)
      rw [add_none, add_none] at a0
      simp only [Nat.add_zero, Nat.mul_one] at a0
      exact ⟨⟨A, cc, l⟩, a0, ho, hh⟩
    obtain ⟨xs, hxl, hxs⟩ := from_list one
    refine ⟨some ⟨b, off, spot⟩, xs, m, by rw [hxl], ⟨fun hn => ⟨b, off, by rw [hsp (by omega)], fun j hj i v hv => ?_⟩, fun q hq => ?_⟩, by omega, .inr ⟨_, _, by rw [hy], by simp; omega, fun q hq => ?_⟩⟩
    · have hi0 : i = 0 := by
        have := (List.getElem?_eq_some_iff.1 hv).1
        rw [OpL.cs_len] at this
        omega
      subst hi0
      have e : (.slice xs[j].A xs[j].l.length xs[j].c : Value) = v := by
        have h2 := hv
        unfold OpL.cs at h2
        simpa using h2
      rw [← e]
      simpa using (hxs j hj).1
    · obtain ⟨j, hj, rfl⟩ := List.mem_iff_getElem.1 hq
      exact (hxs j hj).2.1
    · obtain ⟨j, hj, rfl⟩ := List.mem_iff_getElem.1 hq
      exact ⟨D j, List.mem_map.2 ⟨j, by simp; omega, rfl⟩, (hxs j hj).2.2⟩
end
section
variable {H : Type} {enc : TypeId × Value → H} {w : World} {base : Nat} {held : Bool} {a : Option Addr} {n c : Nat} {d : DataW H} {p : List MemPlace}
theorem sops_of (h : DataW.Trod enc Try.prog w base (fun _ => true) held 22 (.slice a n c) d p) : ∃ l : List OpR, n = l.length ∧ OpsR w a l ∧ Held d l.length := by
  obtain ⟨fuel, hf⟩ := h
  obtain ⟨A, l, cc, e, h1, h2, h3⟩ := sops_cell hf
  injection e with e1 e2 e3
  subst e1
  exact ⟨l, e2, h1, h3⟩
theorem sopss_of (h : DataW.Trod enc Try.prog w base (fun _ => true) held 27 (.slice a n c) d p) : ∃ L : List OpL, n = L.length ∧ TrRaw w a L ∧ L.length ≤ maxLen ∧
    (L = [] ∨ ∃ e s, d = .slice e s ∧ L.length ≤ e.length + s.length ∧ ∀ q ∈ L, ∃ d' ∈ e, Held d' q.l.length) := by
  obtain ⟨fuel, hf⟩ := h
  obtain ⟨A, l, cc, e, h1, h2, h3⟩ := sopss_cell hf
  injection e with e1 e2 e3
  subst e1
  exact ⟨l, e2, h1, h2, h3⟩
end
section
variable {H : Type} {enc : TypeId × Value → H} {w : World} {base b0 : Nat} {held : Bool} {r : Reach} {v : Value} {d : DataW H} {p : List MemPlace}
set_option maxRecDepth 100000 in
theorem look_of (hv : Value.okWide Try.prog w r b0 50 v) (h : DataW.Trod enc Try.prog w base (fun _ => true) held 50 v d p) :
    ∃ (q : Lk) (A : Option Addr) (c : Nat), v = .agg (q.cs A c).toArray ∧ q.p < 4294967296 ∧ Row eW w A q.l ∧ (q.l.length ≤ c ∧ c ≤ maxLen) ∧ ∀ z ∈ q.l, z < 4294967296 := by
  obtain ⟨cs, rfl, hsz⟩ := okWide_struct Try.underlying50 hv
  obtain ⟨fuel, hf⟩ := h
  have hl : cs.toList.length = 7 := by rw [Array.length_toList, hsz]; kernel_rfl
  obtain ⟨kk, WW, HH, pp, iw, ih, A, l, c, e, h1, h2, h3, h4, h5⟩ := look_cells hl hf
  exact ⟨⟨kk, WW, HH, pp, iw, ih, l⟩, A, c, by rw [← Array.toArray_toList (xs := cs), e]; rfl, h1, h2, ⟨h3, h4⟩, h5⟩
end
section
variable {H : Type} {enc : TypeId × Value → H} {w : World} {base b0 : Nat} {held : Bool} {r : Reach} {v : Value} {d : DataW H} {p : List MemPlace}
theorem two_cells {k : Nat} {c0 c1 : Value} {y : DataW H × List MemPlace} (h : DataW.trod enc Try.prog w base (fun _ => true) held k 34 [c0, c1] = some y) :
    ∃ z0 z1 n, DataW.trod enc Try.prog w base (fun _ => true) held n 3 [c0] = some z0 ∧ DataW.trod enc Try.prog w base (fun _ => true) held n 3 [c1] = some z1 := by
  have hce : Try.prog.cellsOf 3 = 1 := by kernel_rfl
  cases k with
  | zero => simp [DataW.trod] at h
  | succ n =>
    unfold DataW.trod at h
    rw [Try.underlying34] at h
    have r2 : List.range 2 = [0, 1] := rfl
    simp [r2, hce] at h
    obtain ⟨_, h⟩ := h
    cases h0 : DataW.trod enc Try.prog w base (fun _ => true) held n 3 [c0] with
    | none => rw [h0] at h; simp at h
    | some z0 =>
      cases h1 : DataW.trod enc Try.prog w base (fun _ => true) held n 3 [c1] with
      | none => rw [h0, h1] at h; simp at h
      | some z1 => exact ⟨z0, z1, n, h0, h1⟩
theorem arr2_of (hv : Value.okWide Try.prog w r b0 34 v) (h : DataW.Trod enc Try.prog w base (fun _ => true) held 34 v d p) : ∃ x : Int × Int, v = .agg #[.int .i64 x.1, .int .i64 x.2] := by
  obtain ⟨cs, rfl, hsz, _⟩ : ∃ cs, v = .agg cs ∧ cs.size = Try.prog.cellsOf 34 ∧ Row.okWide Try.prog w r b0 34 cs := by
    simpa [Value.okWide, Try.underlying34] using hv
  obtain ⟨fuel, hf⟩ := h
  have hl : cs.toList.length = 2 := by rw [Array.length_toList, hsz]; kernel_rfl
  obtain ⟨l⟩ := cs
  obtain ⟨c0, c1, rfl⟩ : ∃ c0 c1, l = [c0, c1] := by
    match l, hl with
    | [c0, c1], _ => exact ⟨_, _, rfl⟩
  obtain ⟨z0, z1, n, h0, h1⟩ := two_cells hf
  obtain ⟨x0, e0, -, -⟩ := DataW.trod_int Try.underlying3 h0
  obtain ⟨x1, e1, -, -⟩ := DataW.trod_int Try.underlying3 h1
  obtain rfl := List.singleton_inj.1 e0
  obtain rfl := List.singleton_inj.1 e1
  exact ⟨(x0, x1), rfl⟩
theorem ev_of (hv : Value.okWide Try.prog w r b0 25 v) (h : DataW.Trod enc Try.prog w base (fun _ => true) held 25 v d p) :
    ∃ (kk : Int) (A : Option Addr) (l : List OpR) (c : Nat) (x1 y1 n1 : Int), v = .agg (evl kk A l.length c x1 y1 n1).toArray ∧ OpsR w A l ∧ HeldE d l.length := by
  obtain ⟨cs, rfl, hsz⟩ := okWide_struct Try.underlying25 hv
  obtain ⟨fuel, hf⟩ := h
  have hl : cs.toList.length = 5 := by rw [Array.length_toList, hsz]; kernel_rfl
  obtain ⟨kk, A, l, c, x1, y1, n1, e, h1, h2⟩ := ev_cells hl hf
  exact ⟨kk, A, l, c, x1, y1, n1, by rw [← Array.toArray_toList (xs := cs), e], h1, h2⟩
end
section
variable {H : Type} {ts : List TypeId} {ds : List (DataW H)}
theorem weightsAll_mem {e : TypeId} : ∀ {l : List (DataW H)} {d : DataW H}, d ∈ l → ∀ n ∈ d.weights Try.prog e, n ∈ DataW.weightsAll Try.prog e l
  | d' :: r, d, hd, n, hn => by
    simp only [DataW.weightsAll, List.mem_append]
    rcases List.mem_cons.1 hd with rfl | h
    · exact Or.inl hn
    · exact Or.inr (weightsAll_mem h n hn)
/-- the form's reach, of ops -/
theorem sops_few (h : (DataW.weightsEach Try.prog ts ds).all (· ≤ reachBytes) = true) {j : Nat} {d : DataW H} {n : Nat} (ht : ts[j]? = some 22) (hd : ds[j]? = some d) (hh : Held d n) : n ≤ 1099511627776 := by
  rcases hh with rfl | ⟨e, s, rfl, hle⟩
  · exact Nat.zero_le _
  have h1 := sized_slice h ht hd Try.underlying22
  rw [show Try.prog.bytesOf 52 = 200 from by kernel_rfl, show reachBytes = 140737488351232 from rfl] at h1
  omega
/-- the form's reach, of an event's ops -/
theorem ev_few (h : (DataW.weightsEach Try.prog ts ds).all (· ≤ reachBytes) = true) {j : Nat} {d : DataW H} {n : Nat} (ht : ts[j]? = some 25) (hd : ds[j]? = some d) (hh : HeldE d n) : n ≤ 1099511627776 := by
  obtain ⟨xs, d1, rfl, h1, hh⟩ := hh
  rcases hh with rfl | ⟨e, s, rfl, hle⟩
  · exact Nat.zero_le _
  have h2 : (e.length + s.length) * Try.prog.bytesOf 52 ≤ reachBytes := by
    refine of_decide_eq_true (List.all_eq_true.1 h _ (DataW.weights_mem_each ht hd _ ?_))
    simp only [DataW.weights, Try.underlying25]
    exact DataW.weights_mem_each (j := 1) (t := 22) rfl h1 _ (by simp [DataW.weights, Try.underlying22])
  rw [show Try.prog.bytesOf 52 = 200 from by kernel_rfl, show reachBytes = 140737488351232 from rfl] at h2
  omega
/-- the form's reach, of transactions -/
theorem sopss_few (h : (DataW.weightsEach Try.prog ts ds).all (· ≤ reachBytes) = true) {j : Nat} {d : DataW H} {w : World} {A : Option Addr} {L : List OpL} (ht : ts[j]? = some 27) (hd : ds[j]? = some d) (hr : TrRaw w A L) (hm : L.length ≤ maxLen)
    (hh : L = [] ∨ ∃ e s, d = .slice e s ∧ L.length ≤ e.length + s.length ∧ ∀ q ∈ L, ∃ d' ∈ e, Held d' q.l.length) : TrAt w A L ∧ L.length * 24 ≤ 140737488351232 := by
  have hm2 : L.length ≤ 9223372036854775807 := by unfold maxLen at hm; omega
  rcases hh with rfl | ⟨e, s, rfl, hle, hq⟩
  · exact ⟨⟨hr.row, hr.ops, (fun q hq => by cases hq), hm2⟩, by simp⟩
  have h1 := sized_slice h ht hd Try.underlying27
  rw [show Try.prog.bytesOf 22 = 24 from by kernel_rfl, show reachBytes = 140737488351232 from rfl] at h1
  refine ⟨⟨hr.row, hr.ops, fun q hq' => ?_, hm2⟩, by omega⟩
  obtain ⟨d', hd', hh⟩ := hq q hq'
  rcases hh with h0 | ⟨e', s', rfl, hle'⟩
  · omega
  have h2 : (e'.length + s'.length) * Try.prog.bytesOf 52 ≤ reachBytes := by
    refine of_decide_eq_true (List.all_eq_true.1 h _ (DataW.weights_mem_each ht hd _ ?_))
    simp only [DataW.weights, Try.underlying27, List.mem_cons, List.mem_append]
    exact Or.inr (Or.inl (weightsAll_mem hd' _ (by simp [DataW.weights, Try.underlying22])))
  rw [show Try.prog.bytesOf 52 = 200 from by kernel_rfl, show reachBytes = 140737488351232 from rfl] at h2
  omega
end
end Go.Proofs.Ytgadheamldianaa
