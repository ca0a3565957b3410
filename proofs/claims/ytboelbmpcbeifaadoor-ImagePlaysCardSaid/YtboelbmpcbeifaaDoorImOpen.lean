/-
  What the row's condition gives: the tables' cells; what arguments give: images, calls.
-/
import Derived.Test.YtboelbmpcbeifaaDoorRows
import Derived.Test.YtboelbmpcbeifaaDoorImO
import Derived.ProofKit
import Derived.LaidMore
import Derived.OpenShut
import Derived.Stop.Joined
import Derived.Lib.LaidTab
import Derived.Lib.SmallJoins
import Derived.ChangeOld
import Derived.Carry
import Derived.Below
import Derived.Deep.Grids
import Derived.Deep.Fields
namespace Go.Proofs.YtboelbmpcbeifaaDoor
open Go.RowKit Go.ChangeShapes Go.WideShapes Go.ChangeAt Go.Deep Go.Joins

theorem own : ownKnob Tryd.prog.godebug = none := by kernel_rfl
theorem laidOut : laidOutB Tryd.prog = true := by kernel_rfl
theorem gTab : Tryd.prog.globalNamed "mutoscope/crc.table" = some 0 := by kernel_rfl
theorem tTab : (Tryd.prog.globals[0]?).map (·.type) = some 97 := by kernel_rfl
theorem cTab : Tryd.prog.cellsOf 97 = 128 := by kernel_rfl
theorem cRow : Tryd.prog.cellsOf 96 = 16 := by kernel_rfl
theorem cInt : Tryd.prog.cellsOf 34 = 1 := by kernel_rfl
def rowZ (k : Nat) : List Int := (List.range 16).map fun i => (crcm.tabN (16 * k + i) : Nat)
def laidL : List (String × DataW Unit) := [("mutoscope/crc.table", Rows.laid_mutoscope_crc_table)]
theorem laid_eq : (Rows.laid_mutoscope_crc_table : DataW Unit) = .agg ((List.range 8).map fun k => Lib.tabData .u32 (rowZ k)) := by kernel_rfl

theorem tab_of_trod {H : Type} {enc : TypeId × Value → H} {w : World} {base : Nat} {sp : Nat → Bool} {held : Bool} {fuel : Nat} {cs : List Value} {p : List MemPlace}
    (h : DataW.trod enc Tryd.prog w base sp held fuel 97 cs = some (.agg ((List.range 8).map fun k => Lib.tabData .u32 (rowZ k)), p)) :
    ∀ j, j < 128 → cs[j]? = some (.int .u32 (crcm.tabN j : Nat)) := by
  intro j hj
  obtain ⟨xs, m, rfl, hx, hl, hn, hel⟩ := DataW.trod_array Tryd.underlying97 h
  rw [cTab] at hl
  simp only [cRow] at hel
  have hk : j / 16 < 8 := by omega
  have h1 := hel (j / 16) hk
  have hxs : xs.map (·.1) = (List.range 8).map fun k => Lib.tabData .u32 (rowZ k) := by
    have := congrArg Prod.fst hx
    simpa using this.symm
  have h2 : (xs[j / 16]?).map (·.1) = some (Lib.tabData .u32 (rowZ (j / 16))) := by
    have := congrArg (·[j / 16]?) hxs
    simpa [List.getElem?_map, hk] using this
  obtain ⟨b, hb, hb2⟩ := Option.map_eq_some_iff.1 h2
  rw [hb] at h1
  obtain ⟨b1, b2⟩ := b
  simp only at hb2
  subst hb2
  have h3 := Lib.cells_of_tab Tryd.underlying96 Tryd.underlying34 cInt cRow h1
  have h4 := congrArg (·[j % 16]?) h3
  simp only [List.getElem?_take, List.getElem?_drop, show j % 16 < 16 from by omega, if_true, show j / 16 * 16 + j % 16 = j from by omega] at h4
  rw [h4]
  simp [rowZ, show j % 16 < 16 from by omega, show 16 * (j / 16) + j % 16 = j from by omega]

theorem tab_of_laid {w : World} (h : laidMetH Tryd.prog laidL w) : crcs.TabAt w := by
  rw [MakeChecks.laidMetH_plain _ _ _ (by kernel_rfl)] at h
  obtain ⟨ps, ⟨g0, t0, cs0, f0, p0, q0, hg0, ht0, hv0, hd0, _, _⟩, _, _⟩ := h
  obtain rfl := Option.some.inj (gTab.symm.trans hg0)
  obtain rfl := Option.some.inj (tTab.symm.trans ht0)
  rw [laid_eq] at hd0
  have hc := tab_of_trod hd0
  intro j hj
  rw [World.var?_cell hg0 hv0 j]
  simpa using hc j hj

/-- The door's own heap meets the condition. -/
theorem door_met (os : Os) (args : Array Value) : laidMetH Tryd.prog laidL ((World.doorLaid Tryd.prog 22 os).forCall (fun _ _ => 0) ⟨#[], args, []⟩).memory :=
  laidMetH_of_parts3 (fuel := 8) (laidMet_of_run' 8 (by kernel_rfl) (by kernel_rfl)) (by kernel_rfl) (by kernel_rfl)

theorem add_none (b off j : Nat) : (⟨b, off, none⟩ : Addr).add j = ⟨b, off + j, none⟩ := by unfold Addr.add; split <;> simp_all
theorem from_list {α : Type} {n : Nat} {p : Nat → α → Prop} (h : ∀ i, i < n → ∃ x, p i x) : ∃ l : List α, l.length = n ∧ ∀ i (hi : i < l.length), p i l[i] := by
  induction n with
  | zero => exact ⟨[], rfl, fun i hi => by simp at hi⟩
  | succ n ih =>
    obtain ⟨l, hl, hp⟩ := ih (fun i hi => h i (by omega))
    obtain ⟨x, hx⟩ := h n (by omega)
    refine ⟨l ++ [x], by simp [hl], fun i hi => ?_⟩
    rw [List.length_append, List.length_cons, List.length_nil] at hi
    by_cases hin : i < l.length
    · rw [List.getElem_append_left hin]
      exact hp i hin
    · have : i = n := by omega
      subst this
      have e : (l ++ [x])[i]'(by rw [List.length_append, List.length_cons, List.length_nil]; omega) = x := by
        rw [List.getElem_append_right (by omega)]
        simp [hl]
      rw [e]
      exact hx
section
variable {H : Type} {enc : TypeId × Value → H} {w : World} {base : Nat} {held : Bool} {k : Nat}
theorem field_one {fs : Array Field} (hone : oneCellFields Tryd.prog fs = true) {k : Nat} {spare : Nat → Bool} {cs : List Value} {ys : List (DataW H × List MemPlace)}
    (hfl : ∀ (i : Nat) (f : Field), fs[i]? = some f → DataW.trod enc Tryd.prog w base spare held k f.type ((cs.drop f.offset).take (Tryd.prog.cellsOf f.type)) = ys[i]?) (j : Nat) (hj : j < cs.length) (hy : j < ys.length) (f : Field) (hf : fs[j]? = some f) :
    DataW.trod enc Tryd.prog w base spare held k f.type [cs[j]] = some ys[j] := by
  obtain ⟨ho, hk⟩ := hone_of hone j f hf
  have h1 := hfl j f hf
  rw [ho, hk, List.drop_eq_getElem_cons hj] at h1
  exact h1.trans (List.getElem?_eq_getElem hy)
/-- pixels -/
theorem px_cell {x : Value} {y : DataW H × List MemPlace} (h : DataW.trod enc Tryd.prog w base (fun _ => true) held k 22 [x] = some y) : ∃ (A : Option Addr) (l : List Nat) (c : Nat), x = .slice A l.length c ∧ Row eW w A l ∧ l.length ≤ c ∧ c ≤ maxLen ∧ ∀ z ∈ l, z < 4294967296 := by
  rcases open_ints Tryd.underlying22 Tryd.underlying35 (by kernel_rfl) h with ⟨hcs, _⟩ | ⟨a, l, c, zs, hcs, _, hl, hm, hz, _, hcell, hwz⟩
  · obtain rfl := List.singleton_inj.1 hcs
    exact ⟨none, [], 0, rfl, Row.none_ rfl, Nat.le_refl _, by unfold maxLen; omega, fun z hz => by cases hz⟩
  · obtain rfl := List.singleton_inj.1 hcs
    have hzl : zs.length = c := by simpa using hz
    have hb : ∀ z ∈ zs, 0 ≤ z ∧ z ≤ 4294967295 := fun z hz => bounds_u32 (hwz z hz)
    have hll : ((zs.take l).map Int.toNat).length = l := by simp; omega
    refine ⟨some a, (zs.take l).map Int.toNat, c, by rw [hll], fun hn => ?_, by rw [hll]; exact hl, hm, fun z hz => ?_⟩
    · rw [hll] at hn
      obtain ⟨b, off, spot⟩ := a
      have h0 := hcell 0 (by omega)
      have hspot : spot = none := by simpa [Addr.add] using World.cell?_spot h0
      subst hspot
      refine ⟨b, off, rfl, fun j hj => ?_⟩
      rw [hll] at hj
      have hc := hcell j (by omega)
      rw [add_none] at hc
      rw [hc]
      have hj' : j < zs.length := by omega
      have h3 := hb zs[j] (List.getElem_mem hj')
      simp only [List.getElem_map, List.getElem_take, List.getD_eq_getElem?_getD, List.getElem?_eq_getElem hj', Option.getD_some, eW, Option.some.injEq, Value.int.injEq, true_and]
      omega
    · simp only [List.mem_map] at hz
      obtain ⟨y, hy, rfl⟩ := hz
      have := hb y (List.mem_of_mem_take hy)
      omega
set_option maxRecDepth 100000 in
/-- rectangles -/
theorem bxs_cell {x : Value} {y : DataW H × List MemPlace} (h : DataW.trod enc Tryd.prog w base (fun _ => true) held k 39 [x] = some y) : ∃ (A : Option Addr) (l : List Bx) (c : Nat), x = .slice A l.length c ∧ BRow w A l ∧ l.length ≤ 9223372036854775807 := by
  rcases open_slice Tryd.underlying39 h with ⟨hcs, _⟩ | ⟨⟨b, off, spot⟩, n, c, m, k', D, Pl, hcs, _, hl, hm, hmm, _, hi⟩
  · obtain rfl := List.singleton_inj.1 hcs
    exact ⟨none, [], 0, rfl, fun h => absurd h (by simp), by simp⟩
  · obtain rfl := List.singleton_inj.1 hcs
    simp only [if_true] at hmm
    subst hmm
    have hC : Tryd.prog.cellsOf 30 = 4 := by kernel_rfl
    have hsp : 0 < n → spot = none := fun h0 => by
      obtain ⟨cs', hc, _⟩ := hi 0 (by omega)
      rw [hC] at hc
      obtain ⟨_, hcl, hat⟩ := World.cells?_some hc
      have a0 := hat 0 (by omega)
      rw [List.getElem?_eq_getElem (by omega)] at a0
      simpa [Addr.add] using World.cell?_spot a0
    have one : ∀ i, i < n → ∃ x : Bx, (spot = none) ∧ (w.cell? ⟨b, off + i * 4, none⟩ = some (.int .i64 x.a) ∧ w.cell? ⟨b, off + i * 4 + 1, none⟩ = some (.int .i64 x.b) ∧ w.cell? ⟨b, off + i * 4 + 2, none⟩ = some (.int .i64 x.c) ∧ w.cell? ⟨b, off + i * 4 + 3, none⟩ = some (.int .i64 x.d)) := fun i hin => by
      obtain ⟨cs', hc, ht⟩ := hi i (by omega)
      rw [hC] at hc
      obtain ⟨ys, n', _, hy, hlen, hyl, hfl⟩ := DataW.trod_struct Tryd.underlying30 ht
      obtain ⟨_, hcl, hat⟩ := World.cells?_some hc
      have hyl2 : ys.length = 4 := hyl
      have g0 := field_one (by kernel_rfl) hfl 0 (by omega) (by omega) _ rfl
      have g1 := field_one (by kernel_rfl) hfl 1 (by omega) (by omega) _ rfl
      have g2 := field_one (by kernel_rfl) hfl 2 (by omega) (by omega) _ rfl
      have g3 := field_one (by kernel_rfl) hfl 3 (by omega) (by omega) _ rfl
      obtain ⟨x0, e0, _, _⟩ := DataW.trod_int Tryd.underlying3 g0
      obtain ⟨x1, e1, _, _⟩ := DataW.trod_int Tryd.underlying3 g1
      obtain ⟨x2, e2, _, _⟩ := DataW.trod_int Tryd.underlying3 g2
      obtain ⟨x3, e3, _, _⟩ := DataW.trod_int Tryd.underlying3 g3
      have a0 := hat 0 (by omega)
      have a1 := hat 1 (by omega)
      have a2 := hat 2 (by omega)
      have a3 := hat 3 (by omega)
      rw [List.getElem?_eq_getElem (by omega), List.singleton_inj.1 e0] at a0
      rw [List.getElem?_eq_getElem (by omega), List.singleton_inj.1 e1] at a1
      rw [List.getElem?_eq_getElem (by omega), List.singleton_inj.1 e2] at a2
      rw [List.getElem?_eq_getElem (by omega), List.singleton_inj.1 e3] at a3
      have hspot : spot = none := hsp (by omega)
      subst hspot
      rw [add_none, add_none] at a0 a1 a2 a3
      exact ⟨⟨x0, x1, x2, x3⟩, rfl, a0, a1, a2, a3⟩
    obtain ⟨xs, hxl, hxs⟩ := from_list one
    refine ⟨some ⟨b, off, spot⟩, xs, m, by rw [hxl], fun hn => ⟨b, off, ?_, fun j hj i v hv => ?_⟩, by unfold maxLen at hm; omega⟩
    · rw [(hxs 0 hn).1]
    · obtain ⟨-, a0, a1, a2, a3⟩ := hxs j hj
      have hi4 : i < 4 := (List.getElem?_eq_some_iff.1 hv).1
      obtain rfl | rfl | rfl | rfl : i = 0 ∨ i = 1 ∨ i = 2 ∨ i = 3 := by omega
      · rw [← Option.some.inj hv]; exact a0
      · rw [← Option.some.inj hv]; exact a1
      · rw [← Option.some.inj hv]; exact a2
      · rw [← Option.some.inj hv]; exact a3
end
set_option maxRecDepth 100000 in
theorem img_of {H : Type} {enc : TypeId × Value → H} {w : World} {base b0 : Nat} {held : Bool} {r : Reach} {v : Value} {d : DataW H} {p : List MemPlace}
    (hv : Value.okWide Tryd.prog w r b0 24 v) (h : DataW.Trod enc Tryd.prog w base (fun _ => true) held 24 v d p) :
    ∃ (W H : Int) (A : Option Addr) (l : List Nat) (c : Nat), v = imV W H A l.length c ∧ Row eW w A l ∧ l.length ≤ c ∧ c ≤ maxLen ∧ (∀ z ∈ l, z < 4294967296) ∧ I64 W ∧ I64 H := by
  obtain ⟨c0, c1, c2, y0, y1, y2, m, rfl, -, -, hy0, hy1, hy2⟩ := open_agg3 Tryd.underlying24 (by kernel_rfl) (by kernel_rfl) hv h
  obtain ⟨x, e1, -, wx⟩ := DataW.trod_int Tryd.underlying3 hy0
  obtain ⟨y, e2, -, wy⟩ := DataW.trod_int Tryd.underlying3 hy1
  obtain ⟨A, l, c, rfl, h1, h2, h3, h4⟩ := px_cell hy2
  obtain rfl := List.singleton_inj.1 e1
  obtain rfl := List.singleton_inj.1 e2
  exact ⟨x, y, A, l, c, rfl, h1, h2, h3, h4, bounds_i64 wx, bounds_i64 wy⟩
/-- a call that is told -/
structure Cl where
  k : Int
  x : Int
  y : Int
  p : Nat
  A : Option Addr
  l : List Bx
  c : Nat
structure Cl.ok (w : World) (q : Cl) : Prop where
  row : BRow w q.A q.l
  k : I64 q.k
  x : I64 q.x
  y : I64 q.y
  p : q.p < 4294967296
  l : q.l.length ≤ 9223372036854775807
theorem Cl.ok.below {w w' : World} {q : Cl} (h : q.ok w) (hb : Below w.heap.size w w') : q.ok w' := ⟨h.row.below hb, h.k, h.x, h.y, h.p, h.l⟩
def Cl.cs (q : Cl) : List Value := [.int .i64 q.k, .int .i64 q.x, .int .i64 q.y, .int .u32 (q.p : Nat), .slice q.A q.l.length q.c]
abbrev ClRow (w : World) (A : Option Addr) (l : List Cl) : Prop := SRow 5 Cl.cs w A l
section
variable {H : Type} {enc : TypeId × Value → H} {w : World} {base : Nat} {held : Bool} {a : Option Addr} {n c : Nat} {d : DataW H} {p : List MemPlace}
set_option maxRecDepth 100000 in
theorem cls_of (h : DataW.Trod enc Tryd.prog w base (fun _ => true) held 37 (.slice a n c) d p) : ∃ l : List Cl, n = l.length ∧ ClRow w a l ∧ (∀ x ∈ l, x.ok w) ∧ l.length ≤ 9223372036854775807 := by
  obtain ⟨fuel, hf⟩ := h
  rcases open_slice Tryd.underlying37 hf with ⟨hcs, _⟩ | ⟨⟨b, off, spot⟩, l, c', m, k, D, Pl, hcs, _, hl, hm, hmm, _, hi⟩
  · simp [Value.cells] at hcs
    obtain ⟨rfl, rfl, rfl⟩ := hcs
    exact ⟨[], rfl, fun h => absurd h (by simp), (fun z hz => by cases hz), by simp⟩
  · simp [Value.cells] at hcs
    obtain ⟨rfl, rfl, rfl⟩ := hcs
    simp only [if_true] at hmm
    subst hmm
    have hC : Tryd.prog.cellsOf 41 = 5 := by kernel_rfl
    have hsp : 0 < n → spot = none := fun h0 => by
      obtain ⟨cs', hc, _⟩ := hi 0 (by omega)
      rw [hC] at hc
      obtain ⟨_, hcl, hat⟩ := World.cells?_some hc
      have a0 := hat 0 (by omega)
      rw [List.getElem?_eq_getElem (by omega)] at a0
      simpa [Addr.add] using World.cell?_spot a0
    have one : ∀ i, i < n → ∃ x : Cl, (spot = none) ∧ (w.cell? ⟨b, off + i * 5, none⟩ = some (.int .i64 x.k) ∧ w.cell? ⟨b, off + i * 5 + 1, none⟩ = some (.int .i64 x.x) ∧ w.cell? ⟨b, off + i * 5 + 2, none⟩ = some (.int .i64 x.y) ∧
        w.cell? ⟨b, off + i * 5 + 3, none⟩ = some (.int .u32 (x.p : Nat)) ∧ w.cell? ⟨b, off + i * 5 + 4, none⟩ = some (.slice x.A x.l.length x.c)) ∧ x.ok w := fun i hin => by
      obtain ⟨cs', hc, ht⟩ := hi i (by omega)
      rw [hC] at hc
      obtain ⟨ys, n', _, hy, hlen, hyl, hfl⟩ := DataW.trod_struct Tryd.underlying41 ht
      obtain ⟨_, hcl, hat⟩ := World.cells?_some hc
      have hyl2 : ys.length = 5 := hyl
      have g0 := field_one (by kernel_rfl) hfl 0 (by omega) (by omega) _ rfl
      have g1 := field_one (by kernel_rfl) hfl 1 (by omega) (by omega) _ rfl
      have g2 := field_one (by kernel_rfl) hfl 2 (by omega) (by omega) _ rfl
      have g3 := field_one (by kernel_rfl) hfl 3 (by omega) (by omega) _ rfl
      have g4 := field_one (by kernel_rfl) hfl 4 (by omega) (by omega) _ rfl
      obtain ⟨x0, e0, _, w0⟩ := DataW.trod_int Tryd.underlying3 g0
      obtain ⟨x1, e1, _, w1⟩ := DataW.trod_int Tryd.underlying3 g1
      obtain ⟨x2, e2, _, w2⟩ := DataW.trod_int Tryd.underlying3 g2
      obtain ⟨x3, e3, _, w3⟩ := DataW.trod_int Tryd.underlying34 g3
      obtain ⟨cA, cl, cc, e4, o1, o2⟩ := bxs_cell g4
      have b3 := bounds_u32 w3
      have a0 := hat 0 (by omega)
      have a1 := hat 1 (by omega)
      have a2 := hat 2 (by omega)
      have a3 := hat 3 (by omega)
      have a4 := hat 4 (by omega)
      rw [List.getElem?_eq_getElem (by omega), List.singleton_inj.1 e0] at a0
      rw [List.getElem?_eq_getElem (by omega), List.singleton_inj.1 e1] at a1
      rw [List.getElem?_eq_getElem (by omega), List.singleton_inj.1 e2] at a2
      rw [List.getElem?_eq_getElem (by omega), List.singleton_inj.1 e3] at a3
      rw [List.getElem?_eq_getElem (by omega), e4] at a4
      have hspot : spot = none := hsp (by omega)
      subst hspot
      rw [add_none, add_none] at a0 a1 a2 a3 a4
      refine ⟨⟨x0, x1, x2, x3.toNat, cA, cl, cc⟩, rfl, ⟨a0, a1, a2, ?_, a4⟩, ⟨o1, bounds_i64 w0, bounds_i64 w1, bounds_i64 w2, by simp only; omega, o2⟩⟩
      rw [a3]
      simp only [Option.some.injEq, Value.int.injEq, true_and]
      omega
    obtain ⟨xs, hxl, hxs⟩ := from_list one
    refine ⟨xs, hxl.symm, fun hn => ⟨b, off, ?_, fun j hj i v hv => ?_⟩, fun x hx => ?_, by unfold maxLen at hm; omega⟩
    · rw [(hxs 0 hn).1]
    · obtain ⟨-, ⟨a0, a1, a2, a3, a4⟩, -⟩ := hxs j hj
      have hi5 : i < 5 := (List.getElem?_eq_some_iff.1 hv).1
      obtain rfl | rfl | rfl | rfl | rfl : i = 0 ∨ i = 1 ∨ i = 2 ∨ i = 3 ∨ i = 4 := by omega
      · rw [← Option.some.inj hv]; exact a0
      · rw [← Option.some.inj hv]; exact a1
      · rw [← Option.some.inj hv]; exact a2
      · rw [← Option.some.inj hv]; exact a3
      · rw [← Option.some.inj hv]; exact a4
    · obtain ⟨j, hj, rfl⟩ := List.mem_iff_getElem.1 hx
      exact (hxs j hj).2.2
end
end Go.Proofs.YtboelbmpcbeifaaDoor
