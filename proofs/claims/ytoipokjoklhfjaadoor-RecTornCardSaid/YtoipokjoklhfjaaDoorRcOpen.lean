/-
  What the row's condition gives: the tables' cells; what arguments give: bytes, records.
-/
import Derived.Test.YtoipokjoklhfjaaDoorRows
import Derived.Test.YtoipokjoklhfjaaDoorRcH
import Derived.ProofKit
import Derived.LaidMore
import Derived.OpenShut
import Derived.Stop.Joined
import Derived.Lib.LaidTab
import Derived.ChangeOld
import Derived.Carry
import Derived.Below
import Derived.Deep.Grids
import Derived.Deep.Fields
namespace Go.Proofs.YtoipokjoklhfjaaDoor
open Go.RowKit Go.ChangeShapes Go.WideShapes Go.ChangeAt Go.Deep

theorem own : ownKnob Tryd.prog.godebug = none := by kernel_rfl
theorem laidOut : laidOutB Tryd.prog = true := by kernel_rfl
theorem gTab : Tryd.prog.globalNamed "mutoscope/crc.table" = some 0 := by kernel_rfl
theorem tTab : (Tryd.prog.globals[0]?).map (·.type) = some 91 := by kernel_rfl
theorem cTab : Tryd.prog.cellsOf 91 = 128 := by kernel_rfl
theorem cRow : Tryd.prog.cellsOf 90 = 16 := by kernel_rfl
theorem cInt : Tryd.prog.cellsOf 67 = 1 := by kernel_rfl
def rowZ (k : Nat) : List Int := (List.range 16).map fun i => (crcm.tabN (16 * k + i) : Nat)
def laidL : List (String × DataW Unit) := [("mutoscope/crc.table", Rows.laid_mutoscope_crc_table)]
theorem laid_eq : (Rows.laid_mutoscope_crc_table : DataW Unit) = .agg ((List.range 8).map fun k => Lib.tabData .u32 (rowZ k)) := by kernel_rfl

theorem tab_of_trod {H : Type} {enc : TypeId × Value → H} {w : World} {base : Nat} {sp : Nat → Bool} {held : Bool} {fuel : Nat} {cs : List Value} {p : List MemPlace}
    (h : DataW.trod enc Tryd.prog w base sp held fuel 91 cs = some (.agg ((List.range 8).map fun k => Lib.tabData .u32 (rowZ k)), p)) :
    ∀ j, j < 128 → cs[j]? = some (.int .u32 (crcm.tabN j : Nat)) := by
  intro j hj
  obtain ⟨xs, m, rfl, hx, hl, hn, hel⟩ := DataW.trod_array Tryd.underlying91 h
  rw [cTab] at hl
  simp only [cRow] at hel
  have hk : j / 16 < 8 := by omega
  have h1 := hel (j / 16) hk
  have hxs : xs.map (·.1) = (List.range 8).map fun k => Lib.tabData .u32 (rowZ k) := by
    have := congrArg Prod.fst hx
    simpa using this.symm
  have h2 : (xs[j / 16]?).map (·.1) = some (Lib.tabData .u32 (rowZ (j / 16))) := by
    have := congrArg (·[j / 16]?) hxs
    simpa [List.getElem?_map, hk] using this
  obtain ⟨b, hb, hb2⟩ := Option.map_eq_some_iff.1 h2
  rw [hb] at h1
  obtain ⟨b1, b2⟩ := b
  simp only at hb2
  subst hb2
  have h3 := Lib.cells_of_tab Tryd.underlying90 Tryd.underlying67 cInt cRow h1
  have h4 := congrArg (·[j % 16]?) h3
  simp only [List.getElem?_take, List.getElem?_drop, show j % 16 < 16 from by omega, if_true, show j / 16 * 16 + j % 16 = j from by omega] at h4
  rw [h4]
  simp [rowZ, show j % 16 < 16 from by omega, show 16 * (j / 16) + j % 16 = j from by omega]

theorem tab_of_laid {w : World} (h : laidMetH Tryd.prog laidL w) : TabAt w := by
  rw [MakeChecks.laidMetH_plain _ _ _ (by kernel_rfl)] at h
  obtain ⟨ps, ⟨g0, t0, cs0, f0, p0, q0, hg0, ht0, hv0, hd0, _, _⟩, _, _⟩ := h
  obtain rfl := Option.some.inj (gTab.symm.trans hg0)
  obtain rfl := Option.some.inj (tTab.symm.trans ht0)
  rw [laid_eq] at hd0
  have hc := tab_of_trod hd0
  intro j hj
  rw [World.var?_cell hg0 hv0 j]
  simpa using hc j hj

/-- The door's own heap meets the condition. -/
theorem door_met (os : Os) (args : Array Value) : laidMetH Tryd.prog laidL ((World.doorLaid Tryd.prog 22 os).forCall (fun _ _ => 0) ⟨#[], args, []⟩).memory :=
  laidMetH_of_parts3 (fuel := 8) (laidMet_of_run' 8 (by kernel_rfl) (by kernel_rfl)) (by kernel_rfl) (by kernel_rfl)

theorem add_none (b off j : Nat) : (⟨b, off, none⟩ : Addr).add j = ⟨b, off + j, none⟩ := by unfold Addr.add; split <;> simp_all
theorem from_list {α : Type} {n : Nat} {p : Nat → α → Prop} (h : ∀ i, i < n → ∃ x, p i x) : ∃ l : List α, l.length = n ∧ ∀ i (hi : i < l.length), p i l[i] := by
  induction n with
  | zero => exact ⟨[], rfl, fun i hi => by simp at hi⟩
  | succ n ih =>
    obtain ⟨l, hl, hp⟩ := ih (fun i hi => h i (by omega))
    obtain ⟨x, hx⟩ := h n (by omega)
    refine ⟨l ++ [x], by simp [hl], fun i hi => ?_⟩
    rw [List.length_append, List.length_cons, List.length_nil] at hi
    by_cases hin : i < l.length
    · rw [List.getElem_append_left hin]
      exact hp i hin
    · have : i = n := by omega
      subst this
      have e : (l ++ [x])[i]'(by rw [List.length_append, List.length_cons, List.length_nil]; omega) = x := by
        rw [List.getElem_append_right (by omega)]
        simp [hl]
      rw [e]
      exact hx
section
variable {H : Type} {enc : TypeId × Value → H} {w : World} {base : Nat} {held : Bool} {k : Nat}
theorem field_one {fs : Array Field} (hone : oneCellFields Tryd.prog fs = true) {k : Nat} {spare : Nat → Bool} {cs : List Value} {ys : List (DataW H × List MemPlace)}
    (hfl : ∀ (i : Nat) (f : Field), fs[i]? = some f → DataW.trod enc Tryd.prog w base spare held k f.type ((cs.drop f.offset).take (Tryd.prog.cellsOf f.type)) = ys[i]?) (j : Nat) (hj : j < cs.length) (hy : j < ys.length) (f : Field) (hf : fs[j]? = some f) :
    DataW.trod enc Tryd.prog w base spare held k f.type [cs[j]] = some ys[j] := by
  obtain ⟨ho, hk⟩ := hone_of hone j f hf
  have h1 := hfl j f hf
  rw [ho, hk, List.drop_eq_getElem_cons hj] at h1
  exact h1.trans (List.getElem?_eq_getElem hy)
/-- bytes -/
theorem part_cell {x : Value} {y : DataW H × List MemPlace} (h : DataW.trod enc Tryd.prog w base (fun _ => true) held k 25 [x] = some y) : ∃ q : Part, x = q.v ∧ q.ok w := by
  rcases open_ints Tryd.underlying25 Tryd.underlying5 (by kernel_rfl) h with ⟨hcs, _⟩ | ⟨a, l, c, zs, hcs, _, hl, hm, hz, _, hcell, hwz⟩
  · obtain rfl := List.singleton_inj.1 hcs
    exact ⟨⟨none, [], 0⟩, rfl, part_nil w⟩
  · obtain rfl := List.singleton_inj.1 hcs
    have hzl : zs.length = c := by simpa using hz
    have hb : ∀ z ∈ zs, 0 ≤ z ∧ z ≤ 255 := fun z hz => bounds_u8 (hwz z hz)
    have hll : ((zs.take l).map Int.toNat).length = l := by simp; omega
    refine ⟨⟨some a, (zs.take l).map Int.toNat, c⟩, by unfold Part.v; rw [hll], ⟨by rw [hll]; exact hl, hm, fun hn => ?_, fun z hz => ?_⟩⟩
    · simp only at hn ⊢
      rw [hll] at hn
      obtain ⟨b, off, spot⟩ := a
      have h0 := hcell 0 (by omega)
      have hspot : spot = none := by simpa [Addr.add] using World.cell?_spot h0
      subst hspot
      refine ⟨b, off, rfl, fun j hj => ?_⟩
      rw [hll] at hj
      have hc := hcell j (by omega)
      rw [add_none] at hc
      rw [hc]
      have hj' : j < zs.length := by omega
      have h3 := hb zs[j] (List.getElem_mem hj')
      simp only [List.getElem_map, List.getElem_take, List.getD_eq_getElem?_getD, List.getElem?_eq_getElem hj', Option.getD_some, e8, Option.some.injEq, Value.int.injEq, true_and]
      omega
    · simp only [List.mem_map] at hz
      obtain ⟨y, hy, rfl⟩ := hz
      have := hb y (List.mem_of_mem_take hy)
      show y.toNat < 256
      omega
end
section
variable {H : Type} {enc : TypeId × Value → H} {w : World} {base : Nat} {held : Bool} {a : Option Addr} {n c : Nat} {d : DataW H} {p : List MemPlace}
theorem part_of (h : DataW.Trod enc Tryd.prog w base (fun _ => true) held 25 (.slice a n c) d p) : ∃ q : Part, (.slice a n c : Value) = .slice q.a q.l.length q.c ∧ q.ok w := by
  obtain ⟨fuel, hf⟩ := h
  exact part_cell hf
set_option maxRecDepth 100000 in
theorem recs_cell {k : Nat} {x : Value} {y : DataW H × List MemPlace} (h : DataW.trod enc Tryd.prog w base (fun _ => true) held k 22 [x] = some y) : ∃ (A : Option Addr) (l : List Rc) (cc : Nat), x = .slice A l.length cc ∧ RcRow w A l ∧ (∀ x ∈ l, x.p.ok w) ∧ l.length ≤ 9223372036854775807 := by
  rcases open_slice Tryd.underlying22 h with ⟨hcs, _⟩ | ⟨⟨b, off, spot⟩, n, c, m, k', D, Pl, hcs, _, hl, hm, hmm, _, hi⟩
  · obtain rfl := List.singleton_inj.1 hcs
    exact ⟨none, [], 0, rfl, fun h => absurd h (by simp), (fun z hz => by cases hz), by simp⟩
  · obtain rfl := List.singleton_inj.1 hcs
    simp only [if_true] at hmm
    subst hmm
    have hC : Tryd.prog.cellsOf 27 = 2 := by kernel_rfl
    have hsp : 0 < n → spot = none := fun h0 => by
      obtain ⟨cs', hc, _⟩ := hi 0 (by omega)
      rw [hC] at hc
      obtain ⟨_, hcl, hat⟩ := World.cells?_some hc
      have a0 := hat 0 (by omega)
      rw [List.getElem?_eq_getElem (by omega)] at a0
      simpa [Addr.add] using World.cell?_spot a0
    have one : ∀ i, i < n → ∃ x : Rc, (spot = none) ∧ (w.cell? ⟨b, off + i * 2, none⟩ = some (.int .i64 x.k) ∧ w.cell? ⟨b, off + i * 2 + 1, none⟩ = some x.p.v) ∧ x.p.ok w := fun i hin => by
      obtain ⟨cs', hc, ht⟩ := hi i (by omega)
      rw [hC] at hc
      obtain ⟨ys, n', _, hy, hlen, hyl, hfl⟩ := DataW.trod_struct Tryd.underlying27 ht
      obtain ⟨_, hcl, hat⟩ := World.cells?_some hc
      have hyl2 : ys.length = 2 := hyl
      have g0 := field_one (by kernel_rfl) hfl 0 (by omega) (by omega) _ rfl
      have g1 := field_one (by kernel_rfl) hfl 1 (by omega) (by omega) _ rfl
      obtain ⟨x0, e0, _, w0⟩ := DataW.trod_int Tryd.underlying3 g0
      obtain ⟨x1, e1, o1⟩ := part_cell g1
      have a0 := hat 0 (by omega)
      have a1 := hat 1 (by omega)
      rw [List.getElem?_eq_getElem (by omega), List.singleton_inj.1 e0] at a0
      rw [List.getElem?_eq_getElem (by omega), e1] at a1
      have hspot : spot = none := hsp (by omega)
      subst hspot
      rw [add_none, add_none] at a0 a1
      exact ⟨⟨x0, x1⟩, rfl, ⟨a0, a1⟩, o1⟩
    obtain ⟨xs, hxl, hxs⟩ := from_list one
    refine ⟨some ⟨b, off, spot⟩, xs, m, by rw [hxl], fun hn => ⟨b, off, ?_, fun j hj => (hxs j hj).2.1⟩, fun x hx => ?_, by unfold maxLen at hm; omega⟩
    · rw [(hxs 0 hn).1]
    · obtain ⟨j, hj, rfl⟩ := List.mem_iff_getElem.1 hx
      exact (hxs j hj).2.2
theorem recs_of (h : DataW.Trod enc Tryd.prog w base (fun _ => true) held 22 (.slice a n c) d p) : ∃ l : List Rc, n = l.length ∧ RcRow w a l ∧ (∀ x ∈ l, x.p.ok w) ∧ l.length ≤ 9223372036854775807 := by
  obtain ⟨fuel, hf⟩ := h
  obtain ⟨A, l, cc, e, h1, h2, h3⟩ := recs_cell hf
  injection e with e1 e2 e3
  subst e1
  exact ⟨l, e2, h1, h2, h3⟩
end
end Go.Proofs.YtoipokjoklhfjaaDoor
