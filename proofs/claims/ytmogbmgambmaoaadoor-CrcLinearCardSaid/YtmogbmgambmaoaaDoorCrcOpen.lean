/-
  What the row's condition gives: the tables' cells; what an argument gives: a part.
-/
import Derived.Test.YtmogbmgambmaoaaDoorRows
import Derived.Test.YtmogbmgambmaoaaDoorCrcG
import Derived.ProofKit
import Derived.LaidMore
import Derived.OpenShut
import Derived.Stop.Joined
import Derived.Lib.LaidTab
import Derived.ChangeOld
import Derived.Below
namespace Go.Proofs.YtmogbmgambmaoaaDoor
open Go.RowKit Go.ChangeShapes Go.WideShapes Go.ChangeAt crcm

theorem own : ownKnob Tryd.prog.godebug = none := by kernel_rfl
theorem laidOut : laidOutB Tryd.prog = true := by kernel_rfl
theorem gTab : Tryd.prog.globalNamed "mutoscope/crc.table" = some 0 := by kernel_rfl
theorem tTab : (Tryd.prog.globals[0]?).map (·.type) = some 36 := by kernel_rfl
theorem cTab : Tryd.prog.cellsOf 36 = 128 := by kernel_rfl
theorem cRow : Tryd.prog.cellsOf 35 = 16 := by kernel_rfl
theorem cInt : Tryd.prog.cellsOf 24 = 1 := by kernel_rfl
def rowZ (k : Nat) : List Int := (List.range 16).map fun i => (tabN (16 * k + i) : Nat)
def laidL : List (String × DataW Unit) := [("mutoscope/crc.table", Rows.laid_mutoscope_crc_table)]
theorem laid_eq : (Rows.laid_mutoscope_crc_table : DataW Unit) = .agg ((List.range 8).map fun k => Lib.tabData .u32 (rowZ k)) := by kernel_rfl

theorem tab_of_trod {H : Type} {enc : TypeId × Value → H} {w : World} {base : Nat} {sp : Nat → Bool} {held : Bool} {fuel : Nat} {cs : List Value} {p : List MemPlace}
    (h : DataW.trod enc Tryd.prog w base sp held fuel 36 cs = some (.agg ((List.range 8).map fun k => Lib.tabData .u32 (rowZ k)), p)) :
    ∀ j, j < 128 → cs[j]? = some (.int .u32 (tabN j : Nat)) := by
  intro j hj
  obtain ⟨xs, m, rfl, hx, hl, hn, hel⟩ := DataW.trod_array Tryd.underlying36 h
  rw [cTab] at hl
  simp only [cRow] at hel
  have hk : j / 16 < 8 := by omega
  have h1 := hel (j / 16) hk
  have hxs : xs.map (·.1) = (List.range 8).map fun k => Lib.tabData .u32 (rowZ k) := by
    have := congrArg Prod.fst hx
    simpa using this.symm
  have h2 : (xs[j / 16]?).map (·.1) = some (Lib.tabData .u32 (rowZ (j / 16))) := by
    have := congrArg (·[j / 16]?) hxs
    simpa [List.getElem?_map, hk] using this
  obtain ⟨b, hb, hb2⟩ := Option.map_eq_some_iff.1 h2
  rw [hb] at h1
  obtain ⟨b1, b2⟩ := b
  simp only at hb2
  subst hb2
  have h3 := Lib.cells_of_tab Tryd.underlying35 Tryd.underlying24 cInt cRow h1
  have h4 := congrArg (·[j % 16]?) h3
  simp only [List.getElem?_take, List.getElem?_drop, show j % 16 < 16 from by omega, if_true, show j / 16 * 16 + j % 16 = j from by omega] at h4
  rw [h4]
  simp [rowZ, show j % 16 < 16 from by omega, show 16 * (j / 16) + j % 16 = j from by omega]

theorem tab_of_laid {w : World} (h : laidMetH Tryd.prog laidL w) : TabAt w := by
  rw [MakeChecks.laidMetH_plain _ _ _ (by kernel_rfl)] at h
  obtain ⟨ps, ⟨g0, t0, cs0, f0, p0, q0, hg0, ht0, hv0, hd0, _, _⟩, _, _⟩ := h
  obtain rfl := Option.some.inj (gTab.symm.trans hg0)
  obtain rfl := Option.some.inj (tTab.symm.trans ht0)
  rw [laid_eq] at hd0
  have hc := tab_of_trod hd0
  intro j hj
  rw [World.var?_cell hg0 hv0 j]
  simpa using hc j hj

/-- The door's own heap meets the condition. -/
theorem door_met (os : Os) (args : Array Value) : laidMetH Tryd.prog laidL ((World.doorLaid Tryd.prog 22 os).forCall (fun _ _ => 0) ⟨#[], args, []⟩).memory :=
  laidMetH_of_parts3 (fuel := 8) (laidMet_of_run' 8 (by kernel_rfl) (by kernel_rfl)) (by kernel_rfl) (by kernel_rfl)

/-- An argument's slice of bytes is a part. -/
theorem part_of {H : Type} {enc : TypeId × Value → H} {w : World} {base : Nat} {held : Bool} {a : Option Addr} {n c : Nat} {d : DataW H} {p : List MemPlace}
    (h : DataW.Trod enc Tryd.prog w base (fun _ => true) held 22 (.slice a n c) d p) : ∃ q : Part, (.slice a n c : Value) = .slice q.a q.l.length q.c ∧ q.ok w := by
  obtain ⟨fuel, hf⟩ := h
  rcases open_ints Tryd.underlying22 Tryd.underlying5 (by kernel_rfl) hf with ⟨hcs, _⟩ | ⟨x, l, c', zs, hcs, _, hl, hm, hz, _, hcell, hwz⟩
  · simp [Value.cells] at hcs
    obtain ⟨rfl, rfl, rfl⟩ := hcs
    exact ⟨⟨none, [], 0⟩, rfl, ⟨Nat.le_refl _, by simp [maxLen], fun h => absurd h (by simp), fun z hz => by simp at hz⟩⟩
  · simp [Value.cells] at hcs
    obtain ⟨rfl, rfl, rfl⟩ := hcs
    have hzl : zs.length = c := by simpa using hz
    have hb : ∀ z ∈ zs, 0 ≤ z ∧ z ≤ 255 := fun z hz => bounds_u8 (hwz z hz)
    have hll : ((zs.take n).map Int.toNat).length = n := by simp; omega
    refine ⟨⟨some x, (zs.take n).map Int.toNat, c⟩, by rw [hll], ⟨by rw [hll]; exact hl, hm, fun hn => ?_, fun z hz => ?_⟩⟩
    · have hn' : 0 < n := by rw [hll] at hn; exact hn
      obtain ⟨b, off, spot⟩ := x
      have h0 := hcell 0 (by omega)
      have hspot : spot = none := by simpa [Addr.add] using World.cell?_spot h0
      subst hspot
      refine ⟨b, off, rfl, fun j hj => ?_⟩
      have hj' : j < n := by rw [hll] at hj; exact hj
      have hc := hcell j (by omega)
      have hadd : (⟨b, off, none⟩ : Addr).add j = ⟨b, off + j, none⟩ := by unfold Addr.add; split <;> simp_all
      rw [hadd] at hc
      rw [hc]
      have hzj := hb zs[j] (List.getElem_mem (by omega))
      have hg : zs.getD j 0 = zs[j] := by simp [List.getD, show j < zs.length from by omega]
      rw [hg]
      simp
      omega
    · simp only [List.mem_map] at hz
      obtain ⟨y, hy, rfl⟩ := hz
      have := hb y (List.mem_of_mem_take hy)
      show y.toNat < 256
      omega
end Go.Proofs.YtmogbmgambmaoaaDoor
