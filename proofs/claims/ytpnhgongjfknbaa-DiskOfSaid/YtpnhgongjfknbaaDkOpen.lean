/-
  What arguments give: commands, choices, files; each with what it leads to.
-/
import Derived.Test.YtpnhgongjfknbaaRows
import Derived.Test.YtpnhgongjfknbaaDkR
import Derived.ProofKit
import Derived.OpenShut
import Derived.ChangeOld
import Derived.Carry
import Derived.Below
import Derived.Deep.Grids
import Derived.Deep.Fields
namespace Go.Proofs.Ytpnhgongjfknbaa
open Go.RowKit Go.ChangeShapes Go.WideShapes Go.ChangeAt Go.Deep

theorem own : ownKnob Try.prog.godebug = none := by kernel_rfl
theorem laidOut : laidOutB Try.prog = true := by kernel_rfl
theorem add_none (b off j : Nat) : (⟨b, off, none⟩ : Addr).add j = ⟨b, off + j, none⟩ := by unfold Addr.add; split <;> simp_all
theorem from_list {α : Type} {n : Nat} {p : Nat → α → Prop} (h : ∀ i, i < n → ∃ x, p i x) : ∃ l : List α, l.length = n ∧ ∀ i (hi : i < l.length), p i l[i] := by
  induction n with
  | zero => exact ⟨[], rfl, fun i hi => by simp at hi⟩
  | succ n ih =>
    obtain ⟨l, hl, hp⟩ := ih (fun i hi => h i (by omega))
    obtain ⟨x, hx⟩ := h n (by omega)
    refine ⟨l ++ [x], by simp [hl], fun i hi => ?_⟩
    rw [List.length_append, List.length_cons, List.length_nil] at hi
    by_cases hin : i < l.length
    · rw [List.getElem_append_left hin]
      exact hp i hin
    · have : i = n := by omega
      subst this
      have e : (l ++ [x])[i]'(by rw [List.length_append, List.length_cons, List.length_nil]; omega) = x := by
        rw [List.getElem_append_right (by omega)]
        simp [hl]
      rw [e]
      exact hx
/-- a number with a sign -/
def I64' (n : Int) : Prop := -9223372036854775808 ≤ n ∧ n ≤ 9223372036854775807
section
variable {H : Type} {enc : TypeId × Value → H} {w : World} {base : Nat} {held : Bool} {k : Nat}
theorem field_one {fs : Array Field} (hone : oneCellFields Try.prog fs = true) {k : Nat} {spare : Nat → Bool} {cs : List Value} {ys : List (DataW H × List MemPlace)}
    (hfl : ∀ (i : Nat) (f : Field), fs[i]? = some f → DataW.trod enc Try.prog w base spare held k f.type ((cs.drop f.offset).take (Try.prog.cellsOf f.type)) = ys[i]?) (j : Nat) (hj : j < cs.length) (hy : j < ys.length) (f : Field) (hf : fs[j]? = some f) :
    DataW.trod enc Try.prog w base spare held k f.type [cs[j]] = some ys[j] := by
  obtain ⟨ho, hk⟩ := hone_of hone j f hf
  have h1 := hfl j f hf
  rw [ho, hk, List.drop_eq_getElem_cons hj] at h1
  exact h1.trans (List.getElem?_eq_getElem hy)
/-- bytes -/
theorem part_cell {x : Value} {y : DataW H × List MemPlace} (h : DataW.trod enc Try.prog w base (fun _ => true) held k 35 [x] = some y) : ∃ q : Part, x = q.v ∧ q.ok w := by
  rcases open_ints Try.underlying35 Try.underlying5 (by kernel_rfl) h with ⟨hcs, _⟩ | ⟨a, l, c, zs, hcs, _, hl, hm, hz, _, hcell, hwz⟩
  · obtain rfl := List.singleton_inj.1 hcs
    exact ⟨⟨none, [], 0⟩, rfl, part_nil w⟩
  · obtain rfl := List.singleton_inj.1 hcs
    have hzl : zs.length = c := by simpa using hz
    have hb : ∀ z ∈ zs, 0 ≤ z ∧ z ≤ 255 := fun z hz => bounds_u8 (hwz z hz)
    have hll : ((zs.take l).map Int.toNat).length = l := by simp; omega
    refine ⟨⟨some a, (zs.take l).map Int.toNat, c⟩, by unfold Part.v; rw [hll], ⟨by rw [hll]; exact hl, hm, fun hn => ?_, fun z hz => ?_⟩⟩
    · simp only at hn ⊢
      rw [hll] at hn
      obtain ⟨b, off, spot⟩ := a
      have h0 := hcell 0 (by omega)
      have hspot : spot = none := by simpa [Addr.add] using World.cell?_spot h0
      subst hspot
      refine ⟨b, off, rfl, fun j hj => ?_⟩
      rw [hll] at hj
      have hc := hcell j (by omega)
      rw [add_none] at hc
      rw [hc]
      have hj' : j < zs.length := by omega
      have h3 := hb zs[j] (List.getElem_mem hj')
      simp only [List.getElem_map, List.getElem_take, List.getD_eq_getElem?_getD, List.getElem?_eq_getElem hj', Option.getD_some, e8, Option.some.injEq, Value.int.injEq, true_and]
      omega
    · simp only [List.mem_map] at hz
      obtain ⟨y, hy, rfl⟩ := hz
      have := hb y (List.mem_of_mem_take hy)
      show y.toNat < 256
      omega
set_option maxRecDepth 100000 in
/-- choices -/
theorem chs_cell {x : Value} {y : DataW H × List MemPlace} (h : DataW.trod enc Try.prog w base (fun _ => true) held k 36 [x] = some y) : ∃ (A : Option Addr) (cs : List Ch) (cc : Nat), x = .slice A cs.length cc ∧ cs.length ≤ cc ∧ cc ≤ maxLen ∧ ChRow w A cs ∧ ∀ c ∈ cs, c.ok := by
  rcases open_slice Try.underlying36 h with ⟨hcs, _⟩ | ⟨⟨b, off, spot⟩, n, c, m, k', D, Pl, hcs, _, hl, hm, hmm, _, hi⟩
  · obtain rfl := List.singleton_inj.1 hcs
    exact ⟨none, [], 0, rfl, Nat.le_refl _, by simp [maxLen], fun h => absurd h (by simp), fun z hz => by cases hz⟩
  · obtain rfl := List.singleton_inj.1 hcs
    simp only [if_true] at hmm
    subst hmm
    have hC : Try.prog.cellsOf 74 = 3 := by kernel_rfl
    have hsp : 0 < n → spot = none := fun h0 => by
      obtain ⟨cs', hc, _⟩ := hi 0 (by omega)
      rw [hC] at hc
      obtain ⟨_, hcl, hat⟩ := World.cells?_some hc
      have a0 := hat 0 (by omega)
      rw [List.getElem?_eq_getElem (by omega)] at a0
      simpa [Addr.add] using World.cell?_spot a0
    have one : ∀ i, i < n → ∃ x : Ch, (spot = none) ∧ (w.cell? ⟨b, off + i * 3, none⟩ = some (.int .u64 (x.k : Nat)) ∧ w.cell? ⟨b, off + i * 3 + 1, none⟩ = some (.int .u64 (x.a : Nat)) ∧ w.cell? ⟨b, off + i * 3 + 2, none⟩ = some (.int .u8 (x.f : Nat))) ∧ x.ok := fun i hin => by
      obtain ⟨cs', hc, ht⟩ := hi i (by omega)
      rw [hC] at hc
      obtain ⟨ys, n', _, hy, hlen, hyl, hfl⟩ := DataW.trod_struct Try.underlying74 ht
      obtain ⟨_, hcl, hat⟩ := World.cells?_some hc
      have hyl2 : ys.length = 3 := hyl
      have g0 := field_one (by kernel_rfl) hfl 0 (by omega) (by omega) _ rfl
      have g1 := field_one (by kernel_rfl) hfl 1 (by omega) (by omega) _ rfl
      have g2 := field_one (by kernel_rfl) hfl 2 (by omega) (by omega) _ rfl
      obtain ⟨x0, e0, _, w0⟩ := DataW.trod_int Try.underlying72 g0
      obtain ⟨x1, e1, _, w1⟩ := DataW.trod_int Try.underlying72 g1
      obtain ⟨x2, e2, _, w2⟩ := DataW.trod_int Try.underlying5 g2
      have b0 := bounds_u64 w0
      have b1 := bounds_u64 w1
      have b2 := bounds_u8 w2
      have a0 := hat 0 (by omega)
      have a1 := hat 1 (by omega)
      have a2 := hat 2 (by omega)
      rw [List.getElem?_eq_getElem (by omega), List.singleton_inj.1 e0] at a0
      rw [List.getElem?_eq_getElem (by omega), List.singleton_inj.1 e1] at a1
      rw [List.getElem?_eq_getElem (by omega), List.singleton_inj.1 e2] at a2
      have hspot : spot = none := hsp (by omega)
      subst hspot
      rw [add_none, add_none] at a0 a1 a2
      refine ⟨⟨x0.toNat, x1.toNat, x2.toNat⟩, rfl, ⟨?_, ?_, ?_⟩, ⟨?_, ?_, ?_⟩⟩
      · rw [Nat.add_zero] at a0
        rw [a0]
        simp only [Option.some.injEq, Value.int.injEq, true_and]
        omega
      · rw [a1]
        simp only [Option.some.injEq, Value.int.injEq, true_and]
        omega
      · rw [a2]
        simp only [Option.some.injEq, Value.int.injEq, true_and]
        omega
      · simp only
        omega
      · simp only
        omega
      · simp only
        omega
    obtain ⟨xs, hxl, hxs⟩ := from_list one
    refine ⟨some ⟨b, off, spot⟩, xs, m, by rw [hxl], by rw [hxl]; exact hl, hm, fun hn => ⟨b, off, ?_, fun j hj => (hxs j hj).2.1⟩, fun x hx => ?_⟩
    · rw [(hxs 0 hn).1]
    · obtain ⟨j, hj, rfl⟩ := List.mem_iff_getElem.1 hx
      exact (hxs j hj).2.2
end
/-- a command that is told -/
structure Cm where
  kind : Int
  name : ByteArray
  to : ByteArray
  data : Part
  more : Part
  n : Int
  cA : Option Addr
  cs : List Ch
  cc : Nat
def Cm.cells (x : Cm) : List Value := [.int .i64 x.kind, .string x.name, .string x.to, x.data.v, x.more.v, .int .i64 x.n, .slice x.cA x.cs.length x.cc]
structure Cm.ok (w : World) (x : Cm) : Prop where
  data : x.data.ok w
  more : x.more.ok w
  row : ChRow w x.cA x.cs
  chs : ∀ c ∈ x.cs, c.ok
  kind : I64' x.kind
  n : I64' x.n
def CmRow (w : World) (A : Option Addr) (l : List Cm) : Prop :=
  0 < l.length → ∃ b off, A = some ⟨b, off, none⟩ ∧ ∀ j (h : j < l.length), w.cell? ⟨b, off + j * 7, none⟩ = some (.int .i64 l[j].kind) ∧ w.cell? ⟨b, off + j * 7 + 1, none⟩ = some (.string l[j].name) ∧ w.cell? ⟨b, off + j * 7 + 2, none⟩ = some (.string l[j].to) ∧
    w.cell? ⟨b, off + j * 7 + 3, none⟩ = some l[j].data.v ∧ w.cell? ⟨b, off + j * 7 + 4, none⟩ = some l[j].more.v ∧ w.cell? ⟨b, off + j * 7 + 5, none⟩ = some (.int .i64 l[j].n) ∧ w.cell? ⟨b, off + j * 7 + 6, none⟩ = some (.slice l[j].cA l[j].cs.length l[j].cc)
theorem CmRow.below {w w' : World} {A : Option Addr} {l : List Cm} (h : CmRow w A l) (hb : Below w.heap.size w w') : CmRow w' A l := fun hn => by
  obtain ⟨b, off, e, hc⟩ := h hn
  refine ⟨b, off, e, fun j hj => ?_⟩
  obtain ⟨h0, h1, h2, h3, h4, h5, h6⟩ := hc j hj
  have hl := World.block_lt_of_cell? w _ h0
  have hs := hb.block b hl
  exact ⟨(World.cell?_of_block (a := ⟨b, off + j * 7, none⟩) hs).trans h0, (World.cell?_of_block (a := ⟨b, off + j * 7 + 1, none⟩) hs).trans h1, (World.cell?_of_block (a := ⟨b, off + j * 7 + 2, none⟩) hs).trans h2, (World.cell?_of_block (a := ⟨b, off + j * 7 + 3, none⟩) hs).trans h3,
    (World.cell?_of_block (a := ⟨b, off + j * 7 + 4, none⟩) hs).trans h4, (World.cell?_of_block (a := ⟨b, off + j * 7 + 5, none⟩) hs).trans h5, (World.cell?_of_block (a := ⟨b, off + j * 7 + 6, none⟩) hs).trans h6⟩
section
variable {H : Type} {enc : TypeId × Value → H} {w : World} {base : Nat} {held : Bool} {a : Option Addr} {n c : Nat} {d : DataW H} {p : List MemPlace}
set_option maxRecDepth 100000 in
theorem cms_of (h : DataW.Trod enc Try.prog w base (fun _ => true) held 22 (.slice a n c) d p) : ∃ l : List Cm, n = l.length ∧ CmRow w a l ∧ (∀ x ∈ l, x.ok w) ∧ l.length ≤ 9223372036854775807 := by
  obtain ⟨fuel, hf⟩ := h
  rcases open_slice Try.underlying22 hf with ⟨hcs, _⟩ | ⟨⟨b, off, spot⟩, l, c', m, k, D, Pl, hcs, _, hl, hm, hmm, _, hi⟩
  · simp [Value.cells] at hcs
    obtain ⟨rfl, rfl, rfl⟩ := hcs
    exact ⟨[], rfl, fun h => absurd h (by simp), (fun z hz => by cases hz), by simp⟩
  · simp [Value.cells] at hcs
    obtain ⟨rfl, rfl, rfl⟩ := hcs
    simp only [if_true] at hmm
    subst hmm
    have hC : Try.prog.cellsOf 38 = 7 := by kernel_rfl
    have hsp : 0 < n → spot = none := fun h0 => by
      obtain ⟨cs', hc, _⟩ := hi 0 (by omega)
      rw [hC] at hc
      obtain ⟨_, hcl, hat⟩ := World.cells?_some hc
      have a0 := hat 0 (by omega)
      rw [List.getElem?_eq_getElem (by omega)] at a0
      simpa [Addr.add] using World.cell?_spot a0
    have one : ∀ i, i < n → ∃ x : Cm, (spot = none) ∧ (w.cell? ⟨b, off + i * 7, none⟩ = some (.int .i64 x.kind) ∧ w.cell? ⟨b, off + i * 7 + 1, none⟩ = some (.string x.name) ∧ w.cell? ⟨b, off + i * 7 + 2, none⟩ = some (.string x.to) ∧
        w.cell? ⟨b, off + i * 7 + 3, none⟩ = some x.data.v ∧ w.cell? ⟨b, off + i * 7 + 4, none⟩ = some x.more.v ∧ w.cell? ⟨b, off + i * 7 + 5, none⟩ = some (.int .i64 x.n) ∧ w.cell? ⟨b, off + i * 7 + 6, none⟩ = some (.slice x.cA x.cs.length x.cc)) ∧ x.ok w := fun i hin => by
      obtain ⟨cs', hc, ht⟩ := hi i (by omega)
      rw [hC] at hc
      obtain ⟨ys, n', _, hy, hlen, hyl, hfl⟩ := DataW.trod_struct Try.underlying38 ht
      obtain ⟨_, hcl, hat⟩ := World.cells?_some hc
      have hyl2 : ys.length = 7 := hyl
      have g0 := field_one (by kernel_rfl) hfl 0 (by omega) (by omega) _ rfl
      have g1 := field_one (by kernel_rfl) hfl 1 (by omega) (by omega) _ rfl
      have g2 := field_one (by kernel_rfl) hfl 2 (by omega) (by omega) _ rfl
      have g3 := field_one (by kernel_rfl) hfl 3 (by omega) (by omega) _ rfl
      have g4 := field_one (by kernel_rfl) hfl 4 (by omega) (by omega) _ rfl
      have g5 := field_one (by kernel_rfl) hfl 5 (by omega) (by omega) _ rfl
      have g6 := field_one (by kernel_rfl) hfl 6 (by omega) (by omega) _ rfl
      obtain ⟨x0, e0, _, w0⟩ := DataW.trod_int Try.underlying3 g0
      obtain ⟨x1, e1, _, _⟩ := DataW.trod_string Try.underlying9 g1
      obtain ⟨x2, e2, _, _⟩ := DataW.trod_string Try.underlying9 g2
      obtain ⟨x3, e3, o3⟩ := part_cell g3
      obtain ⟨x4, e4, o4⟩ := part_cell g4
      obtain ⟨x5, e5, _, w5⟩ := DataW.trod_int Try.underlying3 g5
      obtain ⟨cA, cs, cc, e6, _, _, o6, o7⟩ := chs_cell g6
      have a0 := hat 0 (by omega)
      have a1 := hat 1 (by omega)
      have a2 := hat 2 (by omega)
      have a3 := hat 3 (by omega)
      have a4 := hat 4 (by omega)
      have a5 := hat 5 (by omega)
      have a6 := hat 6 (by omega)
      rw [List.getElem?_eq_getElem (by omega), List.singleton_inj.1 e0] at a0
      rw [List.getElem?_eq_getElem (by omega), List.singleton_inj.1 e1] at a1
      rw [List.getElem?_eq_getElem (by omega), List.singleton_inj.1 e2] at a2
      rw [List.getElem?_eq_getElem (by omega), e3] at a3
      rw [List.getElem?_eq_getElem (by omega), e4] at a4
      rw [List.getElem?_eq_getElem (by omega), List.singleton_inj.1 e5] at a5
      rw [List.getElem?_eq_getElem (by omega), e6] at a6
      have hspot : spot = none := hsp (by omega)
      subst hspot
      rw [add_none, add_none] at a0 a1 a2 a3 a4 a5 a6
      exact ⟨⟨x0, x1, x2, x3, x4, x5, cA, cs, cc⟩, rfl, ⟨a0, a1, a2, a3, a4, a5, a6⟩, ⟨o3, o4, o6, o7, bounds_i64 w0, bounds_i64 w5⟩⟩
    obtain ⟨xs, hxl, hxs⟩ := from_list one
    refine ⟨xs, hxl.symm, fun hn => ⟨b, off, ?_, fun j hj => (hxs j hj).2.1⟩, fun x hx => ?_, by unfold maxLen at hm; omega⟩
    · rw [(hxs 0 hn).1]
    · obtain ⟨j, hj, rfl⟩ := List.mem_iff_getElem.1 hx
      exact (hxs j hj).2.2
end
end Go.Proofs.Ytpnhgongjfknbaa
