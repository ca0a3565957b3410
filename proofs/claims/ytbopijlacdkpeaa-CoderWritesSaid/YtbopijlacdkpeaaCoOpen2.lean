/-
  What arguments give: slices of structs (Ask, Item).
-/
import Derived.Test.YtbopijlacdkpeaaCoOpen
import Derived.Deep.Fields
namespace Go.Proofs.Ytbopijlacdkpeaa
open Go.RowKit Go.ChangeShapes Go.WideShapes Go.ChangeAt Go.Deep

theorem from_list {α : Type} {n : Nat} {p : Nat → α → Prop} (h : ∀ i, i < n → ∃ x, p i x) : ∃ l : List α, l.length = n ∧ ∀ i (hi : i < l.length), p i l[i] := by
  induction n with
  | zero => exact ⟨[], rfl, fun i hi => by simp at hi⟩
  | succ n ih =>
    obtain ⟨l, hl, hp⟩ := ih (fun i hi => h i (by omega))
    obtain ⟨x, hx⟩ := h n (by omega)
    refine ⟨l ++ [x], by simp [hl], fun i hi => ?_⟩
    rw [List.length_append, List.length_cons, List.length_nil] at hi
    by_cases hin : i < l.length
    · rw [List.getElem_append_left hin]
      exact hp i hin
    · have : i = n := by omega
      subst this
      have e : (l ++ [x])[i]'(by rw [List.length_append, List.length_cons, List.length_nil]; omega) = x := by
        rw [List.getElem_append_right (by omega)]
        simp [hl]
      rw [e]
      exact hx

/-- a row of Asks: kind, number -/
def AskRow (w : World) (A : Option Addr) (l : List (Int × Int)) : Prop :=
  0 < l.length → ∃ b off, A = some ⟨b, off, none⟩ ∧ ∀ j (h : j < l.length), w.cell? ⟨b, off + j * 2, none⟩ = some (.int .i64 l[j].1) ∧ w.cell? ⟨b, off + j * 2 + 1, none⟩ = some (.int .i64 l[j].2)
theorem AskRow.below {w w' : World} {A : Option Addr} {l : List (Int × Int)} (h : AskRow w A l) (hb : Below w.heap.size w w') : AskRow w' A l := fun hn => by
  obtain ⟨b, off, e, hc⟩ := h hn
  exact ⟨b, off, e, fun j hj => ⟨(hb.cell (World.block_lt_of_cell? w _ (hc j hj).1)).trans (hc j hj).1, (hb.cell (World.block_lt_of_cell? w _ (hc j hj).2)).trans (hc j hj).2⟩⟩

section
variable {H : Type} {enc : TypeId × Value → H} {w : World} {base : Nat} {held : Bool} {a : Option Addr} {n c : Nat} {d : DataW H} {p : List MemPlace}
theorem field_one {fs : Array Field} (hone : oneCellFields Try.prog fs = true) {k : Nat} {spare : Nat → Bool} {cs : List Value} {ys : List (DataW H × List MemPlace)}
    (hfl : ∀ (i : Nat) (f : Field), fs[i]? = some f → DataW.trod enc Try.prog w base spare held k f.type ((cs.drop f.offset).take (Try.prog.cellsOf f.type)) = ys[i]?) (j : Nat) (hj : j < cs.length) (hy : j < ys.length) (f : Field) (hf : fs[j]? = some f) :
    DataW.trod enc Try.prog w base spare held k f.type [cs[j]] = some ys[j] := by
  obtain ⟨ho, hk⟩ := hone_of hone j f hf
  have h1 := hfl j f hf
  rw [ho, hk, List.drop_eq_getElem_cons hj] at h1
  exact h1.trans (List.getElem?_eq_getElem hy)

theorem asks_of (h : DataW.Trod enc Try.prog w base (fun _ => true) held 46 (.slice a n c) d p) : ∃ l : List (Int × Int), n = l.length ∧ AskRow w a l ∧ ∀ x ∈ l, I64 x.1 ∧ I64 x.2 := by
  obtain ⟨fuel, hf⟩ := h
  rcases open_slice Try.underlying46 hf with ⟨hcs, _⟩ | ⟨⟨b, off, spot⟩, l, c', m, k, D, Pl, hcs, _, hl, hm, hmm, _, hi⟩
  · simp [Value.cells] at hcs
    obtain ⟨rfl, rfl, rfl⟩ := hcs
    exact ⟨[], rfl, fun h => absurd h (by simp), fun z hz => by cases hz⟩
  · simp [Value.cells] at hcs
    obtain ⟨rfl, rfl, rfl⟩ := hcs
    simp only [if_true] at hmm
    subst hmm
    have hC : Try.prog.cellsOf 50 = 2 := by kernel_rfl
    have hsp : 0 < n → spot = none := fun h0 => by
      obtain ⟨cs', hc, _⟩ := hi 0 (by omega)
      rw [hC] at hc
      obtain ⟨_, hcl, hat⟩ := World.cells?_some hc
      have a0 := hat 0 (by omega)
      rw [List.getElem?_eq_getElem (by omega)] at a0
      simpa [Addr.add] using World.cell?_spot a0
    have one : ∀ i, i < n → ∃ x : Int × Int, (spot = none) ∧ (w.cell? ⟨b, off + i * 2, none⟩ = some (.int .i64 x.1) ∧ w.cell? ⟨b, off + i * 2 + 1, none⟩ = some (.int .i64 x.2)) ∧ I64 x.1 ∧ I64 x.2 := fun i hin => by
      obtain ⟨cs', hc, ht⟩ := hi i (by omega)
      rw [hC] at hc
      obtain ⟨ys, n', _, hy, hlen, hyl, hfl⟩ := DataW.trod_struct Try.underlying50 ht
      obtain ⟨_, hcl, hat⟩ := World.cells?_some hc
      have hyl2 : ys.length = 2 := hyl
      have g0 := field_one (by kernel_rfl) hfl 0 (by omega) (by omega) _ rfl
      have g1 := field_one (by kernel_rfl) hfl 1 (by omega) (by omega) _ rfl
      obtain ⟨x0, e0, _, w0⟩ := DataW.trod_int Try.underlying3 g0
      obtain ⟨x1, e1, _, w1⟩ := DataW.trod_int Try.underlying3 g1
      have a0 := hat 0 (by omega)
      have a1 := hat 1 (by omega)
      rw [List.getElem?_eq_getElem (by omega), List.singleton_inj.1 e0] at a0
      rw [List.getElem?_eq_getElem (by omega), List.singleton_inj.1 e1] at a1
      have hspot : spot = none := hsp (by omega)
      subst hspot
      rw [add_none, add_none] at a0 a1
      exact ⟨(x0, x1), rfl, ⟨a0, a1⟩, bounds_i64 w0, bounds_i64 w1⟩
    obtain ⟨xs, hxl, hxs⟩ := from_list one
    refine ⟨xs, hxl.symm, fun hn => ⟨b, off, ?_, fun j hj => (hxs j hj).2.1⟩, fun x hx => ?_⟩
    · rw [(hxs 0 hn).1]
    · obtain ⟨j, hj, rfl⟩ := List.mem_iff_getElem.1 hx
      exact (hxs j hj).2.2

/-- an Item -/
structure It where
  kind : Int
  n : Nat
  i : Int
  b : Bool
  s : ByteArray
end
/-- a row of Items -/
def ItRow (w : World) (A : Option Addr) (l : List It) : Prop :=
  0 < l.length → ∃ b off, A = some ⟨b, off, none⟩ ∧ ∀ j (h : j < l.length), w.cell? ⟨b, off + j * 5, none⟩ = some (.int .i64 l[j].kind) ∧ w.cell? ⟨b, off + j * 5 + 1, none⟩ = some (.int .u64 (l[j].n : Nat)) ∧ w.cell? ⟨b, off + j * 5 + 2, none⟩ = some (.int .i64 l[j].i) ∧
    w.cell? ⟨b, off + j * 5 + 3, none⟩ = some (.bool l[j].b) ∧ w.cell? ⟨b, off + j * 5 + 4, none⟩ = some (.string l[j].s)
theorem ItRow.below {w w' : World} {A : Option Addr} {l : List It} (h : ItRow w A l) (hb : Below w.heap.size w w') : ItRow w' A l := fun hn => by
  obtain ⟨b, off, e, hc⟩ := h hn
  refine ⟨b, off, e, fun j hj => ?_⟩
  obtain ⟨h0, h1, h2, h3, h4⟩ := hc j hj
  exact ⟨(hb.cell (World.block_lt_of_cell? w _ h0)).trans h0, (hb.cell (World.block_lt_of_cell? w _ h1)).trans h1, (hb.cell (World.block_lt_of_cell? w _ h2)).trans h2, (hb.cell (World.block_lt_of_cell? w _ h3)).trans h3, (hb.cell (World.block_lt_of_cell? w _ h4)).trans h4⟩
section
variable {H : Type} {enc : TypeId × Value → H} {w : World} {base : Nat} {held : Bool} {a : Option Addr} {n c : Nat} {d : DataW H} {p : List MemPlace}
theorem items_of (h : DataW.Trod enc Try.prog w base (fun _ => true) held 22 (.slice a n c) d p) : ∃ l : List It, n = l.length ∧ ItRow w a l ∧ ∀ x ∈ l, I64 x.kind ∧ U64 x.n ∧ I64 x.i := by
  obtain ⟨fuel, hf⟩ := h
  rcases open_slice Try.underlying22 hf with ⟨hcs, _⟩ | ⟨⟨b, off, spot⟩, l, c', m, k, D, Pl, hcs, _, hl, hm, hmm, _, hi⟩
  · simp [Value.cells] at hcs
    obtain ⟨rfl, rfl, rfl⟩ := hcs
    exact ⟨[], rfl, fun h => absurd h (by simp), fun z hz => by cases hz⟩
  · simp [Value.cells] at hcs
    obtain ⟨rfl, rfl, rfl⟩ := hcs
    simp only [if_true] at hmm
    subst hmm
    have hC : Try.prog.cellsOf 29 = 5 := by kernel_rfl
    have hsp : 0 < n → spot = none := fun h0 => by
      obtain ⟨cs', hc, _⟩ := hi 0 (by omega)
      rw [hC] at hc
      obtain ⟨_, hcl, hat⟩ := World.cells?_some hc
      have a0 := hat 0 (by omega)
      rw [List.getElem?_eq_getElem (by omega)] at a0
      simpa [Addr.add] using World.cell?_spot a0
    have one : ∀ i, i < n → ∃ x : It, (spot = none) ∧ (w.cell? ⟨b, off + i * 5, none⟩ = some (.int .i64 x.kind) ∧ w.cell? ⟨b, off + i * 5 + 1, none⟩ = some (.int .u64 (x.n : Nat)) ∧ w.cell? ⟨b, off + i * 5 + 2, none⟩ = some (.int .i64 x.i) ∧
        w.cell? ⟨b, off + i * 5 + 3, none⟩ = some (.bool x.b) ∧ w.cell? ⟨b, off + i * 5 + 4, none⟩ = some (.string x.s)) ∧ I64 x.kind ∧ U64 x.n ∧ I64 x.i := fun i hin => by
      obtain ⟨cs', hc, ht⟩ := hi i (by omega)
      rw [hC] at hc
      obtain ⟨ys, n', _, hy, hlen, hyl, hfl⟩ := DataW.trod_struct Try.underlying29 ht
      obtain ⟨_, hcl, hat⟩ := World.cells?_some hc
      have hyl2 : ys.length = 5 := hyl
      have g0 := field_one (by kernel_rfl) hfl 0 (by omega) (by omega) _ rfl
      have g1 := field_one (by kernel_rfl) hfl 1 (by omega) (by omega) _ rfl
      have g2 := field_one (by kernel_rfl) hfl 2 (by omega) (by omega) _ rfl
      have g3 := field_one (by kernel_rfl) hfl 3 (by omega) (by omega) _ rfl
      have g4 := field_one (by kernel_rfl) hfl 4 (by omega) (by omega) _ rfl
      obtain ⟨x0, e0, _, w0⟩ := DataW.trod_int Try.underlying3 g0
      obtain ⟨x1, e1, _, w1⟩ := DataW.trod_int Try.underlying27 g1
      obtain ⟨x2, e2, _, w2⟩ := DataW.trod_int Try.underlying3 g2
      obtain ⟨x3, e3, _⟩ := DataW.trod_bool Try.underlying4 g3
      obtain ⟨x4, e4, _, _⟩ := DataW.trod_string Try.underlying9 g4
      have b1 := bounds_u64 w1
      have a0 := hat 0 (by omega)
      have a1 := hat 1 (by omega)
      have a2 := hat 2 (by omega)
      have a3 := hat 3 (by omega)
      have a4 := hat 4 (by omega)
      rw [List.getElem?_eq_getElem (by omega), List.singleton_inj.1 e0] at a0
      rw [List.getElem?_eq_getElem (by omega), List.singleton_inj.1 e1] at a1
      rw [List.getElem?_eq_getElem (by omega), List.singleton_inj.1 e2] at a2
      rw [List.getElem?_eq_getElem (by omega), List.singleton_inj.1 e3] at a3
      rw [List.getElem?_eq_getElem (by omega), List.singleton_inj.1 e4] at a4
      have hspot : spot = none := hsp (by omega)
      subst hspot
      rw [add_none, add_none] at a0 a1 a2 a3 a4
      refine ⟨⟨x0, x1.toNat, x2, x3, x4⟩, rfl, ⟨a0, ?_, a2, a3, a4⟩, bounds_i64 w0, ?_, bounds_i64 w2⟩
      · rw [a1]
        simp only
        congr 2
        omega
      · show x1.toNat < _
        omega
    obtain ⟨xs, hxl, hxs⟩ := from_list one
    refine ⟨xs, hxl.symm, fun hn => ⟨b, off, ?_, fun j hj => (hxs j hj).2.1⟩, fun x hx => ?_⟩
    · rw [(hxs 0 hn).1]
    · obtain ⟨j, hj, rfl⟩ := List.mem_iff_getElem.1 hx
      exact (hxs j hj).2.2
end
end Go.Proofs.Ytbopijlacdkpeaa
