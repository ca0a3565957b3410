/-
  Layer 12: two rows of numbers made, and two variables for them: what a region that draws its order leaves.
-/
import Derived.Test.YtokochkjjlbnkaaTsC
import Derived.Test.YtokochkjjlbnkaaTsD
import Derived.Test.YtokochkjjlbnkaaRegv
import Derived.StillTailTactics
import Derived.Deep.Cut
namespace Go.Proofs.Ytokochkjjlbnkaa
open Go.RowKit trm itr

abbrev tInt : TypeId := 3
abbrev tInts : TypeId := 35
def zs0 (n : Nat) : List Value := (List.replicate n 0).map eI
theorem make_int0 (w : World) (n : Nat) (hn : n ≤ 20000000) : (Instr.makeSlice tInts (.int .i64 0) (.int .i64 (n : Nat))).run Try.prog w = .ok (.slice (some ⟨w.heap.size, 0, none⟩) 0 n) (w.alloc (.cells (zs0 n).toArray tInt)) := by
  obtain ⟨i, hi, hz, hsize, hby⟩ := info_parts info_int
  have h := run_make (P := Try.prog) w tInts tInt i (.int .i64 0) Try.underlying35 hi hz .i64 .i64 0 n (by omega) (by omega) (by rw [hby]; omega) (by omega)
  rw [hsize, Int.toNat_natCast, Nat.mul_one, made_one _ _ rfl] at h
  unfold zs0
  rw [List.map_replicate]
  exact h
def isMk (B n : Nat) (x : Value) (w : World) : Prop := ∃ a, x = .slice (some ⟨a, 0, none⟩) 0 n ∧ B ≤ a ∧ BlkT w a (zs0 n) tInt
def isVr (B : Nat) (x y : Value) (w : World) : Prop := ∃ g, x = .pointer (some ⟨g, 0, none⟩) ∧ B ≤ g ∧ BlkT w g [y] tInts
/-- how it stands: B: the heap's size at the start -/
structure J1 (B n : Nat) (i5 i11 i12 i13 i14 i15 : Bool) (x12 x18 x3 x4 : Value) (w : World) : Prop where
  sz : B ≤ w.heap.size
  a5 : i5 = true → isMk B n x12 w
  a11 : i11 = true → isMk B n x18 w
  a12 : i12 = true → isVr B x3 (bif i14 then x12 else .slice none 0 0) w
  a13 : i13 = true → isVr B x4 (bif i15 then x18 else .slice none 0 0) w
  o14 : i14 = true → i5 = true ∧ i12 = true
  o15 : i15 = true → i11 = true ∧ i13 = true
  d1 : i5 = true → i11 = true → x12 ≠ x18
  d2 : i12 = true → i13 = true → x3 ≠ x4
section
variable {B n : Nat} {i5 i11 i12 i13 i14 i15 : Bool} {x12 x18 x3 x4 : Value} {w w' : World}
theorem isMk.below {x : Value} (h : isMk B n x w) (hb : Below w.heap.size w w') : isMk B n x w' := by
  obtain ⟨a, e, h1, h2⟩ := h
  exact ⟨a, e, h1, h2.stays (hb.block _ h2.inside)⟩
theorem isVr.below {x y : Value} (h : isVr B x y w) (hb : Below w.heap.size w w') : isVr B x y w' := by
  obtain ⟨a, e, h1, h2⟩ := h
  exact ⟨a, e, h1, h2.stays (hb.block _ h2.inside)⟩
theorem isMk.ne {x : Value} (h : isMk B n x w) : x ≠ .slice (some ⟨w.heap.size, 0, none⟩) 0 n := by
  obtain ⟨a, rfl, h1, h2⟩ := h
  have := h2.inside
  intro e
  injection e with e
  injection e with e
  injection e with e
  omega
theorem isVr.ne {x y : Value} (h : isVr B x y w) : x ≠ .pointer (some ⟨w.heap.size, 0, none⟩) := by
  obtain ⟨a, rfl, h1, h2⟩ := h
  have := h2.inside
  intro e
  injection e with e
  injection e with e
  injection e with e
  omega
theorem J1.slots {u12 u18 u3 u4 : Value} (h : J1 B n i5 i11 i12 i13 i14 i15 x12 x18 x3 x4 w) (e1 : u12 = x12) (e2 : u18 = x18) (e3 : u3 = x3) (e4 : u4 = x4) : J1 B n i5 i11 i12 i13 i14 i15 u12 u18 u3 u4 w := by
  rw [e1, e2, e3, e4]; exact h
theorem J1.make5 (h : J1 B n i5 i11 i12 i13 i14 i15 x12 x18 x3 x4 w) (e : i5 = false) : J1 B n true i11 i12 i13 i14 i15 (.slice (some ⟨w.heap.size, 0, none⟩) 0 n) x18 x3 x4 (w.alloc (.cells (zs0 n).toArray tInt)) := by
  have hb : Below w.heap.size w (w.alloc (.cells (zs0 n).toArray tInt)) := (Below.refl _ _).alloc (Nat.le_refl _) _
  have e14 : i14 = false := by
    cases hi : i14 with
    | false => rfl
    | true => have := (h.o14 hi).1; rw [e] at this; cases this
  refine ⟨Nat.le_trans h.sz hb.size, fun _ => ⟨_, rfl, h.sz, BlkT.new w _ _⟩, fun k => (h.a11 k).below hb, fun k => ?_, fun k => (h.a13 k).below hb, fun k => ⟨rfl, (h.o14 k).2⟩, h.o15, fun _ k => Ne.symm (h.a11 k).ne, h.d2⟩
  have := (h.a12 k).below hb
  rw [e14] at this ⊢
  exact this
theorem J1.make11 (h : J1 B n i5 i11 i12 i13 i14 i15 x12 x18 x3 x4 w) (e : i11 = false) : J1 B n i5 true i12 i13 i14 i15 x12 (.slice (some ⟨w.heap.size, 0, none⟩) 0 n) x3 x4 (w.alloc (.cells (zs0 n).toArray tInt)) := by
  have hb : Below w.heap.size w (w.alloc (.cells (zs0 n).toArray tInt)) := (Below.refl _ _).alloc (Nat.le_refl _) _
  have e15 : i15 = false := by
    cases hi : i15 with
    | false => rfl
    | true => have := (h.o15 hi).1; rw [e] at this; cases this
  refine ⟨Nat.le_trans h.sz hb.size, fun k => (h.a5 k).below hb, fun _ => ⟨_, rfl, h.sz, BlkT.new w _ _⟩, fun k => (h.a12 k).below hb, fun k => ?_, h.o14, fun k => ⟨rfl, (h.o15 k).2⟩, fun k _ => (h.a5 k).ne, h.d2⟩
  have := (h.a13 k).below hb
  rw [e15] at this ⊢
  exact this
theorem J1.new12 (h : J1 B n i5 i11 i12 i13 i14 i15 x12 x18 x3 x4 w) (e : i12 = false) : J1 B n i5 i11 true i13 i14 i15 x12 x18 (.pointer (some ⟨w.heap.size, 0, none⟩)) x4 (w.alloc (.cells #[.slice none 0 0] tInts)) := by
  have hb : Below w.heap.size w (w.alloc (.cells #[.slice none 0 0] tInts)) := (Below.refl _ _).alloc (Nat.le_refl _) _
  have e14 : i14 = false := by
    cases hi : i14 with
    | false => rfl
    | true => have := (h.o14 hi).2; rw [e] at this; cases this
  subst e14
  exact ⟨Nat.le_trans h.sz hb.size, fun k => (h.a5 k).below hb, fun k => (h.a11 k).below hb, fun _ => ⟨_, rfl, h.sz, BlkT.new w [.slice none 0 0] _⟩, fun k => (h.a13 k).below hb, fun k => (nomatch k), h.o15, h.d1, fun _ k => Ne.symm (h.a13 k).ne⟩
theorem J1.new13 (h : J1 B n i5 i11 i12 i13 i14 i15 x12 x18 x3 x4 w) (e : i13 = false) : J1 B n i5 i11 i12 true i14 i15 x12 x18 x3 (.pointer (some ⟨w.heap.size, 0, none⟩)) (w.alloc (.cells #[.slice none 0 0] tInts)) := by
  have hb : Below w.heap.size w (w.alloc (.cells #[.slice none 0 0] tInts)) := (Below.refl _ _).alloc (Nat.le_refl _) _
  have e15 : i15 = false := by
    cases hi : i15 with
    | false => rfl
    | true => have := (h.o15 hi).2; rw [e] at this; cases this
  subst e15
  exact ⟨Nat.le_trans h.sz hb.size, fun k => (h.a5 k).below hb, fun k => (h.a11 k).below hb, fun k => (h.a12 k).below hb, fun _ => ⟨_, rfl, h.sz, BlkT.new w [.slice none 0 0] _⟩, h.o14, fun k => (nomatch k), h.d1, fun k _ => (h.a12 k).ne⟩
theorem isMk.set {x v : Value} {g : Nat} {cs : List Value} (h : isMk B n x w) (hg : BlkT w g cs tInts) : isMk B n x (w.setCell ⟨g, 0, none⟩ v) := by
  obtain ⟨a, e, h1, h2⟩ := h
  refine ⟨a, e, h1, h2.stays (heap_setCell_other _ _ _ _ fun (e : a = g) => ?_)⟩
  rw [e] at h2
  have := h2.symm.trans hg
  simp only [Option.some.injEq, Obj.cells.injEq] at this
  exact absurd this.2.1 (by decide)
theorem J1.put14 {g : Nat} (h : J1 B n i5 i11 i12 i13 i14 i15 x12 x18 x3 x4 w) (e5 : i5 = true) (e12 : i12 = true) (e : x3 = .pointer (some ⟨g, 0, none⟩)) : J1 B n i5 i11 i12 i13 true i15 x12 x18 x3 x4 (w.setCell ⟨g, 0, none⟩ x12) := by
  obtain ⟨g', e', hg, hb⟩ := h.a12 e12
  have e2 := e.symm.trans e'
  injection e2 with e2
  injection e2 with e2
  injection e2 with e2
  subst e2
  refine ⟨by simpa [World.setCell] using h.sz, fun k => (h.a5 k).set hb, fun k => (h.a11 k).set hb, fun _ => ⟨g, e, hg, hb.set 0 x12⟩, fun k => ?_, fun _ => ⟨e5, e12⟩, h.o15, h.d1, h.d2⟩
  obtain ⟨g2, e3, hg2, hb2⟩ := h.a13 k
  refine ⟨g2, e3, hg2, hb2.stays (heap_setCell_other _ _ _ _ fun (e4 : g2 = g) => h.d2 e12 k ?_)⟩
  rw [e, e3, e4]
theorem J1.put15 {g : Nat} (h : J1 B n i5 i11 i12 i13 i14 i15 x12 x18 x3 x4 w) (e11 : i11 = true) (e13 : i13 = true) (e : x4 = .pointer (some ⟨g, 0, none⟩)) : J1 B n i5 i11 i12 i13 i14 true x12 x18 x3 x4 (w.setCell ⟨g, 0, none⟩ x18) := by
  obtain ⟨g', e', hg, hb⟩ := h.a13 e13
  have e2 := e.symm.trans e'
  injection e2 with e2
  injection e2 with e2
  injection e2 with e2
  subst e2
  refine ⟨by simpa [World.setCell] using h.sz, fun k => (h.a5 k).set hb, fun k => (h.a11 k).set hb, fun k => ?_, fun _ => ⟨g, e, hg, hb.set 0 x18⟩, h.o14, fun _ => ⟨e11, e13⟩, h.d1, h.d2⟩
  obtain ⟨g2, e3, hg2, hb2⟩ := h.a12 k
  refine ⟨g2, e3, hg2, hb2.stays (heap_setCell_other _ _ _ _ fun (e4 : g2 = g) => h.d2 k e13 ?_)⟩
  rw [e, e3, e4]
end
end Go.Proofs.Ytokochkjjlbnkaa
