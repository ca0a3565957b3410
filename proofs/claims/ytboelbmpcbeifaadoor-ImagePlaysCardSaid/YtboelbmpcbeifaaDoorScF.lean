/-
  The fixed answers.
-/
import Derived.Test.YtboelbmpcbeifaaDoorScE
import Derived.Below
import Derived.Lib.SlBytesConst
namespace Go.Proofs.YtboelbmpcbeifaaDoor.crcs
open Go.RowKit crcm

theorem below_drew {B : Nat} {a w w' : World} (h : Below B a w) (hd : Drew w w') : Below B a w' := by
  obtain ⟨n, rfl⟩ := hd
  exact ⟨h.os, h.tape, h.output, h.size, h.block⟩
theorem TabAt.pos {w : World} (h : TabAt w) : 0 < w.heap.size := World.block_lt_of_cell? w _ (h 0 (by omega))
theorem TabAt.below {w w' : World} (h : TabAt w) (hb : Below w.heap.size w w') : TabAt w' := fun j hj => (hb.cell (p := ⟨_, j, none⟩) h.pos).trans (h j hj)

/-- the sum of one part -/
theorem sum_one (b off : Nat) (a : Option Addr) (l : List Nat) (c c' : Nat) (w : World) (hc : w.cell? ⟨b, off, none⟩ = some (.slice a l.length c)) (hlc : l.length ≤ c) (hcm : c ≤ maxLen) (hb : Bs w a l) (hw : AreBytes l) (ht : TabAt w) :
    Calls Tryd.prog 37 #[.slice (some ⟨b, off, none⟩) 1 c'] w fun e w' => e = .returned (.int .u32 (sum l : Nat)) ∧ Drew w w' := by
  have h := sum_any (some ⟨b, off, none⟩) [⟨a, l, c⟩] c' w (by simp [maxLen]) (fun _ => ⟨b, off, rfl, fun j hj => by
    have : j = 0 := by simpa using hj
    subst this
    exact hc⟩) (fun p hp => by
    have : p = ⟨a, l, c⟩ := by simpa using hp
    subst this
    exact ⟨hlc, hcm, hb, hw⟩) ht
  have e : bytesOf [⟨a, l, c⟩] = l := by simp [bytesOf]
  rw [e] at h
  exact h
/-- of no part -/
theorem sum_none (w : World) (ht : TabAt w) : Calls Tryd.prog 37 #[.slice none 0 0] w fun e w' => e = .returned (.int .u32 0) ∧ Drew w w' :=
  sum_any none [] 0 w (by simp [maxLen]) (fun h => absurd h (by simp)) (fun p hp => by simp at hp) ht

def nine : List Nat := [49, 50, 51, 52, 53, 54, 55, 56, 57]
theorem sum_nine : sum nine = 3421780262 := by decide +kernel
theorem sum_1 : sum [49] = 2212294583 := by decide +kernel
theorem next_1 : sts 8 ((0 ^^^ 4294967295) ^^^ 49) ^^^ 4294967295 = 2212294583 := by decide +kernel

theorem cell_new (w : World) (cs : Array Value) (t : TypeId) (f : Nat × Nat) (j : Nat) : (w.alloc (.cells cs t f)).cell? ⟨w.heap.size, j, none⟩ = cs[j]? :=
  cell_of_row _ _ j cs t f (heap_alloc_new w _)
theorem Bs.keep {w w' : World} {b off : Nat} {l : List Nat} (h : Bs w (some ⟨b, off, none⟩) l) (hk : ∀ o, w'.cell? ⟨b, o, none⟩ = w.cell? ⟨b, o, none⟩) : Bs w' (some ⟨b, off, none⟩) l := fun hn => by
  obtain ⟨b', off', e, hc⟩ := h hn
  simp only [Option.some.injEq, Addr.mk.injEq, and_true] at e
  obtain ⟨rfl, rfl⟩ := e
  exact ⟨b, off, rfl, fun j hj => (hk _).trans (hc j hj)⟩
theorem size_alloc (w : World) (o : Obj) : (w.alloc o).heap.size = w.heap.size + 1 := by simp

/-- a row of bytes laid, and a row of parts behind it that names it -/
theorem sum_laid (w : World) (l : List Nat) (cs : Array Value) (hcs : cs = (l.map fun z => Value.int .u8 (z : Nat)).toArray) (f : Nat × Nat) (n : Nat) (hn : n = l.length) (hm : n ≤ maxLen) (hw : AreBytes l) (ht : TabAt w) (c : Nat) :
    Calls Tryd.prog 37 #[.slice (some ⟨w.heap.size + 1, 0, none⟩) 1 c] ((w.alloc (.cells cs 5 f)).alloc (.cells #[.slice (some ⟨w.heap.size, 0, none⟩) n n] 69)) fun e w' =>
      e = .returned (.int .u32 (sum l : Nat)) ∧ Below w.heap.size w w' := by
  subst hn
  have hB : Below w.heap.size w ((w.alloc (.cells cs 5 f)).alloc (.cells #[.slice (some ⟨w.heap.size, 0, none⟩) l.length l.length] 69)) :=
    ((Below.refl _ _).alloc (Nat.le_refl _) _).alloc (by simp) _
  have hbs : Bs (w.alloc (.cells cs 5 f)) (some ⟨w.heap.size, 0, none⟩) l := fun _ => by
    refine ⟨_, 0, rfl, fun j hj => ?_⟩
    rw [Nat.zero_add, cell_new, hcs]
    simp [hj]
  refine (sum_one (w.heap.size + 1) 0 (some ⟨w.heap.size, 0, none⟩) l l.length c _ ?_ (Nat.le_refl _) hm (hbs.keep fun o => World.cell?_alloc_lt _ _ _ (by simp)) hw (ht.below hB)).mono ?_
  · rw [← size_alloc w (.cells cs 5 f), cell_new]
    rfl
  · rintro e w' ⟨rfl, hd⟩
    exact ⟨rfl, below_drew hB hd⟩
end Go.Proofs.YtboelbmpcbeifaaDoor.crcs
