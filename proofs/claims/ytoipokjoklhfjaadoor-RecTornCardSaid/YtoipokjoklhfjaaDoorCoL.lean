/-
  The fixed answers.
-/
import Derived.Test.YtoipokjoklhfjaaDoorCoK
namespace Go.Proofs.YtoipokjoklhfjaaDoor
open Go.RowKit numb

theorem out_uint_laid' (b : Nat) (v : Value) (l : List Nat) (ns : List Nat) (cs : Array Value) (hcs : cs = (ns.map eU).toArray) (f : Nat × Nat) (n c : Nat) (hn : n = ns.length) (w : World) (g : Nat) (hg : g = w.heap.size) (h : OutAt w b v l) (hU : ∀ n ∈ ns, U64 n) (hc : ns.length ≤ 1099511627) (hsz : l.length + 10 * ns.length ≤ 1099511627776) :
    Calls Tryd.prog 33 #[.pointer (some ⟨b, 0, none⟩), .slice (some ⟨g, 0, none⟩) n c] (w.alloc (.cells cs 53 f)) fun e w' => e = .returned (.tuple #[]) ∧ ∃ v', OutAt w' b v' (l ++ ns.flatMap uint) ∧ OutStep b v w v' w' := by
  subst hg
  exact out_uint_laid b v l ns cs hcs f n c hn w h hU hc hsz
/-- a new Out -/
theorem out_new (w : World) : OutAt (w.alloc (.cells #[.slice none 0 0] 70)) w.heap.size (.slice none 0 0) [] :=
  ⟨cell_of_row _ _ 0 _ _ _ (heap_alloc_new w _), frozen_new _ _ _ _, own_nil _ _, by simp [Value.ownBlock]⟩

theorem out_new' (w : World) (g : Nat) (hg : g = w.heap.size) : OutAt (w.alloc (.cells #[.slice none 0 0] 70)) g (.slice none 0 0) [] := by
  subst hg
  exact out_new w
theorem nil_own (k : Nat) : (Value.slice none 0 0).ownBlock ≠ some k := by simp [Value.ownBlock]
theorem uint_300 : [300, 0].flatMap uint = [172, 2, 0] := by
  simp only [List.flatMap_cons, List.flatMap_nil, uint_big (v := 300) (by omega), uint_small (v := 300 / 128) (by omega), uint_small (v := 0) (by omega)]
  rfl
theorem int_1 : ([(-1 : Int)].flatMap fun n => uint (zig n)) = [1] := by
  simp only [List.flatMap_cons, List.flatMap_nil, show zig (-1) = 1 from rfl, uint_small (v := 1) (by omega)]
  rfl
def ab : ByteArray := ⟨#[97, 98]⟩
theorem ab_size : ab.size = 2 := rfl
theorem ab_le : ab.size ≤ 1099511627 := by rw [ab_size]; omega
theorem ab_le2 : ([172, 2, 0] ++ [1] ++ [true].map bit).length + 10 + ab.size ≤ 1099511627776 := by rw [ab_size]; simp
theorem text_ab : text (natsOf ab) = [2, 97, 98] := by
  unfold text
  rw [show natsOf ab = [97, 98] from rfl, show [97, 98].length = 2 from rfl, uint_small (by omega)]
  rfl

def all8 : List Nat := [172, 2, 0, 1, 1, 2, 97, 98]
theorem ev_uint : St.uint ⟨all8, 0⟩ = (⟨[0, 1, 1, 2, 97, 98], 0⟩, 300) := by rfl
theorem ev_below : St.below ⟨[0, 1, 1, 2, 97, 98], 0⟩ 0 = (⟨[1, 1, 2, 97, 98], 0⟩, 0) := by rfl
theorem ev_int : St.int ⟨[1, 1, 2, 97, 98], 0⟩ = (⟨[1, 2, 97, 98], 0⟩, -1) := by rfl
theorem ev_bool : St.bool ⟨[1, 2, 97, 98], 0⟩ = (⟨[2, 97, 98], 0⟩, true) := by rfl
theorem ev_below2 : St.below ⟨[2, 97, 98], 0⟩ 2 = (⟨[97, 98], 0⟩, 2) := by rfl
theorem ev_text : St.text ⟨[2, 97, 98], 0⟩ 2 = (⟨[], 0⟩, [97, 98]) := by rfl
theorem ev_fin : St.fin ⟨[], 0⟩ = 0 := by rfl
theorem ev_bad : St.uint ⟨[128, 0], 0⟩ = (⟨[], 10⟩, 0) := by rfl
theorem all8_are : AreBytes all8 := by unfold AreBytes all8; decide
theorem bad_are : AreBytes [128, 0] := by unfold AreBytes; decide

end Go.Proofs.YtoipokjoklhfjaaDoor
