/-
  The contracts of an Out: numbers with a sign, bools, texts; rows laid by the caller.
-/
import Derived.Test.YtoipokjoklhfjaaDoorCoC
namespace Go.Proofs.YtoipokjoklhfjaaDoor
open Go.RowKit numb

/-- a row laid in a new block -/
theorem row_laid {α : Type} (enc : α → Value) (w : World) (l : List α) (cs : Array Value) (hcs : cs = (l.map enc).toArray) (t : TypeId) (f : Nat × Nat) : Row enc (w.alloc (.cells cs t f)) (some ⟨w.heap.size, 0, none⟩) l := fun _ => by
  refine ⟨_, 0, rfl, fun j hj => ?_⟩
  rw [Nat.zero_add, cell_of_row _ _ j cs t f (heap_alloc_new w _), hcs]
  simp [hj]
theorem far_laid {w : World} {b : Nat} {v : Value} {l : List Nat} (h : OutAt w b v l) (n : Nat) : Far b v (some ⟨w.heap.size, 0, none⟩) n := fun _ x hx => by
  obtain rfl := Option.some.inj hx
  refine ⟨fun e => ?_, fun e => ?_⟩
  · have := h.lt
    simp only at e
    omega
  · have := (h.own.block e).2
    simp only at this
    omega

theorem out_uint_laid (b : Nat) (v : Value) (l : List Nat) (ns : List Nat) (cs : Array Value) (hcs : cs = (ns.map eU).toArray) (f : Nat × Nat) (n c : Nat) (hn : n = ns.length) (w : World) (h : OutAt w b v l) (hU : ∀ n ∈ ns, U64 n) (hc : ns.length ≤ 1099511627) (hsz : l.length + 10 * ns.length ≤ 1099511627776) :
    Calls Tryd.prog 33 #[.pointer (some ⟨b, 0, none⟩), .slice (some ⟨w.heap.size, 0, none⟩) n c] (w.alloc (.cells cs 53 f)) fun e w' => e = .returned (.tuple #[]) ∧ ∃ v', OutAt w' b v' (l ++ ns.flatMap uint) ∧ OutStep b v w v' w' := by
  subst hn
  refine (out_uint_any b v l (some ⟨w.heap.size, 0, none⟩) ns c _ (h.alloc _) (row_laid eU w ns cs hcs _ f) (far_laid h _) hU hc hsz).mono ?_
  rintro e w' ⟨he, v', h1, h2⟩
  exact ⟨he, v', h1, (OutStep.below ((Below.refl _ _).alloc (Nat.le_refl _) _)).trans h2⟩
/-- one number -/
theorem out_uint_one (b : Nat) (v : Value) (l : List Nat) (z : Nat) (w : World) (h : OutAt w b v l) (hz : U64 z) (hsz : l.length + 10 ≤ 1099511627776) :
    Calls Tryd.prog 33 #[.pointer (some ⟨b, 0, none⟩), .slice (some ⟨w.heap.size, 0, none⟩) 1 1] (w.alloc (.cells #[.int .u64 (z : Nat)] 53)) fun e w' => e = .returned (.tuple #[]) ∧ ∃ v', OutAt w' b v' (l ++ uint z) ∧ OutStep b v w v' w' := by
  have := out_uint_laid b v l [z] _ rfl (0, 0) 1 1 rfl w h (by simpa using hz) (by simp) (by simpa using hsz)
  rw [show [z].flatMap uint = uint z by simp] at this
  exact this

theorem zig_U64 {n : Int} (h : I64 n) : U64 (zig n) := zig_lt h.1 h.2
theorem pre_length_int (ns : List Int) : ∀ k, (∀ n ∈ ns, I64 n) → k ≤ ns.length → ((ns.take k).flatMap fun n => uint (zig n)).length ≤ 10 * k := by
  intro k hU hk
  have := pre_length (ns.map zig) k (fun z hz => by
    simp only [List.mem_map] at hz
    obtain ⟨n, hn, rfl⟩ := hz
    exact zig_U64 (hU n hn)) (by simpa using hk)
  rw [← List.map_take, List.flatMap_map] at this
  exact this

def bit (x : Bool) : Nat := if x then 1 else 0
theorem out_raw_one (b : Nat) (v : Value) (l : List Nat) (z : Nat) (w : World) (h : OutAt w b v l) (hsz : l.length + 1 ≤ 1099511627776) :
    Calls Tryd.prog 34 #[.pointer (some ⟨b, 0, none⟩), .slice (some ⟨w.heap.size, 0, none⟩) 1 1] (w.alloc (.cells #[.int .u8 (z : Nat)] 5)) fun e w' => e = .returned (.tuple #[]) ∧ ∃ v', OutAt w' b v' (l ++ [z]) ∧ OutStep b v w v' w' := by
  refine (out_raw_any b v l (some ⟨w.heap.size, 0, none⟩) [z] 1 _ (h.alloc _) (row_laid e8 w [z] _ rfl _ _) (by simpa using hsz)).mono ?_
  rintro e w' ⟨he, v', h1, h2⟩
  exact ⟨he, v', h1, (OutStep.below ((Below.refl _ _).alloc (Nat.le_refl _) _)).trans h2⟩
/-- a text's bytes -/
def text (l : List Nat) : List Nat := uint l.length ++ l
end Go.Proofs.YtoipokjoklhfjaaDoor
