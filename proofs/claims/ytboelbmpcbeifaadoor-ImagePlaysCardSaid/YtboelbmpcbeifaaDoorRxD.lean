/-
  Layer 6: about, Less.
-/
import Derived.Test.YtboelbmpcbeifaaDoorRxC
namespace Go.Proofs.YtboelbmpcbeifaaDoor
open Go.RowKit

def Bx.v16 (p q s t : Bx) : Value := .agg #[.int .i64 p.a, .int .i64 p.b, .int .i64 p.c, .int .i64 p.d, .int .i64 q.a, .int .i64 q.b, .int .i64 q.c, .int .i64 q.d, .int .i64 s.a, .int .i64 s.b, .int .i64 s.c, .int .i64 s.d, .int .i64 t.a, .int .i64 t.b, .int .i64 t.c, .int .i64 t.d]
def Bx.pts (r h : Bx) : List Bx := [⟨r.a, r.b, r.c, h.b⟩, ⟨r.a, h.b, h.a, h.d⟩, ⟨h.c, h.b, r.c, h.d⟩, ⟨r.a, h.d, r.c, r.d⟩]
def Bx.full (p : Bx) : Bool := !p.emp
def Bx.less (r s : Bx) : List Bx := if r.emp = true then [] else if r.cut [s] = Bx.o then [r] else (r.pts (r.cut [s])).filter Bx.full
abbrev BOwn (w : World) (base : Nat) (v : Value) (l : List Bx) : Prop := SOwn 30 4 Bx.cs w base v l
theorem info_rect : (Tryd.prog.info? 30).map (fun i => (i.zero, i.size, i.bytes)) = some (some (.agg #[.int .i64 0, .int .i64 0, .int .i64 0, .int .i64 0]), 4, 32) := by kernel_rfl
theorem bcs_plain (x : Bx) : ∀ u ∈ Bx.cs x, u.oneCell' = true := by
  intro u hu
  simp only [Bx.cs, List.mem_cons, List.not_mem_nil, or_false] at hu
  rcases hu with rfl | rfl | rfl | rfl <;> rfl
theorem app_bx {w : World} {base : Nat} {v : Value} {l xs : List Bx} (h : BOwn w base v l) {g o c : Nat} (hx : xs ≠ [] → BRow w (some ⟨g, o, none⟩) xs) (hn : l.length + xs.length ≤ 1000000000) (hbase : base ≤ w.heap.size) :
    ∃ v' w', (Builtin.append_ #[39, 39] 39 #[v, .slice (some ⟨g, o, none⟩) xs.length c]).run Tryd.prog w = .ok v' w' ∧ BOwn w' base v' (l ++ xs) ∧ w.grownBy w' v.ownBlock ∧ (v'.ownBlock = v.ownBlock ∨ v'.ownBlock = some w.heap.size) :=
  SOwn.app Tryd.underlying39 info_rect rfl (by decide) (by decide) bcs_len bcs_plain h hx hn hbase
theorem filter_snoc {α : Type} (p : α → Bool) (l : List α) {k : Nat} (hk : k < l.length) : (l.take (k + 1)).filter p = (l.take k).filter p ++ (if p l[k] = true then [l[k]] else []) := by
  rw [List.take_succ_eq_append_getElem hk, List.filter_append]
  congr 1
  by_cases h : p l[k] = true
  · rw [if_pos h, List.filter_cons_of_pos h]; rfl
  · rw [if_neg h, List.filter_cons_of_neg h]; rfl
def LessQ (r s : Bx) (w : World) (e : Ending) (w' : World) : Prop := ∃ v, e = .returned v ∧ BOwn w' w.heap.size v (r.less s) ∧ Below w.heap.size w w'
theorem BOwn.below' {w w' : World} {base : Nat} {v : Value} {l : List Bx} (h : BOwn w base v l) (hb : Below w.heap.size w w') : BOwn w' base v l := SOwn.below h hb

end Go.Proofs.YtboelbmpcbeifaaDoor
