/-
  Layer 12: slices.Insert of one kid into a row of kids.
-/
import Derived.Test.YtokochkjjlbnkaaTrS
import Derived.Laws.IdiomCopy
import Derived.Laws.Externs
import Derived.Lib.Overlaps
import Derived.Lib.AppendZerosOnto
import Derived.Deep.RegionLaw
namespace Go.Proofs.Ytokochkjjlbnkaa
open Go.RowKit trm

/-- a copy whose run is known -/
theorem wpl_copy {P : Program} {ops : Array Oper} {rest : List Oper} {o : Oper} {a : Act} {Q : Exit → Act → World → Prop} {w : World} (hgd : Region.wanted o (yielded ops a.tmps) = true) (s x : Operand) (t t2 ty : TypeId)
    (ho : o.op = .call { callee := .builtin .copy, args := #[s, x], argTypes := #[t, t2] }) (hty : o.type = ty) (sv xv v' : Value) (w' : World) (hs : a.eval s = sv) (hx : a.eval x = xv)
    (hrun : (Builtin.copy_ #[t, t2] ty #[sv, xv]).run P w = .ok v' w') (h : wpList P ops Q rest (a.put o.dst v') w') : wpList P ops Q (o :: rest) a w := by
  subst hty
  unfold wpList
  rw [if_pos hgd]
  refine .inl ?_
  unfold Oper.wp execOp
  simp only [ho, resolve, invoke, builtin, Sem.run_bind, Sem.run_pure, Result.andThen_ok, List.map_toArray, List.map_cons, List.map_nil, hs, hx, hrun]
  exact h
theorem step_copy {P : Program} {ops : Array Oper} {o : Oper} {a : Act} {w : World} {K : Act → World → Prop} {Q : Exit → Act → World → Prop} {E : Prop}
    (hg : o.guard = none) (s x : Operand) (t t2 ty : TypeId) (ho : o.op = .call { callee := .builtin .copy, args := #[s, x], argTypes := #[t, t2] }) (hty : o.type = ty)
    (sv xv v' : Value) (w' : World) (hs : a.eval s = sv) (hx : a.eval x = xv) (hrun : (Builtin.copy_ #[t, t2] ty #[sv, xv]).run P w = .ok v' w') (hK : K (a.put o.dst v') w') :
    if Region.wanted o (yielded ops a.tmps) = true then Oper.wp P o a w K Q else E := by
  subst hty
  have hw : Region.wanted o (yielded ops a.tmps) = true := by simp [Region.wanted, hg]
  rw [if_pos hw]
  unfold Oper.wp execOp
  simp only [ho, resolve, invoke, builtin, Sem.run_bind, Sem.run_pure, Result.andThen_ok, List.map_toArray, List.map_cons, List.map_nil, hs, hx, hrun]
  exact hK
/-- cells written one behind the other: what the block holds then -/
theorem setCells_blk {g : Nat} {T : TypeId} {fr : Nat × Nat} : ∀ (vs : List Value) (o : Nat) {w : World} {cur : Array Value}, w.heap[g]? = some (.cells cur T fr) →
    ∃ cur', (w.setCells g o vs).heap[g]? = some (.cells cur' T fr) ∧ cur'.size = cur.size ∧ ∀ k, k < cur.size → cur'[k]? = if o ≤ k ∧ k < o + vs.length then vs[k - o]? else cur[k]?
  | [], o, w, cur, h => ⟨cur, h, rfl, fun k hk => by rw [if_neg (by simp)]⟩
  | v :: r, o, w, cur, h => by
    have h1 : (w.setCell ⟨g, o, none⟩ v).heap[g]? = some (.cells (cur.setIfInBounds o v) T fr) := by
      have hlt := lt_of_block h
      have e : w.heap[g] = .cells cur T fr := by simpa [Array.getElem?_eq_getElem hlt] using h
      show (w.heap.modify g _)[g]? = _
      rw [Array.getElem?_eq_getElem (by simpa using hlt), Array.getElem_modify_self, e]
      rfl
    obtain ⟨cur', h2, h3, h4⟩ := setCells_blk r (o + 1) h1
    refine ⟨cur', h2, by rw [h3]; simp, fun k hk => ?_⟩
    rw [h4 k (by simpa using hk)]
    by_cases hc : o + 1 ≤ k ∧ k < o + 1 + r.length
    · rw [if_pos hc, if_pos (by rw [List.length_cons]; omega), show k - o = (k - (o + 1)) + 1 by omega, List.getElem?_cons_succ]
    · rw [if_neg hc, Array.getElem?_setIfInBounds]
      by_cases hk2 : o = k
      · subst hk2
        rw [if_pos rfl, if_pos hk, if_pos (by rw [List.length_cons]; omega), Nat.sub_self]
        rfl
      · rw [if_neg hk2, if_neg (by rw [List.length_cons]; omega)]
theorem setCells_turn {g : Nat} : ∀ (vs : List Value) (o : Nat) (w : World), TurnP (OneB (some g)) (OneB (some g)) w (w.setCells g o vs)
  | [], _, _ => .refl _ _
  | v :: r, o, _ => (TurnP.set (S := OneB (some g)) (a := ⟨g, o, none⟩) rfl v).trans (setCells_turn r (o + 1) _)
def insL {α : Type} (n : Nat) (x : α) (l : List α) : List α := l.take n ++ x :: l.drop n
theorem insL_len {α : Type} {n : Nat} (x : α) {l : List α} (hn : n ≤ l.length) : (insL n x l).length = l.length + 1 := by
  unfold insL
  rw [List.length_append, List.length_cons, List.length_take, List.length_drop]
  omega
def InsQ (v : Value) (n : Nat) (x : Nat) (l : List (Option Nat)) (w : World) (e : Ending) (w' : World) : Prop :=
  ∃ v', e = .returned v' ∧ KOwn w' v' (insL n (some x) l) ∧ (v'.ownBlock = v.ownBlock ∨ ∃ g, v'.ownBlock = some g ∧ w.heap.size ≤ g) ∧ TurnP (OneB v.ownBlock) (OneB v'.ownBlock) w w'
set_option maxRecDepth 100000 in
set_option maxHeartbeats 1000000 in
/-- at the end -/
theorem ninsert_end {w : World} {v : Value} {l : List (Option Nat)} (h : KOwn w v l) (vb x c : Nat) (hx : BlkT w vb [.pointer (some ⟨x, 0, none⟩)] tPtr) (hn : l.length ≤ 100000) :
    Calls Try.prog 64 #[v, .int .i64 (l.length : Nat), .slice (some ⟨vb, 0, none⟩) 1 c] w (InsQ v l.length x l w) := by
  obtain ⟨v', w', hrun, hown, hgr, hat⟩ := SOwn.app (P := Try.prog) (xs := [some x]) (c := c) (g := vb) (o := 0) Try.underlying82 info_ptr rfl (by decide) (by decide) kc_len kc_plain
    h (fun _ => SRow.one_of_cells (fun i u hu => by
      have hi : i = 0 := by have := (List.getElem?_eq_some_iff.1 hu).1; simp [kc] at this; exact this
      subst hi
      rw [hx.blk.cell]
      exact hu)) (by simp; omega) (Nat.zero_le _)
  have HQ : Hid (InsQ v l.length x l w (.returned v') w') := by
    refine ⟨v', rfl, ?_, ?_, ?_⟩
    · unfold insL
      rw [List.take_length, List.drop_length]
      exact hown
    · rcases hat with h1 | h1
      · exact .inl h1
      · exact .inr ⟨_, h1, Nat.le_refl _⟩
    · refine ⟨hgr.os, hgr.tape, hgr.output, hgr.size, fun k hk hn => ⟨fun e => ?_, hgr.block k hk fun e => hn e.symm⟩⟩
      rcases hat with h1 | h1
      · exact hn (h1 ▸ e)
      · have := Option.some.inj (h1.symm.trans e)
        omega
  obtain ⟨A, cc, hv, h1, h2, -⟩ := h.at_
  subst hv
  simp only [List.length_singleton] at hrun
  have hcb : cc ≤ 9223372036854775807 := by unfold maxLen at h2; omega
  clear h hown hgr hat h2
  generalize l.length = n at *
  have t1 : ((n : Int) == (n : Int)) = true := by simp
  cases A with
  | none =>
    go_enter Try.func64, Try.ntmps64
    go_wp2_with (at_builtin; refine wpl_append rfl _ _ 82 82 82 rfl rfl _ _ _ _ rfl rfl hrun ?_; clear hrun)
    go_ret
    exact HQ.out
  | some a =>
    obtain ⟨ab, ao, asp⟩ := a
    go_enter Try.func64, Try.ntmps64
    go_wp2_with (at_builtin; refine wpl_append rfl _ _ 82 82 82 rfl rfl _ _ _ _ rfl rfl hrun ?_; clear hrun)
    all_goals (go_ret; exact HQ.out)
end Go.Proofs.Ytokochkjjlbnkaa
