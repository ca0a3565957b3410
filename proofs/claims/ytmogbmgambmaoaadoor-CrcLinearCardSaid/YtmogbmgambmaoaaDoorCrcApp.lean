/-
  Words for append: a slice of the call's own that gathers parts.
-/
import Derived.Test.YtmogbmgambmaoaaDoorCrcG
namespace Go.Proofs.YtmogbmgambmaoaaDoor
open Go.RowKit crcm

/-- v is a slice of the call's own (a block from base on) with just these bytes -/
def Own (w : World) (base : Nat) (v : Value) (l : List Nat) : Prop := w.ownsRow base 5 1 v l.length (l.map fun z => Value.int .u8 (z : Nat))
theorem info_byte : (Tryd.prog.info? 5).map (fun i => (i.zero, i.size, i.bytes)) = some (some (.int .u8 0), 1, 1) := by kernel_rfl

theorem own_new (w : World) : Own (w.alloc (.cells #[] 5)) w.heap.size (.slice (some ⟨w.heap.size, 0, none⟩) 0 0) [] :=
  World.ownsRow_made w #[] 0 (Nat.le_refl _) (by simp [maxLen]) rfl
theorem own_nil (w : World) (base : Nat) : Own w base (.slice none 0 0) [] := World.ownsRow_nil w base _ 1
theorem own_below {w w' : World} {base : Nat} {v : Value} {l : List Nat} (h : Own w base v l) (hb : Below w.heap.size w w') : Own w' base v l := by
  refine ⟨h.1, ?_⟩
  rcases h.2 with hn | ⟨g, cap, cur, rfl, hg, hgg, rest⟩
  · exact .inl hn
  · exact .inr ⟨g, cap, cur, rfl, hg, (hb.block g (Array.getElem?_eq_some_iff.1 hgg).1).trans hgg, rest⟩
theorem own_part {w : World} {base : Nat} {v : Value} {l : List Nat} (h : Own w base v l) (hl : AreBytes l) : ∃ a c, v = .slice a l.length c ∧ (⟨a, l, c⟩ : Part).ok w := by
  rcases h.2 with ⟨rfl, h0⟩ | ⟨g, cap, cur, rfl, hg, hgg, hlc, hcm, hcs, htake⟩
  · have hl0 : l = [] := List.eq_nil_of_length_eq_zero h0
    subst hl0
    exact ⟨none, 0, rfl, Nat.le_refl _, by simp [maxLen], fun hn => absurd hn (by simp), hl⟩
  · refine ⟨some ⟨g, 0, none⟩, cap, rfl, hlc, hcm, fun hn => ⟨g, 0, rfl, fun j hj => ?_⟩, hl⟩
    simp only at hj
    have := h.cells (g := g) rfl j (.int .u8 (l[j] : Nat)) (by simp [hj])
    have hadd : (⟨g, 0, none⟩ : Addr).add j = ⟨g, 0 + j, none⟩ := by unfold Addr.add; split <;> simp_all
    rw [hadd] at this
    exact this

/-- an append whose run is known -/
theorem wpList_append_run {P : Program} {ops : Array Oper} {rest : List Oper} {o : Oper} {a : Act} {Q : Exit → Act → World → Prop} {w : World} (hgd : Region.wanted o (yielded ops a.tmps) = true) (s x : Operand) (t ty : TypeId)
    (ho : o.op = .call { callee := .builtin .append, args := #[s, x], argTypes := #[t, t] }) (hty : o.type = ty) (sv xv v' : Value) (w' : World) (hs : a.eval s = sv) (hx : a.eval x = xv)
    (hrun : (Builtin.append_ #[t, t] ty #[sv, xv]).run P w = .ok v' w') (h : wpList P ops Q rest (a.put o.dst v') w') : wpList P ops Q (o :: rest) a w := by
  subst hty
  unfold wpList
  rw [if_pos hgd]
  refine .inl ?_
  unfold Oper.wp execOp
  simp only [ho, resolve, invoke, builtin, Sem.run_bind, Sem.run_pure, Result.andThen_ok, List.map_toArray, List.map_cons, List.map_nil, hs, hx, hrun]
  exact h

/-- append of a part onto a slice of the call's own -/
theorem app_run (w : World) (base : Nat) (v : Value) (l : List Nat) (h : Own w base v l) (p : Part) (hp : p.ok w) (hsz : l.length + p.l.length ≤ 1099511627776) (hbase : base ≤ w.heap.size) :
    ∃ v' w', (Builtin.append_ #[22, 22] 22 #[v, .slice p.a p.l.length p.c]).run Tryd.prog w = .ok v' w' ∧ Own w' base v' (l ++ p.l) ∧ Below base w w' := by
  obtain ⟨i, hi, hz, hsize, hby⟩ := info_parts info_byte
  have hm : l.length + p.l.length ≤ maxLen := by unfold maxLen; omega
  have hr : ∀ k, v.ownBlock = some k → base ≤ k := fun k hk => (h.lt k hk).1
  rcases Nat.eq_zero_or_pos p.l.length with h0 | h0
  · have hl : p.l = [] := List.eq_nil_of_length_eq_zero h0
    have hrun : (Builtin.append_ #[22, 22] 22 #[v, .slice p.a 0 p.c]).run Tryd.prog w = .ok v w := by
      rcases h.2 with ⟨rfl, h00⟩ | ⟨g, cap, cur, rfl, _, _, hnc, _⟩
      · cases p.a <;> simp [Builtin.append_, run_underlying Tryd.underlying22, sizeOf, typeInfo, hi, Builtin.lenOf, Builtin.firstCells, loadCells, loadCellsFrom]
      · cases p.a <;> simp [Builtin.append_, run_underlying Tryd.underlying22, sizeOf, typeInfo, hi, Builtin.lenOf, Builtin.firstCells, loadCells, loadCellsFrom, hnc, storeCells]
    rw [h0]
    exact ⟨v, w, hrun, by rw [hl, List.append_nil]; exact h, Below.refl _ _⟩
  · obtain ⟨b, off, ha, hc⟩ := hp.at_ h0
    have hnews : ∀ j u, (p.l.map fun z => Value.int .u8 (z : Nat))[j]? = some u → w.cell? ((⟨b, off, none⟩ : Addr).add j) = some u := by
      intro j u hu
      have hj : j < p.l.length := by
        rcases Nat.lt_or_ge j p.l.length with hj | hj
        · exact hj
        · simp [List.getElem?_eq_none hj] at hu
      have hadd : (⟨b, off, none⟩ : Addr).add j = ⟨b, off + j, none⟩ := by unfold Addr.add; split <;> simp_all
      rw [hadd, hc j hj]
      simp [hj] at hu
      rw [hu]
    have hone : ∀ u ∈ (p.l.map fun z => Value.int .u8 (z : Nat)), u.oneCell' = true := by
      intro u hu
      simp only [List.mem_map] at hu
      obtain ⟨z, _, rfl⟩ := hu
      rfl
    obtain ⟨v', w', hrun, ho, hg, _⟩ := run_append_own (P := Tryd.prog) w base 22 22 5 i (.int .u8 0) 1 1 Tryd.underlying22 hi hz hsize hby rfl (by decide) v l.length _ h ⟨b, off, none⟩ p.l.length p.c
      _ (by simp) hnews hone hm (by omega) hbase
    rw [← ha] at hrun
    refine ⟨v', w', hrun, ?_, (Below.refl _ _).grown hg hbase hr⟩
    unfold Own
    rw [List.length_append, List.map_append]
    exact ho
end Go.Proofs.YtmogbmgambmaoaaDoor
