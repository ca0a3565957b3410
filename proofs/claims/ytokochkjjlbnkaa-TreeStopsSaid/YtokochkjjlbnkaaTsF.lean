/-
  Layer 12: two rows of numbers, each in a variable, that grow side by side.
-/
import Derived.Test.YtokochkjjlbnkaaTsE
import Derived.Test.YtokochkjjlbnkaaRegvIn
namespace Go.Proofs.Ytokochkjjlbnkaa
open Go.RowKit trm itr

theorem wp_app {P : Program} {o : Oper} {a : Act} {w : World} {K : Act → World → Prop} {Q : Exit → Act → World → Prop} (s x : Operand) (t t2 ty : TypeId)
    (ho : o.op = .call { callee := .builtin .append, args := #[s, x], argTypes := #[t, t2] }) (hty : o.type = ty) {sv xv v' : Value} {w' : World} (hs : a.eval s = sv) (hx : a.eval x = xv)
    (hrun : (Builtin.append_ #[t, t2] ty #[sv, xv]).run P w = .ok v' w') (h : K (a.put o.dst v') w') : o.wp P a w K Q := by
  subst hty
  unfold Oper.wp execOp
  simp only [ho, resolve, invoke, builtin, Sem.run_bind, Sem.run_pure, Result.andThen_ok, List.map_toArray, List.map_cons, List.map_nil, hs, hx, hrun]
  exact h
theorem wp_del {P : Program} {o : Oper} {a : Act} {w : World} {K : Act → World → Prop} {Q : Exit → Act → World → Prop} (s x : Operand) (t t2 ty : TypeId)
    (ho : o.op = .call { callee := .builtin .delete, args := #[s, x], argTypes := #[t, t2] }) (hty : o.type = ty) {sv xv v' : Value} {w' : World} (hs : a.eval s = sv) (hx : a.eval x = xv)
    (hrun : (Builtin.delete_ #[t, t2] ty #[sv, xv]).run P w = .ok v' w') (h : K (a.put o.dst v') w') : o.wp P a w K Q := by
  subst hty
  unfold Oper.wp execOp
  simp only [ho, resolve, invoke, builtin, Sem.run_bind, Sem.run_pure, Result.andThen_ok, List.map_toArray, List.map_cons, List.map_nil, hs, hx, hrun]
  exact h
/-- what waits for operation b has come up later -/
theorem ord_upd {L : Nat → Bool} {a b : Nat} (h : L a = true → L b = true) {i : Nat} (hi : i ≠ a ∨ L b = true) : regs.upd L i a = true → regs.upd L i b = true := by
  unfold regs.upd
  rw [Bool.or_eq_true, Bool.or_eq_true]
  rintro (e | e)
  · have := Nat.eq_of_beq_eq_true e
    exact .inr (hi.resolve_left fun k => k this.symm)
  · exact .inr (h e)
theorem not_yet {L : Nat → Bool} {a b : Nat} (h : L a = true → L b = true) (hb : L b = false) : L a = false := by
  cases ha : L a with
  | false => rfl
  | true => rw [h ha] at hb; cases hb
def cur (v : Value) (i : Bool) (x : Value) : Value := bif i then x else v
/-- one variable g that holds a row v, and the row with one number more: made (iB), appended (iA), stored (iS) -/
structure Half (base g : Nat) (v : Value) (l : List Int) (x : Int) (iB iA iS : Bool) (xb xa : Value) (w : World) : Prop where
  box : BlkT w g [cur v iS xa] tInts
  own : IOwn w base (cur v iA xa) (bif iA then l ++ [x] else l)
  blt : iB = true → iA = false → ∃ gb, xb = .slice (some ⟨gb, 0, none⟩) 1 1 ∧ BlkT w gb [.int .i64 x] tInt ∧ v.ownBlock ≠ some gb
  ord : iS = true → iA = true
section
variable {base g : Nat} {v : Value} {l : List Int} {x : Int} {iB iA iS : Bool} {xb xa : Value} {w w' : World}
theorem Half.keep (h : Half base g v l x iB iA iS xb xa w) (h1 : w'.heap[g]? = w.heap[g]?) (h2 : ∀ k, (cur v iA xa).ownBlock = some k → w'.heap[k]? = w.heap[k]?) (h3 : ∀ gb, xb = .slice (some ⟨gb, 0, none⟩) 1 1 → BlkT w gb [.int .i64 x] tInt → iB = true → iA = false → w'.heap[gb]? = w.heap[gb]?) :
    Half base g v l x iB iA iS xb xa w' :=
  ⟨h.box.stays h1, SOwn.stays h.own h2, fun a b => by
    obtain ⟨gb, e, hb, hn⟩ := h.blt a b
    exact ⟨gb, e, hb.stays (h3 gb e hb a b), hn⟩, h.ord⟩
theorem Half.below (h : Half base g v l x iB iA iS xb xa w) (hb : Below w.heap.size w w') : Half base g v l x iB iA iS xb xa w' :=
  h.keep (hb.block _ h.box.inside) (fun k hk => hb.block k (SOwn.block h.own hk).2) fun _ _ hg _ _ => hb.block _ hg.inside
theorem Half.make (h : Half base g v l x iB iA iS xb xa w) (eA : iA = false) : Half base g v l x true iA iS (.slice (some ⟨w.heap.size, 0, none⟩) 1 1) xa (w.alloc (.cells #[.int .i64 x] tInt)) := by
  have h' := h.below ((Below.refl _ _).alloc (Nat.le_refl _) (.cells #[.int .i64 x] tInt))
  refine ⟨h'.box, h'.own, fun _ _ => ⟨_, rfl, BlkT.new w [.int .i64 x] _, fun e => ?_⟩, h.ord⟩
  subst eA
  have := (SOwn.block h.own (show (cur v false xa).ownBlock = some w.heap.size from e)).2
  omega
theorem Half.app (h : Half base g v l x iB iA iS xb xa w) (eB : iB = true) (eA : iA = false) (hn : l.length ≤ 900000) (hb : base ≤ w.heap.size) :
    ∃ v' w', (Builtin.append_ #[tInts, tInts] tInts #[v, xb]).run Try.prog w = .ok v' w' ∧ Half base g v l x iB true iS xb v' w' ∧ w.grownBy w' v.ownBlock ∧ (v'.ownBlock = v.ownBlock ∨ v'.ownBlock = some w.heap.size) := by
  obtain ⟨gb, e, hg, hne⟩ := h.blt eB eA
  subst eA
  have hS : iS = false := by
    cases hi : iS with
    | false => rfl
    | true => have := h.ord hi; cases this
  subst hS
  have hrow : Row eI w (some ⟨gb, 0, none⟩) [x] := fun _ => ⟨gb, 0, rfl, fun j hj => by
    have hj0 : j = 0 := by simp at hj; omega
    subst hj0
    exact hg.blk.cell 0⟩
  obtain ⟨v', w', h1, h2, h3, h4⟩ := app_int (c := 1) (show IOwn w base v l from h.own) hrow (by simp; omega) hb
  rw [e]
  refine ⟨v', w', h1, ⟨?_, h2, fun _ k => (nomatch k), fun k => (nomatch k)⟩, h3, h4⟩
  refine h.box.stays (h3.block _ h.box.inside fun e2 => ?_)
  obtain ⟨cu, hc⟩ := SOwn.typed (show IOwn w base v l from h.own) e2.symm
  have := h.box.symm.trans hc
  simp only [Option.some.injEq, Obj.cells.injEq] at this
  exact absurd this.2.1 (by decide)
theorem Half.put (h : Half base g v l x iB iA iS xb xa w) (eA : iA = true) : Half base g v l x iB iA true xb xa (w.setCell ⟨g, 0, none⟩ xa) := by
  subst eA
  have hne : ∀ k cs, BlkT w k cs tInt → k ≠ g := fun k cs hk e => by
    rw [e] at hk
    have := hk.symm.trans h.box
    simp only [Option.some.injEq, Obj.cells.injEq] at this
    exact absurd this.2.1 (by decide)
  refine ⟨h.box.set 0 xa, SOwn.stays h.own fun k hk => heap_setCell_other _ _ _ _ fun (e : k = g) => ?_, fun _ k => (nomatch k), fun _ => rfl⟩
  obtain ⟨cu, hc⟩ := SOwn.typed h.own hk
  rw [e] at hc
  have := hc.symm.trans h.box
  simp only [Option.some.injEq, Obj.cells.injEq] at this
  exact absurd this.2.1 (by decide)
end
/-- what the two turn -/
def S2 (g1 g2 : Nat) (v1 v2 : Value) : Bset := fun k => k = g1 ∨ k = g2 ∨ v1.ownBlock = some k ∨ v2.ownBlock = some k
structure J2 (W0 : World) (base g1 g2 : Nat) (v1 v2 : Value) (l1 l2 : List Int) (x y : Int) (i5 i6 i9 i10 i11 i12 : Bool) (x32 x33 x36 x37 : Value) (w : World) : Prop where
  rel : TurnP (S2 g1 g2 v1 v2) (S2 g1 g2 v1 v2) W0 w
  bsz : base ≤ w.heap.size
  one : Half base g1 v1 l1 x i5 i6 i11 x32 x33 w
  two : Half base g2 v2 l2 y i9 i10 i12 x36 x37 w
  gne : g1 ≠ g2
  ap : ∀ k, (cur v1 i6 x33).ownBlock = some k → (cur v2 i10 x37).ownBlock ≠ some k
  ab : i5 = true → i6 = false → ∀ k, x32 = .slice (some ⟨k, 0, none⟩) 1 1 → (cur v2 i10 x37).ownBlock ≠ some k
  ba : i9 = true → i10 = false → ∀ k, x36 = .slice (some ⟨k, 0, none⟩) 1 1 → (cur v1 i6 x33).ownBlock ≠ some k
section
variable {W0 : World} {base g1 g2 : Nat} {v1 v2 : Value} {l1 l2 : List Int} {x y : Int} {i5 i6 i9 i10 i11 i12 : Bool} {x32 x33 x36 x37 : Value} {w w' : World}
theorem J2.slots {u32 u33 u36 u37 : Value} (h : J2 W0 base g1 g2 v1 v2 l1 l2 x y i5 i6 i9 i10 i11 i12 x32 x33 x36 x37 w) (e1 : u32 = x32) (e2 : u33 = x33) (e3 : u36 = x36) (e4 : u37 = x37) : J2 W0 base g1 g2 v1 v2 l1 l2 x y i5 i6 i9 i10 i11 i12 u32 u33 u36 u37 w := by
  rw [e1, e2, e3, e4]; exact h
theorem J2.swap (h : J2 W0 base g1 g2 v1 v2 l1 l2 x y i5 i6 i9 i10 i11 i12 x32 x33 x36 x37 w) : J2 W0 base g2 g1 v2 v1 l2 l1 y x i9 i10 i5 i6 i12 i11 x36 x37 x32 x33 w := by
  have e : S2 g2 g1 v2 v1 = S2 g1 g2 v1 v2 := by
    funext k
    unfold S2
    exact propext ⟨by rintro (h | h | h | h) <;> simp [h], by rintro (h | h | h | h) <;> simp [h]⟩
  exact ⟨e ▸ h.rel, h.bsz, h.two, h.one, h.gne.symm, fun k a b => h.ap k b a, h.ba, h.ab⟩
theorem J2.make (h : J2 W0 base g1 g2 v1 v2 l1 l2 x y i5 i6 i9 i10 i11 i12 x32 x33 x36 x37 w) (eA : i6 = false) : J2 W0 base g1 g2 v1 v2 l1 l2 x y true i6 i9 i10 i11 i12 (.slice (some ⟨w.heap.size, 0, none⟩) 1 1) x33 x36 x37 (w.alloc (.cells #[.int .i64 x] tInt)) := by
  have hb : Below w.heap.size w (w.alloc (.cells #[.int .i64 x] tInt)) := (Below.refl _ _).alloc (Nat.le_refl _) _
  refine ⟨h.rel.trans (TurnP.below hb), Nat.le_trans h.bsz hb.size, h.one.make eA, h.two.below hb, h.gne, h.ap, fun _ _ k e e2 => ?_, h.ba⟩
  injection e with e
  injection e with e
  injection e with e
  have := (SOwn.block h.two.own e2).2
  omega
theorem J2.app (h : J2 W0 base g1 g2 v1 v2 l1 l2 x y i5 i6 i9 i10 i11 i12 x32 x33 x36 x37 w) (eB : i5 = true) (eA : i6 = false) (hn : l1.length ≤ 900000) :
    ∃ v' w', (Builtin.append_ #[tInts, tInts] tInts #[v1, x32]).run Try.prog w = .ok v' w' ∧ J2 W0 base g1 g2 v1 v2 l1 l2 x y i5 true i9 i10 i11 i12 x32 v' x36 x37 w' ∧ TurnP (S2 g1 g2 v1 v2) (S2 g1 g2 v1 v2) w w' := by
  obtain ⟨v', w', h1, h2, h3, h4⟩ := h.one.app eB eA hn h.bsz
  subst eA
  have ht : TurnP (S2 g1 g2 v1 v2) (S2 g1 g2 v1 v2) w w' := TurnP.grown h3 fun k hk => .inr (.inr (.inl hk))
  have hsz := h3.size
  refine ⟨v', w', h1, ⟨h.rel.trans ht, by have := h.bsz; omega, h2, ?_, h.gne, fun k a b => ?_, fun _ k => (nomatch k), fun a b k e e2 => ?_⟩, ht⟩
  · refine h.two.keep (h3.block _ h.two.box.inside fun e => ?_) (fun k hk => h3.block k (SOwn.block h.two.own hk).2 fun e => h.ap k e.symm hk) fun gb e hg a b => h3.block _ hg.inside fun e2 => h.ba a b gb e e2.symm
    obtain ⟨cu, hc⟩ := SOwn.typed h.one.own (show (cur v1 false x33).ownBlock = _ from e.symm)
    have := hc.symm.trans h.two.box
    simp only [Option.some.injEq, Obj.cells.injEq] at this
    exact absurd this.2.1 (by decide)
  · rcases h4 with e | e
    · exact h.ap k (e ▸ a) b
    · have e2 : w.heap.size = k := Option.some.inj (e.symm.trans a)
      have := (SOwn.block h.two.own b).2
      omega
  · rcases h4 with e3 | e3
    · exact h.ba a b k e (e3 ▸ e2)
    · have e4 : w.heap.size = k := Option.some.inj (e3.symm.trans e2)
      obtain ⟨gb, e5, hg, _⟩ := h.two.blt a b
      rw [e] at e5
      injection e5 with e5
      injection e5 with e5
      injection e5 with e5
      have := hg.inside
      omega
theorem J2.put (h : J2 W0 base g1 g2 v1 v2 l1 l2 x y i5 i6 i9 i10 i11 i12 x32 x33 x36 x37 w) (eA : i6 = true) : J2 W0 base g1 g2 v1 v2 l1 l2 x y i5 i6 i9 i10 true i12 x32 x33 x36 x37 (w.setCell ⟨g1, 0, none⟩ x33) ∧ TurnP (S2 g1 g2 v1 v2) (S2 g1 g2 v1 v2) w (w.setCell ⟨g1, 0, none⟩ x33) := by
  have ht : TurnP (S2 g1 g2 v1 v2) (S2 g1 g2 v1 v2) w (w.setCell ⟨g1, 0, none⟩ x33) := TurnP.set (a := ⟨g1, 0, none⟩) (.inl rfl) x33
  have hty : ∀ k cu fr, w.heap[k]? = some (.cells cu tInt fr) → k ≠ g1 := fun k cu fr hk e => by
    rw [e] at hk
    have := hk.symm.trans h.one.box
    simp only [Option.some.injEq, Obj.cells.injEq] at this
    exact absurd this.2.1 (by decide)
  refine ⟨⟨h.rel.trans ht, by simpa [World.setCell] using h.bsz, h.one.put eA, h.two.keep (heap_setCell_other _ _ _ _ h.gne.symm) (fun k hk => ?_) (fun gb _ hg _ _ => heap_setCell_other _ _ _ _ (hty _ _ _ hg)), h.gne, h.ap, h.ab, h.ba⟩, ht⟩
  obtain ⟨cu, hc⟩ := SOwn.typed h.two.own hk
  exact heap_setCell_other _ _ _ _ (hty _ _ _ hc)
theorem S2_swap (g1 g2 : Nat) (v1 v2 : Value) : S2 g2 g1 v2 v1 = S2 g1 g2 v1 v2 := by
  funext k
  unfold S2
  exact propext ⟨by rintro (h | h | h | h) <;> simp [h], by rintro (h | h | h | h) <;> simp [h]⟩
theorem J2.make2 (h : J2 W0 base g1 g2 v1 v2 l1 l2 x y i5 i6 i9 i10 i11 i12 x32 x33 x36 x37 w) (eA : i10 = false) : J2 W0 base g1 g2 v1 v2 l1 l2 x y i5 i6 true i10 i11 i12 x32 x33 (.slice (some ⟨w.heap.size, 0, none⟩) 1 1) x37 (w.alloc (.cells #[.int .i64 y] tInt)) := (h.swap.make eA).swap
theorem J2.app2 (h : J2 W0 base g1 g2 v1 v2 l1 l2 x y i5 i6 i9 i10 i11 i12 x32 x33 x36 x37 w) (eB : i9 = true) (eA : i10 = false) (hn : l2.length ≤ 900000) :
    ∃ v' w', (Builtin.append_ #[tInts, tInts] tInts #[v2, x36]).run Try.prog w = .ok v' w' ∧ J2 W0 base g1 g2 v1 v2 l1 l2 x y i5 i6 i9 true i11 i12 x32 x33 x36 v' w' ∧ TurnP (S2 g1 g2 v1 v2) (S2 g1 g2 v1 v2) w w' := by
  obtain ⟨v', w', h1, h2, h3⟩ := h.swap.app eB eA hn
  rw [S2_swap] at h3
  exact ⟨v', w', h1, h2.swap, h3⟩
theorem J2.put2 (h : J2 W0 base g1 g2 v1 v2 l1 l2 x y i5 i6 i9 i10 i11 i12 x32 x33 x36 x37 w) (eA : i10 = true) : J2 W0 base g1 g2 v1 v2 l1 l2 x y i5 i6 i9 i10 i11 true x32 x33 x36 x37 (w.setCell ⟨g2, 0, none⟩ x37) ∧ TurnP (S2 g1 g2 v1 v2) (S2 g1 g2 v1 v2) w (w.setCell ⟨g2, 0, none⟩ x37) := by
  obtain ⟨h1, h2⟩ := h.swap.put eA
  rw [S2_swap] at h2
  exact ⟨h1.swap, h2⟩
end
end Go.Proofs.Ytokochkjjlbnkaa
