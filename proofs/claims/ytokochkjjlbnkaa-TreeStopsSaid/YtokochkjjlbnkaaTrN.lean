/-
  Layer 12: a tree in memory: its block, its map's, its nodes', the rows of their kids; what is apart, what a step turns.
-/
import Derived.Test.YtokochkjjlbnkaaTrMap
import Derived.Test.YtokochkjjlbnkaaTrG
namespace Go.Proofs.Ytokochkjjlbnkaa
open Go.RowKit trm

/-! ### What a step turns: blocks of S, and new ones; those of S' are of S, or new -/
abbrev Bset := Nat → Prop
structure TurnP (S S' : Bset) (w w' : World) : Prop where
  os : w'.os = w.os
  tape : w'.tape = w.tape
  output : w'.output = w.output
  size : w.heap.size ≤ w'.heap.size
  far : ∀ k, k < w.heap.size → ¬ S k → ¬ S' k ∧ w'.heap[k]? = w.heap[k]?
theorem TurnP.refl (S : Bset) (w : World) : TurnP S S w w := ⟨rfl, rfl, rfl, Nat.le_refl _, fun _ _ h => ⟨h, rfl⟩⟩
theorem TurnP.trans {S S' S'' : Bset} {w w' w'' : World} (h : TurnP S S' w w') (k : TurnP S' S'' w' w'') : TurnP S S'' w w'' :=
  ⟨k.os.trans h.os, k.tape.trans h.tape, k.output.trans h.output, Nat.le_trans h.size k.size, fun j hj hn => by
    obtain ⟨h1, h2⟩ := h.far j hj hn
    obtain ⟨k1, k2⟩ := k.far j (Nat.lt_of_lt_of_le hj h.size) h1
    exact ⟨k1, k2.trans h2⟩⟩
theorem TurnP.below {S : Bset} {w w' : World} (hb : Below w.heap.size w w') : TurnP S S w w' := ⟨hb.os, hb.tape, hb.output, hb.size, fun k hk hn => ⟨hn, hb.block k hk⟩⟩
theorem TurnP.to_below {S S' : Bset} {w w' : World} {B : Nat} (h : TurnP S S' w w') (hB : B ≤ w.heap.size) (hS : ∀ g, S g → B ≤ g) : Below B w w' :=
  ⟨h.os, h.tape, h.output, h.size, fun k hk => (h.far k (by omega) (fun e => by have := hS k e; omega)).2⟩
theorem TurnP.set {S : Bset} {w : World} {a : Addr} (h : S a.block) (u : Value) : TurnP S S w (w.setCell a u) :=
  ⟨rfl, rfl, rfl, by simp [World.setCell], fun k _ hn => ⟨hn, heap_setCell_other _ _ _ _ (fun e => hn (e ▸ h))⟩⟩
theorem TurnP.grown {S : Bset} {w w' : World} {row : Option Nat} (hg : w.grownBy w' row) (hr : ∀ k, row = some k → S k) : TurnP S S w w' :=
  ⟨hg.os, hg.tape, hg.output, hg.size, fun k hk hn => ⟨hn, hg.block k hk (fun e => hn (hr k e.symm))⟩⟩
theorem TurnP.sub {S S' S2 : Bset} {w w' : World} (h : TurnP S S' w w') (hs : ∀ k, S2 k → S' k ∨ (w.heap.size ≤ k)) : TurnP S S2 w w' :=
  ⟨h.os, h.tape, h.output, h.size, fun k hk hn => ⟨fun e => by
    rcases hs k e with h1 | h1
    · exact (h.far k hk hn).1 h1
    · omega, (h.far k hk hn).2⟩⟩
theorem TurnP.more {S S' S2 : Bset} {w w' : World} (h : TurnP S S' w w') (hs : ∀ k, S k → S2 k) : TurnP S2 (fun k => S2 k ∨ S' k) w w' :=
  ⟨h.os, h.tape, h.output, h.size, fun k hk hn => by
    have h1 := h.far k hk (fun e => hn (hs k e))
    exact ⟨fun e => e.elim hn h1.1, h1.2⟩⟩

/-! ### Blocks known whole, with their type -/
def BlkT (w : World) (g : Nat) (cs : List Value) (T : TypeId) : Prop := w.heap[g]? = some (.cells cs.toArray T (0, 0))
section
variable {w w' : World} {g : Nat} {cs : List Value} {T : TypeId}
theorem BlkT.blk (h : BlkT w g cs T) : Blk w g cs := ⟨T, h⟩
theorem BlkT.inside (h : BlkT w g cs T) : g < w.heap.size := lt_of_block h
theorem BlkT.stays (h : BlkT w g cs T) (hb : w'.heap[g]? = w.heap[g]?) : BlkT w' g cs T := hb.trans h
theorem BlkT.new (w : World) (cs : List Value) (T : TypeId) : BlkT (w.alloc (.cells cs.toArray T)) w.heap.size cs T := heap_alloc_new w _
theorem BlkT.set (h : BlkT w g cs T) (i : Nat) (u : Value) : BlkT (w.setCell ⟨g, i, none⟩ u) g (cs.set i u) T := by
  obtain ⟨T', h'⟩ := h.blk.set i u
  have hlt := h.inside
  have e : w.heap[g] = .cells cs.toArray T (0, 0) := by simpa [BlkT, Array.getElem?_eq_getElem hlt] using h
  show (w.heap.modify g _)[g]? = _
  rw [Array.getElem?_eq_getElem (by simpa using hlt), Array.getElem_modify_self, e]
  simp
end
abbrev tNode : TypeId := 84
abbrev tPtr : TypeId := 81
abbrev tTree : TypeId := 87
def kc (o : Option Nat) : List Value := [ptrTo o]
theorem kc_len (o : Option Nat) : (kc o).length = 1 := rfl
theorem kc_plain (o : Option Nat) : ∀ u ∈ kc o, u.oneCell' = true := by
  intro u hu
  simp only [kc, List.mem_singleton] at hu
  subst hu
  cases o <;> rfl
theorem flat_kc (l : List (Option Nat)) : l.flatMap kc = l.map ptrTo := by
  induction l with
  | nil => rfl
  | cons x l ih => rw [List.flatMap_cons, ih, List.map_cons]; rfl
abbrev KOwn (w : World) (v : Value) (l : List (Option Nat)) : Prop := SOwn tPtr 1 kc w 0 v l
theorem KOwn.typed {w : World} {v : Value} {l : List (Option Nat)} (h : KOwn w v l) {g : Nat} (hg : v.ownBlock = some g) : ∃ cur fr, w.heap[g]? = some (.cells cur tPtr fr) := by
  rcases h.2 with ⟨rfl, h0⟩ | ⟨g', cap, cur, rfl, _, hb, _⟩
  · cases hg
  · obtain rfl : g' = g := Option.some.inj hg
    exact ⟨cur, _, hb⟩
theorem KOwn.not_blk {w : World} {v : Value} {l : List (Option Nat)} (h : KOwn w v l) {g : Nat} (hg : v.ownBlock = some g) {cs : List Value} {T : TypeId} (hb : BlkT w g cs T) (hT : T ≠ tPtr) : False := by
  obtain ⟨cur, fr, h1⟩ := h.typed hg
  have := hb.symm.trans h1
  simp only [Option.some.injEq, Obj.cells.injEq] at this
  exact hT this.2.1
theorem MapAt.not_blk {w : World} {m : Nat} {es : L} (h : MapAt w m es) {cs : List Value} {T : TypeId} (hb : BlkT w m cs T) : False := by
  obtain ⟨es', clock, h1, _⟩ := h.own
  have := hb.symm.trans h1
  cases this
theorem MapAt.not_own {w : World} {m : Nat} {es : L} (h : MapAt w m es) {v : Value} {l : List (Option Nat)} (hk : KOwn w v l) (hg : v.ownBlock = some m) : False := by
  obtain ⟨es', clock, h1, _⟩ := h.own
  obtain ⟨cur, fr, h2⟩ := hk.typed hg
  have := h2.symm.trans h1
  cases this

/-! ### A tree in memory -/
structure Sh where
  m : Nat
  g : Int → Nat
  v : Int → Value
def ks (s : Sh) (l : List Int) : List (Option Nat) := l.map fun k => some (s.g k)
structure NodeAt (w : World) (g : Nat) (i : Int) (p : Option Nat) (v : Value) (l : List (Option Nat)) : Prop where
  blk : BlkT w g [.int .i64 i, ptrTo p, v] tNode
  own : KOwn w v l
def Foot (b : Nat) (s : Sh) (H : Int → Prop) : Bset := fun k => k = b ∨ k = s.m ∨ ∃ i, H i ∧ (k = s.g i ∨ (s.v i).ownBlock = some k)
structure Raw (w : World) (b : Nat) (s : Sh) (H : Int → Prop) (P : Int → Option Int) (K : Int → List Int) : Prop where
  blk : BlkT w b [.map (some s.m)] tTree
  map : ∃ es, MapAt w s.m es ∧ ∀ i g, omap.look es i = some g ↔ H i ∧ s.g i = g
  node : ∀ i, H i → NodeAt w (s.g i) i ((P i).map s.g) (s.v i) (ks s (K i))
  inj : ∀ i j, H i → H j → s.g i = s.g j → i = j
  apart : ∀ i j k, H i → H j → (s.v i).ownBlock = some k → (s.v j).ownBlock = some k → i = j
section
variable {w w' : World} {b : Nat} {s : Sh} {H : Int → Prop} {P : Int → Option Int} {K : Int → List Int}
theorem NodeAt.stays {g : Nat} {i : Int} {p : Option Nat} {v : Value} {l : List (Option Nat)} (h : NodeAt w g i p v l) (h1 : w'.heap[g]? = w.heap[g]?) (h2 : ∀ k, v.ownBlock = some k → w'.heap[k]? = w.heap[k]?) : NodeAt w' g i p v l :=
  ⟨h.blk.stays h1, h.own.stays h2⟩
theorem Raw.inside (h : Raw w b s H P K) : ∀ k, Foot b s H k → k < w.heap.size := by
  rintro k (rfl | rfl | ⟨i, hi, rfl | hk⟩)
  · exact h.blk.inside
  · obtain ⟨es, hm, _⟩ := h.map
    exact hm.inside
  · exact (h.node i hi).blk.inside
  · exact (SOwn.block (h.node i hi).own hk).2
theorem Raw.stays (h : Raw w b s H P K) (hb : ∀ k, Foot b s H k → w'.heap[k]? = w.heap[k]?) : Raw w' b s H P K := by
  refine ⟨h.blk.stays (hb _ (.inl rfl)), ?_, fun i hi => (h.node i hi).stays (hb _ (.inr (.inr ⟨i, hi, .inl rfl⟩))) fun k hk => hb _ (.inr (.inr ⟨i, hi, .inr hk⟩)), h.inj, h.apart⟩
  obtain ⟨es, hm, hl⟩ := h.map
  exact ⟨es, hm.stays (hb _ (.inr (.inl rfl))), hl⟩
theorem Raw.below (h : Raw w b s H P K) (hb : Below w.heap.size w w') : Raw w' b s H P K := h.stays fun k hk => hb.block k (h.inside k hk)
theorem Raw.look (h : Raw w b s H P K) {i : Int} (hi : I64 i) :
    ∃ o : Option Nat, (Instr.lookup 85 (.map (some s.m)) (.int .i64 i) false).run Try.prog w = .ok (ptrTo o) w ∧ (∀ g, o = some g ↔ H i ∧ s.g i = g) := by
  obtain ⟨es, hm, hl⟩ := h.map
  exact ⟨_, hm.lookup hi, hl i⟩
theorem Raw.look_some (h : Raw w b s H P K) {i : Int} (hi : I64 i) (hh : H i) :
    (Instr.lookup 85 (.map (some s.m)) (.int .i64 i) false).run Try.prog w = .ok (.pointer (some ⟨s.g i, 0, none⟩)) w := by
  obtain ⟨o, h1, h2⟩ := h.look hi
  rw [(h2 (s.g i)).2 ⟨hh, rfl⟩] at h1
  exact h1
theorem Raw.look_none (h : Raw w b s H P K) {i : Int} (hi : I64 i) (hh : ¬ H i) :
    (Instr.lookup 85 (.map (some s.m)) (.int .i64 i) false).run Try.prog w = .ok (.pointer none) w := by
  obtain ⟨o, h1, h2⟩ := h.look hi
  cases o with
  | none => exact h1
  | some g => exact absurd ((h2 g).1 rfl).1 hh
/-- a node, its cells -/
theorem Raw.cells (h : Raw w b s H P K) {i : Int} (hi : H i) : (w.cell? ⟨s.g i, 0, none⟩ = some (.int .i64 i) ∧ w.cell? ⟨s.g i, 1, none⟩ = some (ptrTo ((P i).map s.g)) ∧ w.cell? ⟨s.g i, 2, none⟩ = some (s.v i)) ∧
    (w.frozen? ⟨s.g i, 0, none⟩ = false ∧ w.frozen? ⟨s.g i, 1, none⟩ = false ∧ w.frozen? ⟨s.g i, 2, none⟩ = false) ∧ s.g i < w.heap.size := by
  have := (h.node i hi).blk.blk
  exact ⟨⟨this.cell 0, this.cell 1, this.cell 2⟩, ⟨this.free 0, this.free 1, this.free 2⟩, this.inside⟩
theorem Raw.top (h : Raw w b s H P K) : w.cell? ⟨b, 0, none⟩ = some (.map (some s.m)) ∧ b < w.heap.size := ⟨h.blk.blk.cell 0, h.blk.inside⟩
end
/-- the parent of a node, as the rows have it -/
def upT (t : T) (i : Int) : Option Int := if i = 0 then none else some (par t i)
abbrev hasP (t : T) : Int → Prop := fun i => has t i = true
abbrev RawT (w : World) (b : Nat) (s : Sh) (t : T) : Prop := Raw w b s (hasP t) (upT t) (kids t)
structure TreeAt (w : World) (b : Nat) (s : Sh) (t : T) : Prop where
  raw : RawT w b s t
  ok : Ok t
abbrev FootT (b : Nat) (s : Sh) (t : T) : Bset := Foot b s (hasP t)
theorem TreeAt.below {w w' : World} {b : Nat} {s : Sh} {t : T} (h : TreeAt w b s t) (hb : Below w.heap.size w w') : TreeAt w' b s t := ⟨h.raw.below hb, h.ok⟩
theorem TreeAt.stays {w w' : World} {b : Nat} {s : Sh} {t : T} (h : TreeAt w b s t) (hb : ∀ k, FootT b s t k → w'.heap[k]? = w.heap[k]?) : TreeAt w' b s t := ⟨h.raw.stays hb, h.ok⟩
theorem kids_none {t : T} (ok : Ok t) {i : Int} (h : ¬ has t i = true) : kids t i = [] := by
  have h1 := not_has h
  rw [List.eq_nil_iff_forall_not_mem]
  intro k hk
  have := ok.pin _ (mem_kids.1 hk)
  simp only at this
  exact this.elim h1.1 h1.2
end Go.Proofs.Ytokochkjjlbnkaa
