/-
  Layer 12: a walk's own list of what is still to come; plain facts.
-/
import Derived.Test.YtokochkjjlbnkaaTsA
namespace Go.Proofs.Ytokochkjjlbnkaa
open Go.RowKit trm itr

/-- a walk from a node on, with depths -/
def wd (t : T) (i : Int) (d : Nat) : List (Int × Nat) := (trm.walk t i).map fun x => (x, d + (depth t x - depth t i))
theorem walk_deep {t : T} (ok : Ok t) {i x : Int} (hi : i = 0 ∨ i ∈ ids t) (h : x ∈ trm.walk t i) : depth t i ≤ depth t x := by
  rcases (walk_mem ok hi).1 h with rfl | h
  · exact Nat.le_refl _
  · exact Nat.le_of_lt (within_deep ok h)
theorem wd_eq {t : T} (ok : Ok t) (i : Int) (d : Nat) : wd t i d = (i, d) :: (kids t i).flatMap fun k => wd t k (d + 1) := by
  unfold wd
  rw [walk_eq ok, List.map_cons, List.map_flatMap, Nat.sub_self, Nat.add_zero]
  congr 1
  have : ∀ l : List Int, (∀ k ∈ l, k ∈ kids t i) → (l.flatMap fun k => (trm.walk t k).map fun x => (x, d + (depth t x - depth t i))) = l.flatMap fun k => (trm.walk t k).map fun x => (x, d + 1 + (depth t x - depth t k)) := by
    intro l
    induction l with
    | nil => intro _; rfl
    | cons k l ih =>
      intro h
      have hk := h k List.mem_cons_self
      have hd := depth_kid ok hk
      rw [List.flatMap_cons, List.flatMap_cons, ih fun x hx => h x (List.mem_cons_of_mem _ hx)]
      congr 1
      refine List.map_congr_left fun x hx => ?_
      have := walk_deep ok (.inr (ok.kid hk).1) hx
      congr 1
      omega
  exact this _ fun _ h => h
theorem wd_len (t : T) (i : Int) (d : Nat) : (wd t i d).length = (trm.walk t i).length := List.length_map _
def rest (t : T) (st : List (Int × Nat)) : List (Int × Nat) := st.reverse.flatMap fun p => wd t p.1 p.2
theorem rest_one (t : T) (i : Int) (d : Nat) : rest t [(i, d)] = wd t i d := by simp [rest]
theorem rest_snoc (t : T) (st : List (Int × Nat)) (x : Int) (d : Nat) : rest t (st ++ [(x, d)]) = wd t x d ++ rest t st := by simp [rest]
theorem rest_push (t : T) (st : List (Int × Nat)) (l : List Int) (d : Nat) : rest t (st ++ l.reverse.map fun k => (k, d)) = (l.flatMap fun k => wd t k d) ++ rest t st := by
  simp [rest, List.flatMap_map]
theorem rest_len {t : T} (ok : Ok t) : ∀ st : List (Int × Nat), st.length ≤ (rest t st).length := by
  intro st
  unfold rest
  rw [← List.length_reverse]
  generalize st.reverse = l
  induction l with
  | nil => simp
  | cons p l ih =>
    rw [List.flatMap_cons, List.length_append, List.length_cons, wd_len]
    have := walk_some ok p.1
    omega
theorem wd_mem {t : T} {i x : Int} {d e : Nat} (h : (x, e) ∈ wd t i d) : x ∈ trm.walk t i := by
  unfold wd at h
  obtain ⟨y, hy, e⟩ := List.mem_map.1 h
  injection e with e _
  rw [← e]
  exact hy

theorem wd_dep {t : T} {i x : Int} {d e : Nat} (h : (x, e) ∈ wd t i d) : e ≤ d + depth t x := by
  unfold wd at h
  obtain ⟨y, _, e⟩ := List.mem_map.1 h
  injection e with e1 e2
  subst e1
  omega
abbrev tStep : TypeId := 132
abbrev tSteps : TypeId := 133
/-- the types of the blocks that a walk writes; that it wants kept -/
def sT (T : TypeId) : Bool := decide (T = tStep) || decide (T = tSteps)
def kT (T : TypeId) : Bool := decide (T = tNode) || decide (T = tPtr) || decide (T = tStep) || decide (T = tSteps)
def stepC (g : Int → Nat) (p : Int × Nat) : List Value := [.pointer (some ⟨g p.1, 0, none⟩), .int .i64 (p.2 : Nat)]
theorem stepC_len (g : Int → Nat) (p : Int × Nat) : (stepC g p).length = 2 := rfl
theorem stepC_plain (g : Int → Nat) (p : Int × Nat) : ∀ u ∈ stepC g p, u.oneCell' = true := by
  intro u hu
  simp only [stepC, List.mem_cons, List.not_mem_nil, or_false] at hu
  rcases hu with rfl | rfl <;> rfl
theorem info_step : (Try.prog.info? tStep).map (fun i => (i.zero, i.size, i.bytes)) = some (some (.agg #[.pointer none, .int .i64 0]), 2, 16) := by kernel_rfl
abbrev StOwn (n0 : Nat) (g : Int → Nat) (w : World) (v : Value) (l : List (Int × Nat)) : Prop := SOwn tStep 2 (stepC g) w n0 v l
theorem SOwn.take {α : Type} {T : TypeId} {k : Nat} {enc : α → List Value} {w : World} {base : Nat} {A : Option Addr} {n c : Nat} {l : List α} (hk : ∀ x, (enc x).length = k) (h : SOwn T k enc w base (.slice A n c) l) {m : Nat} (hm : m ≤ l.length) : SOwn T k enc w base (.slice A m c) (l.take m) := by
  have hflat : ∀ l : List α, (l.flatMap enc).length = l.length * k := fun l => by
    induction l with
    | nil => simp
    | cons x l ih => rw [List.flatMap_cons, List.length_append, hk, ih, List.length_cons, Nat.succ_mul, Nat.add_comm]
  obtain ⟨h1, h2⟩ := h
  have hml : (l.take m).length = m := by rw [List.length_take]; omega
  refine ⟨by rw [hflat], ?_⟩
  rcases h2 with ⟨e, h0⟩ | ⟨g, cap, cur, e, h3, h4, h5, h6, h7, h8⟩
  · injection e with e1 e2 e3
    subst e1 e3
    have : m = 0 := by omega
    subst this
    exact .inl ⟨rfl, by simp⟩
  · injection e with e1 e2 e3
    subst e1 e3
    refine .inr ⟨g, c, cur, by rw [hml], h3, h4, by omega, h6, h7, ?_⟩
    have e9 : l.flatMap enc = (l.take m).flatMap enc ++ (l.drop m).flatMap enc := by rw [← List.flatMap_append, List.take_append_drop]
    have : cur.toList.take ((l.take m).length * k) = (cur.toList.take (l.length * k)).take ((l.take m).length * k) := by
      rw [List.take_take, Nat.min_eq_left (Nat.mul_le_mul_right _ (by omega))]
    rw [this, h8, e9, List.take_left' (hflat _)]
theorem SOwn.typed {α : Type} {T : TypeId} {k : Nat} {enc : α → List Value} {w : World} {base : Nat} {v : Value} {l : List α} (h : SOwn T k enc w base v l) {g : Nat} (hg : v.ownBlock = some g) : ∃ cur, w.heap[g]? = some (.cells cur T (0, 0)) := by
  rcases h.2 with ⟨rfl, h0⟩ | ⟨g', cap, cur, rfl, _, hb, _⟩
  · cases hg
  · obtain rfl : g' = g := Option.some.inj hg
    exact ⟨cur, hb⟩
theorem SOwn.shape {α : Type} {T : TypeId} {k : Nat} {enc : α → List Value} {w : World} {base : Nat} {v : Value} {l : List α} (h : SOwn T k enc w base v l) : ∃ A n c, v = .slice A n c := by
  rcases h.2 with ⟨rfl, h0⟩ | ⟨g', cap, cur, rfl, _, hb, _⟩
  · exact ⟨_, _, _, rfl⟩
  · exact ⟨_, _, _, rfl⟩
theorem SOwn.bk {α : Type} {T : TypeId} {k : Nat} {enc : α → List Value} {w w' : World} {base B : Nat} {v : Value} {l : List α} (h : SOwn T k enc w base v l) (hb : Bk B w w') : SOwn T k enc w' base v l := h.stays fun g hg => by
  obtain ⟨cur, hc⟩ := h.typed hg
  exact (hb.keep hc rfl).trans hc.symm
theorem SOwn.kt {α : Type} {T : TypeId} {k : Nat} {enc : α → List Value} {w w' : World} {base : Nat} {v : Value} {l : List α} {TT : TypeId → Bool} (h : SOwn T k enc w base v l) (hk : KT TT w w') (hT : TT T = true) : SOwn T k enc w' base v l := h.stays fun g hg => by
  obtain ⟨cur, hc⟩ := h.typed hg
  exact (hk.same _ _ _ _ hc hT).trans hc.symm
theorem SOwn.st {α : Type} {T : TypeId} {k : Nat} {enc : α → List Value} {w w' : World} {base B : Nat} {v : Value} {l : List α} {TT : TypeId → Bool} (h : SOwn T k enc w base v l) (hk : ST TT B w w') (hT : TT T = false) : SOwn T k enc w' base v l := h.stays fun g hg => by
  obtain ⟨cur, hc⟩ := h.typed hg
  exact hk.cells hc hT
theorem BlkT.bk {w w' : World} {g : Nat} {cs : List Value} {T : TypeId} {B : Nat} (h : BlkT w g cs T) (hb : Bk B w w') : BlkT w' g cs T := hb.keep h rfl
theorem BlkT.kt {w w' : World} {g : Nat} {cs : List Value} {T : TypeId} {TT : TypeId → Bool} (h : BlkT w g cs T) (hb : KT TT w w') (hT : TT T = true) : BlkT w' g cs T := hb.same _ _ _ _ h hT
theorem BlkT.st {w w' : World} {g : Nat} {cs : List Value} {T : TypeId} {TT : TypeId → Bool} {B : Nat} (h : BlkT w g cs T) (hb : ST TT B w w') (hT : TT T = false) : BlkT w' g cs T := (hb.cells h hT).trans h
theorem app_step {n0 : Nat} {g : Int → Nat} {w : World} {v : Value} {l : List (Int × Nat)} (h : StOwn n0 g w v l) (hb : n0 ≤ w.heap.size) (y : Int) (e : Nat) {z : Int} (hz : z = (e : Nat)) {c : Nat} (hn : l.length ≤ 900000000) :
    ∃ v' w', (Builtin.append_ #[tSteps, tSteps] tSteps #[v, .slice (some ⟨w.heap.size, 0, none⟩) 1 c]).run Try.prog (w.alloc (.cells #[.pointer (some ⟨g y, 0, none⟩), .int .i64 z] tStep)) = .ok v' w' ∧ StOwn n0 g w' v' (l ++ [(y, e)]) ∧
      (w.alloc (.cells #[.pointer (some ⟨g y, 0, none⟩), .int .i64 z] tStep)).grownBy w' v.ownBlock ∧ (v'.ownBlock = v.ownBlock ∨ v'.ownBlock = some (w.heap.size + 1)) := by
  subst hz
  obtain ⟨v', w', h1, h2, h3, h4⟩ := SOwn.app (P := Try.prog) (xs := [(y, e)]) (c := c) (g := w.heap.size) (o := 0) Try.underlying133 info_step rfl (by decide) (by decide) (stepC_len g) (stepC_plain g)
    (h.below ((Below.refl _ _).alloc (Nat.le_refl _) (.cells #[.pointer (some ⟨g y, 0, none⟩), .int .i64 (e : Nat)] tStep))) (fun _ => srow_new (enc := stepC g) (stepC_len g) w [(y, e)] _ rfl) (by simp; omega) (by simp; omega)
  refine ⟨v', w', h1, h2, h3, ?_⟩
  simpa using h4
/-- a tree's nodes in memory -/
def Nds (W : World) (s : Sh) (H : Int → Prop) (P : Int → Option Int) (K : Int → List Int) : Prop := ∀ i, H i → NodeAt W (s.g i) i ((P i).map s.g) (s.v i) (ks s (K i))
theorem Nds.kt {W W' : World} {s : Sh} {H : Int → Prop} {P : Int → Option Int} {K : Int → List Int} (h : Nds W s H P K) (hk : KT kT W W') : Nds W' s H P K := fun i hi => by
  have hn := h i hi
  refine hn.stays ((hk.same _ _ _ _ hn.blk (by simp [kT])).trans hn.blk.symm) fun k hk' => ?_
  obtain ⟨cur, fr, h1⟩ := hn.own.typed hk'
  exact (hk.same _ _ _ _ h1 (by simp [kT])).trans h1.symm
theorem kt_st {B : Nat} {W W' : World} {s : Sh} {H : Int → Prop} {P : Int → Option Int} {K : Int → List Int} (h : Nds W s H P K) (hk : ST sT B W W') : Nds W' s H P K := fun i hi => by
  have hn := h i hi
  refine hn.stays (hk.cells hn.blk (by decide)) fun k hk' => ?_
  obtain ⟨cur, fr, h1⟩ := hn.own.typed hk'
  exact hk.cells h1 (by decide)
/-- what a walk tells -/
def walkE (g : Int → Nat) (l : List (Int × Nat)) : List (Array Value) := l.map fun p => #[.pointer (some ⟨g p.1, 0, none⟩), .int .i64 (p.2 : Nat)]
theorem walkE_len (g : Int → Nat) (l : List (Int × Nat)) : (walkE g l).length = l.length := List.length_map _
theorem walkE_at (g : Int → Nat) (l : List (Int × Nat)) {j : Nat} (hj : j < (walkE g l).length) : (walkE g l)[j] = #[.pointer (some ⟨g (l[j]'(by rw [walkE_len] at hj; exact hj)).1, 0, none⟩), .int .i64 ((l[j]'(by rw [walkE_len] at hj; exact hj)).2 : Nat)] := by simp [walkE]
theorem walkE_getD (g : Int → Nat) (l : List (Int × Nat)) {j : Nat} (hj : j < (walkE g l).length) : (walkE g l)[j] = #[.pointer (some ⟨g (l.getD j (0, 0)).1, 0, none⟩), .int .i64 ((l.getD j (0, 0)).2 : Nat)] := by
  have hl : j < l.length := by rw [walkE_len] at hj; exact hj
  rw [walkE_at, List.getD_eq_getElem?_getD, List.getElem?_eq_getElem hl]
  rfl
set_option maxHeartbeats 1000000 in
theorem nwalk (g : Nat) (w : World) : Calls Try.prog 42 #[.pointer (some ⟨g, 0, none⟩)] w fun e w' => e = .returned (.func (.func 60) #[] #[.pointer (some ⟨w.heap.size, 0, none⟩)]) ∧ w' = w.alloc (.cells #[.pointer (some ⟨g, 0, none⟩)] tPtr) := by
  go_enter Try.func42, Try.ntmps42
  go_wp2_with (fail)
  go_ret
  exact ⟨rfl, rfl⟩
end Go.Proofs.Ytokochkjjlbnkaa
