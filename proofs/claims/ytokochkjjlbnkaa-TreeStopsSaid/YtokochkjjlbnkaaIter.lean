/-
  A range over a function, at the wide fence: the iterator tells a known row of elements; what its own steps may turn, and what a round keeps, are relations of worlds. No word of the program.
-/
import Derived.RangeFuncRecord
import Derived.RangeFuncCalls
import Derived.OrdersIn
import Derived.LoopNIn
import Derived.TacticsIn
import Derived.Below
import Derived.Test.YtokochkjjlbnkaaRegs
namespace Go.Proofs.Ytokochkjjlbnkaa.itr
open Go.RowKit

/-- a loop's record, or its rounds' deferred calls -/
def isBk : Obj → Bool
  | .loop _ => true
  | .deferred _ => true
  | _ => false
/-- book-keeping: new blocks, and turns of records from B on -/
structure Bk (B : Nat) (A A' : World) : Prop where
  os : A'.os = A.os
  tape : A'.tape = A.tape
  output : A'.output = A.output
  size : A.heap.size ≤ A'.heap.size
  far : ∀ k, k < A.heap.size → A'.heap[k]? = A.heap[k]? ∨ (B ≤ k ∧ ∃ o, A.heap[k]? = some o ∧ isBk o = true)
theorem Bk.refl (B : Nat) (A : World) : Bk B A A := ⟨rfl, rfl, rfl, Nat.le_refl _, fun _ _ => .inl rfl⟩
theorem Bk.trans {B : Nat} {A A' A'' : World} (h : Bk B A A') (k : Bk B A' A'') : Bk B A A'' :=
  ⟨k.os.trans h.os, k.tape.trans h.tape, k.output.trans h.output, Nat.le_trans h.size k.size, fun i hi => by
    rcases h.far i hi with h1 | h1
    · rcases k.far i (Nat.lt_of_lt_of_le hi h.size) with h2 | h2
      · exact .inl (h2.trans h1)
      · rw [h1] at h2
        exact .inr h2
    · exact .inr h1⟩
theorem Bk.mono {B B' : Nat} {A A' : World} (h : Bk B A A') (hB : B' ≤ B) : Bk B' A A' := ⟨h.os, h.tape, h.output, h.size, fun k hk => (h.far k hk).imp id fun e => ⟨Nat.le_trans hB e.1, e.2⟩⟩
theorem Bk.alloc (B : Nat) (A : World) (o : Obj) : Bk B A (A.alloc o) := ⟨rfl, rfl, rfl, by simp, fun k hk => .inl (Below.heap_alloc A o k hk)⟩
theorem Bk.put {B : Nat} {A : World} {l : Nat} {o : Obj} (o' : Obj) (hB : B ≤ l) (hl : A.heap[l]? = some o) (ho : isBk o = true) : Bk B A (A.putObj l o') := ⟨rfl, rfl, rfl, by simp, fun k _ => by
  by_cases e : k = l
  · subst e
    exact .inr ⟨hB, o, hl, ho⟩
  · exact .inl (World.putObj_heap_other e)⟩
theorem Bk.keep {B : Nat} {A A' : World} (h : Bk B A A') {k : Nat} {o : Obj} (hk : A.heap[k]? = some o) (ho : isBk o = false) : A'.heap[k]? = some o := by
  rcases h.far k (Array.getElem?_eq_some_iff.1 hk).1 with e | ⟨_, o', h1, h2⟩
  · exact e.trans hk
  · rw [hk] at h1
    cases h1
    rw [ho] at h2
    cases h2
theorem Bk.low {B : Nat} {A A' : World} (h : Bk B A A') {k : Nat} (hk : k < A.heap.size) (hB : k < B) : A'.heap[k]? = A.heap[k]? := by
  rcases h.far k hk with e | ⟨e, _⟩
  · exact e
  · omega
theorem Bk.below {B n : Nat} {A A' : World} (h : Bk B A A') (hn : n ≤ B) (hs : n ≤ A.heap.size) : Below n A A' := ⟨h.os, h.tape, h.output, h.size, fun k hk => h.low (by omega) (by omega)⟩
/-- what a round keeps of the records -/
def KB (A A' : World) : Prop := ∀ (k : Nat) (o : Obj), A.heap[k]? = some o → isBk o = true → A'.heap[k]? = some o
theorem KB.refl (A : World) : KB A A := fun _ _ h _ => h
theorem KB.trans {A B C : World} (h : KB A B) (k : KB B C) : KB A C := fun i o hi ho => k i o (h i o hi ho) ho
theorem KB.of_grown {A B : World} {row : Option Nat} (hg : A.grownBy B row) (hr : ∀ (j : Nat) (o : Obj), row = some j → A.heap[j]? = some o → isBk o = false) : KB A B := fun k o hk ho => by
  refine (hg.block k (Array.getElem?_eq_some_iff.1 hk).1 fun e => ?_).trans hk
  have := hr k o e.symm hk
  rw [ho] at this
  cases this
theorem KB.below {A B : World} (h : Below A.heap.size A B) : KB A B := fun k _ hk _ => (h.block k (Array.getElem?_eq_some_iff.1 hk).1).trans hk
theorem KB.set {A : World} {a : Addr} {o : Obj} (h : A.heap[a.block]? = some o) (ho : isBk o = false) (u : Value) : KB A (A.setCell a u) := fun k o' hk hb => by
  refine (Below.heap_setCell A a u k fun e => ?_).trans hk
  subst e
  rw [h] at hk
  cases hk
  rw [ho] at hb
  cases hb

/-- what a round keeps of the records from n on -/
def KBf (n : Nat) (A B : World) : Prop := ∀ (k : Nat) (o : Obj), n ≤ k → A.heap[k]? = some o → isBk o = true → B.heap[k]? = some o

/-- the iterator's contract: called at any loop's yield, it tells these elements, one behind the other; or stops where a round says no -/
def IterL (P : Program) (g : Nat) (lb : Array Value) (es : List (Array Value)) (R : Nat → World → World → Prop) (Kp : World → World → Prop) (W : World) : Prop :=
  ∀ (l : Nat) (J Jx : Nat → World → Prop), (∀ k A B, J k A → R W.heap.size A B → J k B) → (∀ k A B, Jx k A → R W.heap.size A B → Jx k B) →
    (∀ (k : Nat) (hk : k < es.length) (A : World), J k A → YieldAt Fence.wide 0 P l es[k] A fun e B => KBf W.heap.size A B ∧ ((e = .returned (.bool true) ∧ J (k + 1) B ∧ Kp A B) ∨ (e = .returned (.bool false) ∧ Jx (k + 1) B))) →
    J 0 W → Calls P g (#[.func (.yield l) #[] #[]] ++ lb) W fun e B => (∃ v, e = .returned v) ∧ (J es.length B ∨ ∃ k, k ≤ es.length ∧ Jx k B)

/-- how a round may be left -/
def rPost (Kp : World → World → Prop) (I : Nat → World → Prop) (Ix : Code → Nat → World → Prop) (k : Nat) (W : World) : Exit → Act → World → Prop
  | .normal, _, W' => KB W W' ∧ Kp W W' ∧ I (k + 1) W'
  | .ret, _, W' => KB W W' ∧ Ix .ret (k + 1) W'
  | .exit id, _, W' => KB W W' ∧ Ix (.exit id) (k + 1) W'
  | .goto t, _, W' => KB W W' ∧ Ix (.goto t) (k + 1) W'
  | .panic _, _, _ => False
  | .outgrown, _, _ => False
/-- the mark of a loop's deferred calls -/
def mk (D : Nat) : Deferred := { target := .collected D, args := #[] }

variable {P : Program}
theorem wp_range {g : Operand} {ps : Array Tmp} {assign body : Code} {Q : Exit → Act → World → Prop} {a : Act} {w : World}
    {gf : Nat} {lb : Array Value} (hg : a.eval g = .func (.func gf) #[] lb) (eg : ∀ args w, (callFunc gf args).run P w = .ok (.enter gf args) w)
    {es : List (Array Value)} {R : Nat → World → World → Prop} {Kp : World → World → Prop} (hit : ∀ W1, Bk w.heap.size w W1 → IterL P gf lb es R Kp W1)
    (hKt : ∀ {A B C : World}, Kp A B → Kp B C → Kp A C) (hKb : ∀ A B, Bk w.heap.size A B → Kp A B) (hRb : ∀ n A B, R n A B → ∀ (k : Nat) (o : Obj), k < n → A.heap[k]? = some o → isBk o = true → B.heap[k]? = some o)
    (hps : ∀ e ∈ es, e.size = ps.size)
    (I : Nat → World → Prop) (Ix : Code → Nat → World → Prop) (hI : ∀ k A B, I k A → (∃ n, w.heap.size ≤ n ∧ R n A B) ∨ Bk w.heap.size A B → I k B) (hIx : ∀ c k A B, Ix c k A → (∃ n, w.heap.size ≤ n ∧ R n A B) ∨ Bk w.heap.size A B → Ix c k B) (h0 : I 0 w) (a₁ : Nat → Act)
    (hassign : ∀ (l k : Nat) (hk : k < es.length) (W : World) (K : Act → World → Prop), K (a₁ k) W →
      assign.wpIn (Fence.wide.inRound l) 0 P (Exit.then K (fun _ _ _ => False)) { tmps := (ps.zip es[k]).foldl (fun t (p, v) => t.setIfInBounds p v) a.tmps, defers := [] } W)
    (hbody : ∀ (l k : Nat) (_ : k < es.length) (W : World), I k W → body.wpIn (Fence.wide.inRound l) 0 P (rPost Kp I Ix k W) (a₁ k) W)
    (hdone : ∀ (D : Nat) (W : World), w.heap.size ≤ D → I es.length W → W.heap[D]? = some (.deferred (some [])) → Q .normal { a with defers := mk D :: a.defers } W)
    (hstop : ∀ (D : Nat) (c : Code) (k : Nat) (W : World), w.heap.size ≤ D → k ≤ es.length → Ix c k W → W.heap[D]? = some (.deferred (some [])) → c.wp P Q { a with defers := mk D :: a.defers } W) :
    (Code.rangeFunc g ps assign body).wp P Q a w := by
  refine (wpIn_wide (n := 0)).1 (wpIn_rangeFunc fun fn hfn => ?_)
  obtain ⟨rec, hrec⟩ : ∃ rec : LoopState → Option Code → Loop, rec = fun st pe => { state := st, pending := pe, fn, tmps := a.tmps, params := ps, assign, body, defers := w.heap.size } := ⟨_, rfl⟩
  obtain ⟨W1, hW1⟩ : ∃ W1, (w.alloc (.deferred (some []))).alloc (.loop (rec .ready none)) = W1 := ⟨_, rfl⟩
  have hL1 : W1.heap[w.heap.size + 1]? = some (.loop (rec .ready none)) := by
    rw [← hW1]
    have := World.alloc_heap_new (w.alloc (.deferred (some []))) (.loop (rec .ready none))
    rwa [World.size_alloc] at this
  have hD1 : W1.heap[w.heap.size]? = some (.deferred (some [])) := by
    rw [← hW1]
    exact (Below.heap_alloc _ _ _ (by simp)).trans (World.alloc_heap_new w _)
  have hB1 : Bk w.heap.size w W1 := by rw [← hW1]; exact (Bk.alloc _ _ _).trans (Bk.alloc _ _ _)
  have hlt1 : w.heap.size + 1 < W1.heap.size := (Array.getElem?_eq_some_iff.1 hL1).1
  refine ⟨w.heap.size + 1, [mk w.heap.size], W1, { target := .fn (.func gf) lb, args := #[.func (.yield (w.heap.size + 1)) #[] #[]] }, W1, gf, #[.func (.yield (w.heap.size + 1)) #[] #[]] ++ lb, W1, ?_, ?_, fun _ _ => trivial, ?_, (fun h => nomatch h), callsIn_wide.2 ?_⟩
  · rw [← hW1, hrec]
    exact run_enterLoop_outer _ _ _ _ _
  · simp only [resolve, hg]
    simp [go_sem]
  · simp [invoke, go_sem, eg]
  refine (hit W1 hB1 (w.heap.size + 1) (fun k W => I k W ∧ W.heap[w.heap.size + 1]? = some (.loop (rec .ready none)) ∧ W.heap[w.heap.size]? = some (.deferred (some [])))
    (fun k W => ∃ c, Ix c k W ∧ W.heap[w.heap.size + 1]? = some (.loop (rec .done (some c))) ∧ W.heap[w.heap.size]? = some (.deferred (some [])))
    (fun k A B h hr => ⟨hI k A B h.1 (.inl ⟨_, hB1.size, hr⟩), hRb _ A B hr _ _ hlt1 h.2.1 rfl, hRb _ A B hr _ _ (by omega) h.2.2 rfl⟩) (fun k A B ⟨c, h1, h2, h3⟩ hr => ⟨c, hIx c k A B h1 (.inl ⟨_, hB1.size, hr⟩), hRb _ A B hr _ _ hlt1 h2 rfl, hRb _ A B hr _ _ (by omega) h3 rfl⟩)
    ?_ ⟨hI 0 w W1 h0 (.inr hB1), hL1, hD1⟩).mono ?_
  · intro k hk W ⟨hi, hl, hd⟩
    have hlt : w.heap.size + 1 < W.heap.size := (Array.getElem?_eq_some_iff.1 hl).1
    have hy := run_yield (P := P) (args := es[k]) hl (by rw [hrec]; exact hps _ (List.getElem_mem hk))
    rw [hrec] at hy
    refine ⟨fn, _, assign, body, hy, roundIn_of_wpIn hfn (hassign _ k hk W _ ⟨_, run_beginRound hl (by rw [hrec]), ?_⟩)⟩
    have hb2 : Bk w.heap.size W (W.putObj (w.heap.size + 1) (.loop { rec .ready none with state := .busy })) := Bk.put _ (by omega) hl rfl
    have hl2 : (W.putObj (w.heap.size + 1) (.loop { rec .ready none with state := .busy })).heap[w.heap.size + 1]? = some (.loop { rec .ready none with state := .busy }) := World.putObj_heap_same hlt
    have hd2 : (W.putObj (w.heap.size + 1) (.loop { rec .ready none with state := .busy })).heap[w.heap.size]? = some (.deferred (some [])) := (World.putObj_heap_other (by omega)).trans hd
    refine wpIn_mono (hbody _ k hk _ (hI k _ _ hi (.inr hb2))) ?_
    have fin : ∀ (jump : Option Code) (W3 : World), KB (W.putObj (w.heap.size + 1) (.loop { rec .ready none with state := .busy })) W3 →
        ∃ W4, (Instr.endRound (w.heap.size + 1) jump).run P W3 = .ok (.bool jump.isNone) W4 ∧ KBf W1.heap.size W W4 ∧ Bk w.heap.size W3 W4 ∧ W4.heap[w.heap.size + 1]? = some (.loop (rec (if jump.isNone then .ready else .done) jump)) ∧ W4.heap[w.heap.size]? = some (.deferred (some [])) := fun jump W3 hk3 => by
      have hl3 := hk3 _ _ hl2 rfl
      have := run_endRound (P := P) jump hl3
      rw [hrec] at this ⊢
      exact ⟨_, this, fun k o hn ho hb => (World.putObj_heap_other (by omega)).trans (hk3 k o ((World.putObj_heap_other (by omega)).trans ho) hb), Bk.put _ (by omega) hl3 rfl, World.putObj_heap_same (Array.getElem?_eq_some_iff.1 hl3).1, (World.putObj_heap_other (by omega)).trans (hk3 _ _ hd2 rfl)⟩
    rintro e a3 W3 hp
    cases e with
    | normal =>
      obtain ⟨hk3, hkp3, hi3⟩ := hp
      obtain ⟨W4, hr, hf4, hb4, hl4, hd4⟩ := fin none W3 hk3
      exact ⟨_, W4, hr, hf4, .inl ⟨rfl, ⟨hI _ _ _ hi3 (.inr hb4), hl4, hd4⟩, hKt (hKt (hKb _ _ hb2) hkp3) (hKb _ _ hb4)⟩⟩
    | ret =>
      obtain ⟨hk3, hi3⟩ := hp
      obtain ⟨W4, hr, hf4, hb4, hl4, hd4⟩ := fin (some .ret) W3 hk3
      exact ⟨_, W4, hr, hf4, .inr ⟨rfl, .ret, hIx _ _ _ _ hi3 (.inr hb4), hl4, hd4⟩⟩
    | exit id =>
      obtain ⟨hk3, hi3⟩ := hp
      obtain ⟨W4, hr, hf4, hb4, hl4, hd4⟩ := fin (some (.exit id)) W3 hk3
      exact ⟨_, W4, hr, hf4, .inr ⟨rfl, .exit id, hIx _ _ _ _ hi3 (.inr hb4), hl4, hd4⟩⟩
    | goto t =>
      obtain ⟨hk3, hi3⟩ := hp
      obtain ⟨W4, hr, hf4, hb4, hl4, hd4⟩ := fin (some (.goto t)) W3 hk3
      exact ⟨_, W4, hr, hf4, .inr ⟨rfl, .goto t, hIx _ _ _ _ hi3 (.inr hb4), hl4, hd4⟩⟩
    | panic ch => exact hp.elim
    | outgrown => exact hp.elim
  · rintro e W2 ⟨⟨v, rfl⟩, (⟨hi, hl, hd⟩ | ⟨k, hk, c, hi, hl, hd⟩)⟩
    · have hr := run_endLoop (P := P) hl (by rw [hrec]; simp)
      rw [hrec] at hr hl
      exact ⟨none, _, hr, hdone _ _ (Nat.le_refl _) (hI _ _ _ hi (.inr (Bk.put _ (by omega) hl rfl))) ((World.putObj_heap_other (by omega)).trans hd)⟩
    · have hr := run_endLoop (P := P) hl (by rw [hrec]; simp)
      rw [hrec] at hr hl
      exact ⟨some c, _, hr, (wpIn_wide (n := 0)).2 (hstop _ c k _ (Nat.le_refl _) hk (hIx _ _ _ _ hi (.inr (Bk.put _ (by omega) hl rfl))) ((World.putObj_heap_other (by omega)).trans hd))⟩

/-! ### The function's end: its loops' marks -/
def Marks (B : Nat) (w : World) : List Deferred → Prop
  | [] => True
  | d :: ds => (∃ D, d = mk D ∧ B ≤ D ∧ w.heap[D]? = some (.deferred (some [])) ∧ mk D ∉ ds) ∧ Marks B w ds
theorem Marks.keep {B : Nat} {w w' : World} : ∀ {ds : List Deferred}, Marks B w ds → (∀ D, mk D ∈ ds → w.heap[D]? = some (.deferred (some [])) → w'.heap[D]? = some (.deferred (some []))) → Marks B w' ds
  | [], _, _ => trivial
  | d :: ds, ⟨⟨D, e, hB, h, hn⟩, hs⟩, hk => ⟨⟨D, e, hB, hk D (by rw [e]; exact List.mem_cons_self) h, hn⟩, hs.keep fun D' hD' => hk D' (List.mem_cons_of_mem _ hD')⟩
theorem Marks.kb {B : Nat} {w w' : World} {ds : List Deferred} (h : Marks B w ds) (hk : KB w w') : Marks B w' ds := h.keep fun D _ hD => hk D _ hD rfl
theorem Marks.kbf {B : Nat} {w w' : World} (hk : KBf B w w') : ∀ {ds : List Deferred}, Marks B w ds → Marks B w' ds
  | [], _ => trivial
  | _ :: _, ⟨⟨D, e, hB, h, hn⟩, hs⟩ => ⟨⟨D, e, hB, hk D _ hB h rfl, hn⟩, Marks.kbf hk hs⟩
theorem Marks.lt {B : Nat} {w : World} : ∀ {ds : List Deferred}, Marks B w ds → ∀ D, mk D ∈ ds → D < w.heap.size
  | d :: ds, ⟨⟨D, e, _, h, _⟩, hs⟩, D', hm => by
    rcases List.mem_cons.1 hm with e' | e'
    · rw [e] at e'
      unfold mk at e'
      injection e' with e' _
      injection e' with e'
      subst e'
      exact (Array.getElem?_eq_some_iff.1 h).1
    · exact hs.lt D' e'
theorem Marks.bk {B B' : Nat} {w w' : World} {ds : List Deferred} (h : Marks B w ds) (hk : Bk B' w w') (hB : ∀ D, mk D ∈ ds → D < B') : Marks B w' ds := h.keep fun D hm hD => (hk.low (Array.getElem?_eq_some_iff.1 hD).1 (hB D hm)).trans hD
theorem leaves {fn : Func} {tmps : Array Value} {R : Ending → World → Prop} (B : Nat) : ∀ (ds : List Deferred) (w : World), Marks B w ds → (∀ w', Bk B w w' → ∃ v, (results fn tmps).run P w' = .ok v w' ∧ R (.returned v) w') →
    LeavesInM Fence.wide 0 P fn tmps R ds .returning w
  | [], w, _, h => h w (Bk.refl _ _)
  | d :: ds, w, ⟨⟨D, e, hB, hD, hn⟩, hs⟩, h => by
    subst e
    refine ⟨by simp, .inl ⟨D, _, rfl, run_takeDeferred hD, leaves B ds _ (hs.keep fun D' hm hD' => ?_) fun w' hb => h w' ((Bk.put _ hB hD rfl).trans hb)⟩⟩
    refine (World.putObj_heap_other (fun e => ?_)).trans hD'
    subst e
    exact hn hm
abbrev postM (P : Program) (fn : Func) (R : Ending → World → Prop) : Exit → Act → World → Prop := bodyPostM Fence.wide 0 P fn R
theorem calls_of_marks {f : FuncId} {fn : Func} {c : Code} {args : Array Value} {w : World} {R : Ending → World → Prop} (hf : P.funcs[f]? = some fn) (hb : fn.body = some c)
    (h : c.wp P (postM P fn R) { tmps := args ++ Array.replicate (fn.ntmps - args.size) undef, defers := [] } w) : Calls P f args w R :=
  (callsIn_wide (n := 0)).1 (callsIn_of_wp_marks hf hb trivial ((wpIn_wide (n := 0)).2 h))
theorem postM_ret {fn : Func} {R : Ending → World → Prop} {a : Act} {w : World} (B : Nat) (hm : Marks B w a.defers) (h : ∀ w', Bk B w w' → ∃ v, (results fn a.tmps).run P w' = .ok v w' ∧ R (.returned v) w') : postM P fn R .ret a w := leaves B _ _ hm h
theorem postM_end {fn : Func} {R : Ending → World → Prop} {a : Act} {w : World} (B : Nat) (hm : Marks B w a.defers) (h : ∀ w', Bk B w w' → ∃ v, (results fn a.tmps).run P w' = .ok v w' ∧ R (.returned v) w') : postM P fn R .normal a w := leaves B _ _ hm h

/-! ### A loop whose invariant is told with a number that falls -/
theorem then_mono {K K' : Act → World → Prop} {Q : Exit → Act → World → Prop} (h : ∀ a w, K a w → K' a w) : ∀ e a w, Exit.then K Q e a w → Exit.then K' Q e a w
  | .normal, _, _, hk => h _ _ hk
  | .ret, _, _, hk => hk
  | .exit _, _, _, hk => hk
  | .goto _, _, _, hk => hk
  | .panic _, _, _, hk => hk
  | .outgrown, _, _, hk => hk
theorem loop_idx {F : Fence} {n : Nat} {c : Code} {Q : Exit → Act → World → Prop} (I : Nat → Act → World → Prop) (hstep : ∀ m a w, I m a w → c.wpIn F n P (Exit.then (fun a' w' => ∃ m', m' < m ∧ I m' a' w') Q) a w) {m : Nat} {a : Act} {w : World} (h : I m a w) :
    (Code.loop c).wpIn F n P Q a w := by
  have go : ∀ (M m : Nat) (a : Act) (w : World), m < M → I m a w → Code.roundsIn F n P c Q M a w := by
    intro M
    induction M with
    | zero => intro m a w hm _; omega
    | succ M ih =>
      intro m a w hm hi
      rw [roundsIn_succ]
      refine wpIn_mono (hstep m a w hi) (then_mono fun a' w' ⟨m', hlt, hi'⟩ => ih m' a' w' (by omega) hi')
  exact wpIn_loop_rounds (m + 1) (go _ m a w (by omega) h)

/-! ### What blocks of some types, and new ones, turn; what blocks of some types stay -/
structure ST (T : TypeId → Bool) (B : Nat) (A A' : World) : Prop where
  os : A'.os = A.os
  tape : A'.tape = A.tape
  output : A'.output = A.output
  size : A.heap.size ≤ A'.heap.size
  far : ∀ (k : Nat) (o : Obj), A.heap[k]? = some o → (B ≤ k → isBk o = false ∧ ∀ cur ty fr, o = .cells cur ty fr → T ty = false) → A'.heap[k]? = some o
theorem ST.refl (T : TypeId → Bool) (B : Nat) (A : World) : ST T B A A := ⟨rfl, rfl, rfl, Nat.le_refl _, fun _ _ h _ => h⟩
theorem ST.trans {T : TypeId → Bool} {B : Nat} {A A' A'' : World} (h : ST T B A A') (k : ST T B A' A'') : ST T B A A'' :=
  ⟨k.os.trans h.os, k.tape.trans h.tape, k.output.trans h.output, Nat.le_trans h.size k.size, fun i o hi h1 => k.far i o (h.far i o hi h1) h1⟩
theorem ST.bk {T : TypeId → Bool} {B B' : Nat} {A A' : World} (h : Bk B' A A') (hB : B ≤ B') : ST T B A A' := ⟨h.os, h.tape, h.output, h.size, fun k o hk h1 => by
  rcases h.far k (Array.getElem?_eq_some_iff.1 hk).1 with e | ⟨e1, o', e2, e3⟩
  · exact e.trans hk
  · rw [hk] at e2
    cases e2
    rw [(h1 (by omega)).1] at e3
    cases e3⟩
theorem ST.below {T : TypeId → Bool} {B : Nat} {A A' : World} (h : Below A.heap.size A A') : ST T B A A' := ⟨h.os, h.tape, h.output, h.size, fun k _ hk _ => (h.block k (Array.getElem?_eq_some_iff.1 hk).1).trans hk⟩
theorem ST.set {T : TypeId → Bool} {B : Nat} {A : World} {a : Addr} {cur : Array Value} {ty : TypeId} {fr : Nat × Nat} (h : A.heap[a.block]? = some (.cells cur ty fr)) (ht : T ty = true) (hB : B ≤ a.block) (u : Value) : ST T B A (A.setCell a u) :=
  ⟨rfl, rfl, rfl, by simp [World.setCell], fun k o hk h2 => (Below.heap_setCell A a u k fun e => by
    subst e
    rw [h] at hk
    injection hk with hk
    rw [(h2 hB).2 _ _ _ hk.symm] at ht
    cases ht).trans hk⟩
theorem ST.grown {T : TypeId → Bool} {B : Nat} {A A' : World} {row : Option Nat} (hg : A.grownBy A' row) (hr : ∀ j, row = some j → A.heap.size ≤ j ∨ (B ≤ j ∧ ∃ cur ty fr, A.heap[j]? = some (.cells cur ty fr) ∧ T ty = true)) : ST T B A A' :=
  ⟨hg.os, hg.tape, hg.output, hg.size, fun k o hk h2 => (hg.block k (Array.getElem?_eq_some_iff.1 hk).1 fun e => by
    have hlt := (Array.getElem?_eq_some_iff.1 hk).1
    rcases hr k e.symm with h | ⟨hB, cur, ty, fr, h, ht⟩
    · omega
    · rw [h] at hk
      injection hk with hk
      rw [(h2 hB).2 _ _ _ hk.symm] at ht
      cases ht).trans hk⟩
theorem ST.keeps {T : TypeId → Bool} {B : Nat} {A A' : World} (h : ST T B A A') : ∀ (k : Nat) (o : Obj), k < B → A.heap[k]? = some o → isBk o = true → A'.heap[k]? = some o := fun k o hk ho _ => h.far k o ho (fun e => by omega)
theorem ST.cells {T : TypeId → Bool} {B : Nat} {A A' : World} (h : ST T B A A') {k : Nat} {cur : Array Value} {ty : TypeId} {fr : Nat × Nat} (hk : A.heap[k]? = some (.cells cur ty fr)) (ht : T ty = false) : A'.heap[k]? = A.heap[k]? :=
  (h.far k _ hk (fun _ => ⟨rfl, fun _ _ _ e => by injection e with _ e _; rw [← e]; exact ht⟩)).trans hk.symm
theorem ST.to_below {T : TypeId → Bool} {B n : Nat} {A A' : World} (h : ST T B A A') (hn : n ≤ B) (hs : n ≤ A.heap.size) : Below n A A' := ⟨h.os, h.tape, h.output, h.size, fun k hk => by
  have hlt : k < A.heap.size := by omega
  have e : A.heap[k]? = some A.heap[k] := Array.getElem?_eq_getElem hlt
  rw [e]
  exact h.far k _ e (fun e => by omega)⟩
structure KT (T : TypeId → Bool) (A A' : World) : Prop where
  size : A.heap.size ≤ A'.heap.size
  same : ∀ (k : Nat) (cur : Array Value) (ty : TypeId) (fr : Nat × Nat), A.heap[k]? = some (.cells cur ty fr) → T ty = true → A'.heap[k]? = some (.cells cur ty fr)
theorem KT.refl (T : TypeId → Bool) (A : World) : KT T A A := ⟨Nat.le_refl _, fun _ _ _ _ h _ => h⟩
theorem KT.trans {T : TypeId → Bool} {A A' A'' : World} (h : KT T A A') (k : KT T A' A'') : KT T A A'' := ⟨Nat.le_trans h.size k.size, fun i c ty fr hi ht => k.same i c ty fr (h.same i c ty fr hi ht) ht⟩
theorem KT.bk {T : TypeId → Bool} {B : Nat} {A A' : World} (h : Bk B A A') : KT T A A' := ⟨h.size, fun _ _ _ _ hk _ => h.keep hk rfl⟩
theorem KT.below {T : TypeId → Bool} {A A' : World} (h : Below A.heap.size A A') : KT T A A' := ⟨h.size, fun k _ _ _ hk _ => (h.block k (Array.getElem?_eq_some_iff.1 hk).1).trans hk⟩
theorem KT.grown {T : TypeId → Bool} {A A' : World} {row : Option Nat} (hg : A.grownBy A' row) (hr : ∀ j cur ty fr, row = some j → A.heap[j]? = some (.cells cur ty fr) → T ty = false) : KT T A A' :=
  ⟨hg.size, fun k cur ty fr hk ht => (hg.block k (Array.getElem?_eq_some_iff.1 hk).1 fun e => by
    rw [hr k cur ty fr e.symm hk] at ht
    cases ht).trans hk⟩
theorem KT.st {T T' : TypeId → Bool} {B : Nat} {A A' : World} (h : ST T' B A A') (hd : ∀ ty, T ty = true → T' ty = false) : KT T A A' := ⟨h.size, fun _ _ ty _ hk ht => (h.cells hk (hd ty ht)).trans hk⟩
theorem KT.set {T : TypeId → Bool} {A : World} {a : Addr} {cur : Array Value} {ty : TypeId} {fr : Nat × Nat} (h : A.heap[a.block]? = some (.cells cur ty fr)) (ht : T ty = false) (u : Value) : KT T A (A.setCell a u) :=
  ⟨by simp [World.setCell], fun k c t f hk hT => (Below.heap_setCell A a u k fun e => by
    subst e
    rw [h] at hk
    injection hk with hk
    injection hk with _ hk _
    rw [← hk, ht] at hT
    cases hT).trans hk⟩

/-! ### A region that draws its order, in a round -/
theorem rows_in {l n : Nat} {row : String} {args : Array Value} {w : World} {R : Value → World → Prop} (h : Rows P row args w R) : RowsIn (Fence.wide.inRound l) n P row args w R := fun c cs _ =>
  let ⟨v, w', r, s⟩ := h c cs
  ⟨v, w', r, stepsIn_wide.2 s⟩
theorem oper_in {l : Nat} {o : Oper} {a : Act} {w : World} {K : Act → World → Prop} {Q : Exit → Act → World → Prop} (hd : ∀ c, o.op ≠ .defer c) (h : o.wp P a w K Q) : o.wpIn (Fence.wide.inRound l) 0 P a w K Q := by
  refine ⟨fun _ _ => trivial, ?_⟩
  unfold Oper.wp at h
  rw [show (Fence.wide.inRound l).round = some l from rfl, Oper.semAt_eq _ _ _ hd]
  generalize (execOp a.eval o).run P w = r at *
  cases r with
  | ok x w' =>
    cases x <;> simp only [Oper.upon, Oper.uponIn] at h ⊢ <;> first
      | exact h
      | exact ⟨(fun e => nomatch e), callsIn_wide.2 h⟩
      | exact ⟨(fun e => nomatch e), rows_in h⟩
  | halt x w' => cases x <;> simp only [Oper.upon, Oper.uponIn] at h ⊢ <;> exact h
def noDefer (l : List Oper) : Bool := l.all fun o => match o.op with | .defer _ => false | _ => true
theorem noDefer_spec {l : List Oper} (h : noDefer l = true) : ∀ o ∈ l, ∀ c, o.op ≠ .defer c := by
  intro o ho c e
  unfold noDefer at h
  rw [List.all_eq_true] at h
  have := h o ho
  rw [e] at this
  cases this
/-- an append whose run is known, in a round -/
theorem wpl_append_in {l : Nat} {ops : Array Oper} {rest : List Oper} {o : Oper} {a : Act} {Q : Exit → Act → World → Prop} {w : World} (hgd : Region.wanted o (yielded ops a.tmps) = true) (s x : Operand) (t t2 ty : TypeId)
    (ho : o.op = .call { callee := .builtin .append, args := #[s, x], argTypes := #[t, t2] }) (hty : o.type = ty) (sv xv v' : Value) (w' : World) (hs : a.eval s = sv) (hx : a.eval x = xv)
    (hrun : (Builtin.append_ #[t, t2] ty #[sv, xv]).run P w = .ok v' w') (h : wpListIn (Fence.wide.inRound l) 0 P ops Q rest (a.put o.dst v') w') : wpListIn (Fence.wide.inRound l) 0 P ops Q (o :: rest) a w := by
  subst hty
  unfold wpListIn
  rw [if_pos hgd]
  refine ⟨fun _ _ => trivial, ?_⟩
  rw [Oper.semAt_eq _ _ _ (fun c e => by rw [ho] at e; cases e)]
  unfold execOp
  simp only [ho, resolve, invoke, builtin, Sem.run_bind, Sem.run_pure, Result.andThen_ok, List.map_toArray, List.map_cons, List.map_nil, hs, hx, hrun]
  exact h
end Go.Proofs.Ytokochkjjlbnkaa.itr
