/-
  Layer 12: any call on a play; calls one after another.
-/
import Derived.Test.YtokochkjjlbnkaaTtB
import Derived.Test.YtokochkjjlbnkaaTtD
namespace Go.Proofs.Ytokochkjjlbnkaa
open Go.RowKit trm

section
variable {w : World} {g b : Nat} {s : Sh} {v : Value} {t : T}
set_option maxRecDepth 100000 in
set_option maxHeartbeats 4000000 in
theorem do_other (h : PlayAt w g b s v t) (k ci p n : Int) (h1 : k ≠ 1) (h2 : k ≠ 2) (h3 : k ≠ 3) :
    Calls Try.prog 11 #[.pointer (some ⟨g, 0, none⟩), .agg #[.int .i64 k, .int .i64 ci, .int .i64 p, .int .i64 n]] w (PlayQ g b s t t w) := by
  have HP := Lib.hid h
  have t1 : (k == 1) = false := by simpa using h1
  have t2 : (k == 2) = false := by simpa using h2
  have t3 : (k == 3) = false := by simpa using h3
  clear h h1 h2 h3
  go_enter Try.func11, Try.ntmps11
  go_wp2_with (fail)
  go_ret
  have hb : Below w.heap.size w (w.alloc (.cells #[.int .i64 k, .int .i64 ci, .int .i64 p, .int .i64 n] tOp)) := (Below.refl _ _).alloc (Nat.le_refl _) _
  exact ⟨s, v, rfl, HP.out.below hb, TurnP.below hb⟩
theorem do_any (h : PlayAt w g b s v t) (hn : t.length ≤ 1000) (o : O4) (ho : o.ok) :
    Calls Try.prog 11 #[.pointer (some ⟨g, 0, none⟩), .agg #[.int .i64 o.k, .int .i64 o.i, .int .i64 o.p, .int .i64 o.n]] w (PlayQ g b s t (stepT t o) w) := by
  obtain ⟨k, i, p, n⟩ := o
  unfold stepT
  simp only
  by_cases h1 : k = 1
  · rw [if_pos h1, h1]
    exact do_add h hn i p n ho.i ho.p
  rw [if_neg h1]
  by_cases h2 : k = 2
  · rw [if_pos h2, h2]
    exact do_rem h hn i p n ho.i
  rw [if_neg h2]
  by_cases h3 : k = 3
  · rw [if_pos h3, h3]
    exact do_move h hn i p n ho.i ho.p
  rw [if_neg h3]
  exact do_other h k i p n h1 h2 h3
end
/-- a play of one's own: behind a step it still is -/
structure MyPlay (W0 : World) (g b : Nat) (t : T) (w : World) : Prop where
  bel : Below W0.heap.size W0 w
  ex : ∃ s v, PlayAt w g b s v t ∧ ∀ k, PFoot g b s t k → W0.heap.size ≤ k
theorem MyPlay.below {W0 : World} {g b : Nat} {t : T} {w w' : World} (h : MyPlay W0 g b t w) (hb : Below w.heap.size w w') : MyPlay W0 g b t w' := by
  obtain ⟨s, v, h1, h2⟩ := h.ex
  exact ⟨h.bel.trans (hb.mono h.bel.size), s, v, h1.below hb, h2⟩
theorem MyPlay.step {W0 : World} {g b : Nat} {t : T} {w : World} (h : MyPlay W0 g b t w) (hn : t.length ≤ 1000) (o : O4) (ho : o.ok) :
    Calls Try.prog 11 #[.pointer (some ⟨g, 0, none⟩), .agg #[.int .i64 o.k, .int .i64 o.i, .int .i64 o.p, .int .i64 o.n]] w fun e w' => e = .returned (.bool true) ∧ MyPlay W0 g b (stepT t o) w' := by
  obtain ⟨s, v, h1, h2⟩ := h.ex
  refine (do_any h1 hn o ho).mono ?_
  rintro e w' ⟨s', v', rfl, h3, h4⟩
  refine ⟨rfl, h.bel.trans (h4.to_below h.bel.size h2), s', v', h3, fun k hk => Nat.le_of_not_lt fun hlt => ?_⟩
  exact (h4.far k (Nat.lt_of_lt_of_le hlt h.bel.size) fun e => by have := h2 k e; omega).1 hk
theorem MyPlay.is {W0 : World} {g b : Nat} {t : T} {w : World} (h : MyPlay W0 g b t w) (hn : t.length ≤ 1000) :
    Calls Try.prog 12 #[.pointer (some ⟨g, 0, none⟩)] w fun e w' => e = .returned (.bool true) ∧ MyPlay W0 g b t w' := by
  obtain ⟨s, v, h1, h2⟩ := h.ex
  refine (is_any h1 hn).mono ?_
  rintro e w' ⟨rfl, hb⟩
  exact ⟨rfl, h.below hb⟩
/-- the tree behind calls -/
def runT (t : T) (l : List O4) : T := l.foldl stepT t
theorem runT_ok {t : T} (ok : Ok t) (l : List O4) : Ok (runT t l) ∧ (runT t l).length ≤ t.length + l.length := by
  induction l generalizing t with
  | nil => exact ⟨ok, Nat.le_refl _⟩
  | cons o l ih =>
    have h1 := stepT_ok ok o
    have h2 := ih h1.1
    refine ⟨h2.1, Nat.le_trans h2.2 ?_⟩
    rw [List.length_cons]
    have := h1.2
    omega
theorem runT_snoc (t : T) {l : List O4} {k : Nat} (h : k < l.length) : runT t (l.take (k + 1)) = stepT (runT t (l.take k)) l[k] := by
  unfold runT
  rw [List.take_succ_eq_append_getElem h, List.foldl_append]
  rfl
abbrev OpRow (w : World) (A : Option Addr) (l : List O4) : Prop := SRow 4 O4.cs w A l
theorem OpRow.in_ {w : World} {A : Option Addr} {l : List O4} (h : OpRow w A l) {j : Nat} (hj : j < l.length) : ∃ b off, A = some ⟨b, off, none⟩ ∧ ∀ W, Below w.heap.size w W →
    W.cell? ⟨b, off + j * 4, none⟩ = some (.int .i64 l[j].k) ∧ W.cell? ⟨b, off + j * 4 + 1, none⟩ = some (.int .i64 l[j].i) ∧ W.cell? ⟨b, off + j * 4 + 2, none⟩ = some (.int .i64 l[j].p) ∧ W.cell? ⟨b, off + j * 4 + 3, none⟩ = some (.int .i64 l[j].n) := by
  obtain ⟨b, off, e, hc⟩ := h (by omega)
  refine ⟨b, off, e, fun W hb => ?_⟩
  have hq := fun i v hv => (hb.cell (p := ⟨b, off + j * 4 + i, none⟩) (World.block_lt_of_cell? w ⟨b, _, none⟩ (hc j hj i v hv))).trans (hc j hj i v hv)
  exact ⟨hq 0 _ rfl, hq 1 _ rfl, hq 2 _ rfl, hq 3 _ rfl⟩
/-- a play that is made -/
theorem MyPlay.made {W0 w : World} {b : Nat} {s : Sh} (hb : Below W0.heap.size W0 w) (hT : TreeAt w b s []) (hf : ∀ k, FootT b s [] k → W0.heap.size ≤ k) : MyPlay W0 w.heap.size b [] (w.alloc (.cells #[.pointer (some ⟨b, 0, none⟩), .slice none 0 0] tPlay)) := by
  have hb2 : Below w.heap.size w (w.alloc (.cells #[.pointer (some ⟨b, 0, none⟩), .slice none 0 0] tPlay)) := (Below.refl _ _).alloc (Nat.le_refl _) _
  refine ⟨hb.trans (hb2.mono hb.size), s, .slice none 0 0, ⟨BlkT.new w [.pointer (some ⟨b, 0, none⟩), .slice none 0 0] tPlay, hT.below hb2, fun e => Nat.lt_irrefl _ (hT.raw.inside _ e), ⟨none, 0, rfl, SRow.none_ rfl, fun _ e => (nomatch e)⟩⟩, ?_⟩
  rintro k (rfl | hk)
  · exact hb.size
  · exact hf k hk
end Go.Proofs.Ytokochkjjlbnkaa
