/-
  Layer 12: two plays side by side; a call on one leaves the other.
-/
import Derived.Test.YtokochkjjlbnkaaTtE
namespace Go.Proofs.Ytokochkjjlbnkaa
open Go.RowKit trm

/-- two plays of one's own that share no block but, it may be, the document's rows -/
structure Two (W0 : World) (g b : Nat) (t : T) (g2 d : Nat) (u : T) (w : World) : Prop where
  bel : Below W0.heap.size W0 w
  ex : ∃ s v s2 v2, PlayAt w g b s v t ∧ PlayAt w g2 d s2 v2 u ∧ (∀ k, PFoot g b s t k → W0.heap.size ≤ k ∧ ¬ PFoot g2 d s2 u k) ∧ ∀ k, PFoot g2 d s2 u k → W0.heap.size ≤ k
section
variable {W0 w : World} {g b g2 d : Nat} {t u : T}
theorem Two.below {w' : World} (h : Two W0 g b t g2 d u w) (hb : Below w.heap.size w w') : Two W0 g b t g2 d u w' := by
  obtain ⟨s, v, s2, v2, h1, h2, h3, h4⟩ := h.ex
  exact ⟨h.bel.trans (hb.mono h.bel.size), s, v, s2, v2, h1.below hb, h2.below hb, h3, h4⟩
theorem Two.swap (h : Two W0 g b t g2 d u w) : Two W0 g2 d u g b t w := by
  obtain ⟨s, v, s2, v2, h1, h2, h3, h4⟩ := h.ex
  exact ⟨h.bel, s2, v2, s, v, h2, h1, fun k hk => ⟨h4 k hk, fun e => (h3 k e).2 hk⟩, fun k hk => (h3 k hk).1⟩
/-- a call on the first one -/
theorem Two.step (h : Two W0 g b t g2 d u w) (hn : t.length ≤ 1000) (o : O4) (ho : o.ok) :
    Calls Try.prog 11 #[.pointer (some ⟨g, 0, none⟩), .agg #[.int .i64 o.k, .int .i64 o.i, .int .i64 o.p, .int .i64 o.n]] w fun e w' => e = .returned (.bool true) ∧ Two W0 g b (stepT t o) g2 d u w' := by
  obtain ⟨s, v, s2, v2, h1, h2, h3, h4⟩ := h.ex
  refine (do_any h1 hn o ho).mono ?_
  rintro e w' ⟨s', v', rfl, h5, h6⟩
  have hq : PlayAt w' g2 d s2 v2 u := h2.other h6 (fun k hk => (h3 k hk).2) fun A c a e hy ea hk => by
    rcases hk with hk | hk
    · exact hy.not_blk ea h1.blk (by decide) hk
    · exact hy.apart h1.tree.raw ea hk
  refine ⟨rfl, h.bel.trans (h6.to_below h.bel.size fun k hk => (h3 k hk).1), s', v', s2, v2, h5, hq, fun k hk => ⟨Nat.le_of_not_lt fun hlt => ?_, fun e => ?_⟩, h4⟩
  · exact (h6.far k (Nat.lt_of_lt_of_le hlt h.bel.size) fun e => by have := (h3 k e).1; omega).1 hk
  · exact (h6.far k (h2.inside k e) fun e2 => (h3 k e2).2 e).1 hk
theorem Two.is (h : Two W0 g b t g2 d u w) (hn : t.length ≤ 1000) :
    Calls Try.prog 12 #[.pointer (some ⟨g, 0, none⟩)] w fun e w' => e = .returned (.bool true) ∧ Two W0 g b t g2 d u w' := by
  obtain ⟨s, v, s2, v2, h1, h2, h3, h4⟩ := h.ex
  refine (is_any h1 hn).mono ?_
  rintro e w' ⟨rfl, hb⟩
  exact ⟨rfl, h.below hb⟩
theorem Two.same (h : Two W0 g b t g2 d u w) (hn : t.length ≤ 1000) (hn2 : u.length ≤ 1000) :
    Calls Try.prog 21 #[.pointer (some ⟨b, 0, none⟩), .pointer (some ⟨d, 0, none⟩)] w fun e w' => ∃ r, e = .returned (.bool r) ∧ (r = true ↔ ∀ q, kids t q = kids u q) ∧ Two W0 g b t g2 d u w' := by
  obtain ⟨s, v, s2, v2, h1, h2, h3, h4⟩ := h.ex
  refine (tsame h1.tree h2.tree hn hn2).mono ?_
  rintro e w' ⟨r, rfl, hr, hb⟩
  exact ⟨r, rfl, hr, h.below hb⟩
/-- a clone, and the document's tree shared -/
theorem MyPlay.two (h : MyPlay W0 g b t w) {s2 : Sh} {v : Value} (hv : ∃ s, PlayAt w g b s v t ∧ ∀ k, PFoot g b s t k → W0.heap.size ≤ k) {w1 : World} (hb : Below w.heap.size w w1) (hT : TreeAt w1 d s2 t) (hf : ∀ k, FootT d s2 t k → w.heap.size ≤ k) :
    Two W0 g b t w1.heap.size d t (w1.alloc (.cells #[.pointer (some ⟨d, 0, none⟩), v] tPlay)) := by
  obtain ⟨s, h1, h2⟩ := hv
  have ha : Below w1.heap.size w1 (w1.alloc (.cells #[.pointer (some ⟨d, 0, none⟩), v] tPlay)) := (Below.refl _ _).alloc (Nat.le_refl _) _
  have hb2 := hb.trans (ha.mono hb.size)
  have hq : PlayAt (w1.alloc (.cells #[.pointer (some ⟨d, 0, none⟩), v] tPlay)) w1.heap.size d s2 v t := ⟨BlkT.new w1 [.pointer (some ⟨d, 0, none⟩), v] tPlay, hT.below ha, fun e => Nat.lt_irrefl _ (hT.raw.inside _ e), (h1.doc.below hb2)⟩
  have hw : ∀ k, PFoot w1.heap.size d s2 t k → w.heap.size ≤ k := by
    rintro k (rfl | hk)
    · exact hb.size
    · exact hf k hk
  exact ⟨h.bel.trans (hb2.mono h.bel.size), s, v, s2, v, h1.below hb2, hq, fun k hk => ⟨h2 k hk, fun e => by have := h1.inside k hk; have := hw k e; omega⟩, fun k hk => Nat.le_trans h.bel.size (hw k hk)⟩
end
end Go.Proofs.Ytokochkjjlbnkaa
