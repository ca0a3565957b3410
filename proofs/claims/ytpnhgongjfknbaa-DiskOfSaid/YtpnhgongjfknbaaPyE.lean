/-
  A disk and the document's beside it: whatever is told to both, one behind the other.
-/
import Derived.Test.YtpnhgongjfknbaaPyB
import Derived.Test.YtpnhgongjfknbaaPyD
namespace Go.Proofs.Ytpnhgongjfknbaa
open Go.RowKit omap

/-- what there is behind a command -/
def nextD (o : Cm) (d : Dk) : Dk :=
  if 1 ≤ o.kind ∧ o.kind ≤ 5 then (doS o.kind o.name.data.toList o.to.data.toList (o.data.l ++ o.more.l) d).2
  else if o.kind = 6 then { d with p := { d.p with left := if d.p.down then d.p.left else o.n.toNat } } else crashS o.cs d
theorem do_any (w : World) (pb b : Nat) (S : List Nat) (x : Rf) (o : Cm) (h : PlayAt w pb b S x) (hf : Fine x.d) (ho : Told w S o) :
    Calls Try.prog 11 #[.pointer (some ⟨pb, 0, none⟩), .agg o.cells.toArray] w fun e w' => e = .returned (.bool true) ∧ ∃ S' x', PlayAt w' pb b S' x' ∧ Turn (pb :: S) (pb :: S') w w' ∧ x'.d = nextD o x.d := by
  unfold nextD
  by_cases h15 : 1 ≤ o.kind ∧ o.kind ≤ 5
  · rw [if_pos h15]
    exact do_cmd w pb b S x o h hf ho h15.1 h15.2
  · rw [if_neg h15]
    by_cases h6 : o.kind = 6
    · rw [if_pos h6]
      exact do6_cmd w pb b S x o h hf ho h6
    · rw [if_neg h6]
      exact do0_cmd w pb b S x o h hf ho (by omega)
/-- how a disk stands behind k commands -/
structure FineK (k : Nat) (d : Dk) : Prop where
  few : d.fs.length ≤ k
  cap : d.cap ≤ 67108864
  steps : d.p.steps ≤ k
  left : d.p.left ≤ 9223372036854775807
  names : ∀ y ∈ d.fs, y.1.length ≤ 1000
theorem FineK.fine {k : Nat} {d : Dk} (h : FineK k d) (hk : k ≤ 1000) : Fine d := ⟨by have := h.few; omega, h.cap, by have := h.steps; omega, h.left, h.names⟩
theorem put_names {k : Nm} {v : Fl} {fs : Fs} (hk : k.length ≤ 1000) (h : ∀ y ∈ fs, y.1.length ≤ 1000) : ∀ y ∈ omap.put lt k v fs, y.1.length ≤ 1000 := fun y hy => by
  rcases mem_ins.1 hy with rfl | hy
  · exact hk
  · exact h y (mem_del.1 hy).1
theorem del_names {k : Nm} {fs : Fs} (h : ∀ y ∈ fs, y.1.length ≤ 1000) : ∀ y ∈ omap.del k fs, y.1.length ≤ 1000 := fun y hy => h y (mem_del.1 hy).1
theorem del_len (k : Nm) (fs : Fs) : (omap.del k fs).length ≤ fs.length := List.length_filter_le _ _
theorem op_fine (kind : Int) {k j : Nm} (l : List Nat) (cap : Nat) {fs : Fs} (hk : k.length ≤ 1000) (hj : j.length ≤ 1000) (h : ∀ y ∈ fs, y.1.length ≤ 1000) : (opS kind k j l cap fs).2.length ≤ fs.length + 1 ∧ ∀ y ∈ (opS kind k j l cap fs).2, y.1.length ≤ 1000 := by
  have triv : fs.length ≤ fs.length + 1 ∧ ∀ y ∈ fs, y.1.length ≤ 1000 := ⟨by omega, h⟩
  have hput : ∀ v, (omap.put lt k v fs).length ≤ fs.length + 1 ∧ ∀ y ∈ omap.put lt k v fs, y.1.length ≤ 1000 := fun v => ⟨length_put_le _ _ _ _, put_names hk h⟩
  unfold opS
  split
  · unfold createS
    split
    · exact triv
    · split
      · exact triv
      · split
        · exact triv
        · exact hput _
  · split
    · unfold writeS
      split
      · exact triv
      · split
        · exact triv
        · exact hput _
    · split
      · unfold syncS
        split
        · exact triv
        · exact hput _
      · split
        · unfold removeS
          split
          · exact triv
          · exact ⟨by have := del_len k fs; simp only; omega, del_names h⟩
        · unfold renameS
          split
          · exact triv
          · split
            · exact triv
            · split
              · exact triv
              · refine ⟨?_, put_names hj (del_names (del_names h))⟩
                have h1 := length_put_le lt j ‹Fl› (omap.del k (omap.del j fs))
                have h2 := del_len k (omap.del j fs)
                have h3 := del_len j fs
                simp only at h1 ⊢
                omega
theorem next_fine {k : Nat} {d : Dk} {o : Cm} (h : FineK k d) (hs : smallC o = true) (hn : o.n ≤ 9223372036854775807) : FineK (k + 1) (nextD o d) := by
  obtain ⟨s1, s2, s3, s4, s5⟩ := smallC_iff.1 hs
  have hk1 : o.name.data.toList.length ≤ 1000 := by
    have : o.name.data.toList.length = o.name.size := by rw [Array.length_toList]; rfl
    omega
  have hk2 : o.to.data.toList.length ≤ 1000 := by
    have : o.to.data.toList.length = o.to.size := by rw [Array.length_toList]; rfl
    omega
  obtain ⟨h1, h2, h3, h4, h5⟩ := h
  unfold nextD
  split
  · unfold doS cmdS
    split
    · exact ⟨by simp only; omega, h2, by simp only; omega, h4, h5⟩
    · split
      · unfold leaveS
        split
        · obtain ⟨o1, o2⟩ := op_fine o.kind (o.data.l ++ o.more.l) d.cap hk1 hk2 h5
          exact ⟨by simp only; omega, h2, by simp only; omega, by simp, o2⟩
        · exact ⟨by simp only [idS]; omega, h2, by simp only; omega, by simp, h5⟩
      · obtain ⟨o1, o2⟩ := op_fine o.kind (o.data.l ++ o.more.l) d.cap hk1 hk2 h5
        exact ⟨by simp only; omega, h2, by simp only; omega, by simp only; omega, o2⟩
  · split
    · refine ⟨by simp only; omega, h2, by simp only; omega, ?_, h5⟩
      simp only
      split
      · exact h4
      · omega
    · refine ⟨by simp only [crashS, crashAll_length]; omega, h2, by simp only [crashS]; omega, by simp [crashS], fun y hy => ?_⟩
      simp only [crashS, crashAll, List.mem_mapIdx] at hy
      obtain ⟨i, hi, rfl⟩ := hy
      exact h5 d.fs[i] (List.getElem_mem hi)
theorem Cm.ok.below {w w' : World} {o : Cm} (h : o.ok w) (hb : Below w.heap.size w w') : o.ok w' := ⟨h.data.below hb, h.more.below hb, h.row.below hb, h.chs, h.kind, h.n⟩
/-- a disk and the document's, of the call's own -/
structure Run (w0 w : World) (pb b : Nat) (S : List Nat) (x : Rf) : Prop where
  play : PlayAt w pb b S x
  below : Below w0.heap.size w0 w
  base : ∀ g ∈ pb :: S, w0.heap.size ≤ g
theorem apart_old {α : Type} {enc : α → Value} {w0 : World} {S : List Nat} {A : Option Addr} {l : List α} (h : Row enc w0 A l) (hS : ∀ g ∈ S, w0.heap.size ≤ g) : Apart S A l.length := fun hn x hx hm => by
  obtain ⟨b, off, e, hc⟩ := h hn
  rw [hx] at e
  obtain rfl := Option.some.inj e
  have h1 := World.block_lt_of_cell? w0 _ (hc 0 hn)
  have h2 := hS _ hm
  simp only at h1 h2
  omega
theorem Run.told {w0 w : World} {pb b : Nat} {S : List Nat} {x : Rf} {o : Cm} (h : Run w0 w pb b S x) (ho : o.ok w0) (hs : smallC o = true) : Told w S o where
  ok := ho.below h.below
  small := hs
  data := apart_old ho.data.at_ fun g hg => h.base g (List.mem_cons_of_mem _ hg)
  more := apart_old ho.more.at_ fun g hg => h.base g (List.mem_cons_of_mem _ hg)
  chs := fun hn x hx hm => by
    obtain ⟨b, off, e, hc⟩ := ho.row hn
    rw [hx] at e
    obtain rfl := Option.some.inj e
    have h1 := World.block_lt_of_cell? w0 _ (hc 0 hn).1
    have h2 := h.base _ (List.mem_cons_of_mem _ hm)
    simp only at h1 h2
    omega
theorem Run.next {w0 w w' : World} {pb b : Nat} {S S' : List Nat} {x x' : Rf} (h : Run w0 w pb b S x) (hp : PlayAt w' pb b S' x') (ht : Turn (pb :: S) (pb :: S') w w') : Run w0 w' pb b S' x' :=
  ⟨hp, h.below.trans (ht.to_below h.below.size h.base), ht.base h.below.size h.base⟩
theorem Run.later {w0 w w' : World} {pb b : Nat} {S : List Nat} {x : Rf} (h : Run w0 w pb b S x) (hb : Below w.heap.size w w') : Run w0 w' pb b S x := ⟨h.play.below hb, h.below.trans (hb.mono h.below.size), h.base⟩
end Go.Proofs.Ytpnhgongjfknbaa
