/-
  Plain arithmetic of records whose last bytes are cut off, or have a byte that differs; a byte put into a slice of the call's own.
-/
import Derived.Test.YtoipokjoklhfjaaDoorRecBytesW
namespace Go.Proofs.YtoipokjoklhfjaaDoor
open Go.RowKit numb

def recsN (l : List Rc) : List (Nat × List Nat) := l.map fun x => (x.k.toNat, x.p.l)
/-- right records ahead of whatever stands behind them -/
theorem allS_app {l : List Rc} (h : ∀ x ∈ l, rightR x = 0 ∧ AreBytes x.p.l) {r : List Nat} (hr : AreBytes r) :
    allS (bytesL l ++ r) = (recsN l ++ (allS r).1, (bytesL l).length + (allS r).2.1, (allS r).2.2) := by
  induction l with
  | nil => simp [bytesL, recsN]
  | cons x l ih =>
    have hx := h x (by simp)
    have ho := rightR_ok hx.1
    have h2 := ih fun y hy => h y (by simp [hy])
    have hA : AreBytes (bytesL (x :: l) ++ r) := (bytesL_are h).append hr
    have hn := next_rec (k := x.k.toNat) x.p.l ho.2.2 (bytesL l ++ r)
    have e : bytesL (x :: l) ++ r = recB x.k.toNat x.p.l ++ (bytesL l ++ r) := by rw [bytesL_cons, List.append_assoc]
    have hlen := (recB_le (k := x.k.toNat) (l := x.p.l) ho.2.2).2
    rw [← e] at hn
    rw [allS_go hA (by rw [e, List.length_append]; omega) (by rw [hn]), hn]
    simp only
    have hd : (bytesL (x :: l) ++ r).drop (recB x.k.toNat x.p.l).length = bytesL l ++ r := by rw [e, List.drop_left]
    rw [hd, h2, bytesL_cons, List.length_append]
    simp only [recsN, List.map_cons, List.cons_append, Nat.add_assoc]
/-- a record that is cut off is none -/
theorem next_cut {k : Nat} {d : List Nat} (hk : k < 256) (hda : AreBytes d) (hd : d.length ≤ 1048576) {m : Nat} (hm : m < (recB k d).length) : (nextS ((recB k d).take m)).e ≠ 0 := by
  intro he
  have hA : AreBytes ((recB k d).take m) := (recB_are hk hda).take m
  obtain ⟨n, h1, h2, h3, h4, h5, h6, h7, h8, h9⟩ := next_ok hA he
  have hq := next_rec (k := k) d hd []
  rw [List.append_nil] at hq
  have hp := next_rec (k := (nextS ((recB k d).take m)).k) (nextS ((recB k d).take m)).d (by omega) ((recB k d).drop (nextS ((recB k d).take m)).n)
  have e : recB (nextS ((recB k d).take m)).k (nextS ((recB k d).take m)).d ++ (recB k d).drop (nextS ((recB k d).take m)).n = recB k d := by
    rw [← h9, List.take_take]
    rw [List.length_take] at h8
    rw [Nat.min_eq_left (by omega), List.take_append_drop]
  rw [e, hq] at hp
  injection hp with _ _ _ hl
  rw [← h7] at hl
  rw [List.length_take] at h8
  omega
theorem bytesL_app (l m : List Rc) : bytesL (l ++ m) = bytesL l ++ bytesL m := by simp [bytesL]
/-- how many records are whole: it stands between -/
structure Whole (l : List Rc) (cut j : Nat) : Prop where
  le : j ≤ l.length
  fits : (bytesL (l.take j)).length ≤ cut
  stop : j = l.length ∨ cut < (bytesL (l.take (j + 1))).length
theorem whole_take {l : List Rc} {cut j : Nat} (h : Whole l cut j) : (bytesL l).take cut = bytesL (l.take j) ++ ((bytesL (l.drop j)).take (cut - (bytesL (l.take j)).length)) := by
  have e : bytesL l = bytesL (l.take j) ++ bytesL (l.drop j) := by rw [← bytesL_app, List.take_append_drop]
  have hf := h.fits
  generalize bytesL (l.take j) = p at *
  rw [e, List.take_append, List.take_of_length_le hf]
/-- what is read of bytes that are cut off -/
theorem allS_cut {l : List Rc} (hl : ∀ x ∈ l, rightR x = 0 ∧ AreBytes x.p.l) {cut j : Nat} (h : Whole l cut j) (hc : cut ≤ (bytesL l).length) :
    (allS ((bytesL l).take cut)).1 = recsN (l.take j) ∧ (allS ((bytesL l).take cut)).2.1 = (bytesL (l.take j)).length ∧ ((allS ((bytesL l).take cut)).2.2 = 0 ↔ (bytesL (l.take j)).length = cut) := by
  have hlj : ∀ x ∈ l.take j, rightR x = 0 ∧ AreBytes x.p.l := fun x hx => hl x (List.mem_of_mem_take hx)
  have hldA : AreBytes (bytesL (l.drop j)) := bytesL_are fun x hx => hl x (List.mem_of_mem_drop hx)
  rw [whole_take h, allS_app hlj (hldA.take _)]
  have hf := h.fits
  obtain ⟨m, hm⟩ : ∃ m, m = cut - (bytesL (l.take j)).length := ⟨_, rfl⟩
  rw [← hm]
  by_cases hm0 : m = 0
  · have e : (bytesL (l.drop j)).take m = [] := by rw [hm0, List.take_zero]
    rw [e, allS_nil rfl]
    simp only [List.append_nil, Nat.add_zero, true_and]
    exact ⟨fun _ => by omega, fun _ => trivial⟩
  · have hj : j < l.length := by
      rcases h.stop with h1 | h1
      · have : (bytesL (l.take j)).length = (bytesL l).length := by rw [h1, List.take_length]
        omega
      · rcases Nat.lt_or_ge j l.length with h2 | h2
        · exact h2
        · have h3 : bytesL (l.take (j + 1)) = bytesL (l.take j) := by rw [List.take_of_length_le (by omega), List.take_of_length_le h2]
          rw [h3] at h1
          omega
    have hlt : cut < (bytesL (l.take (j + 1))).length := h.stop.resolve_left (by omega)
    have hsn := bytesL_snoc hj
    rw [hsn, List.length_append] at hlt
    have hx := hl l[j] (List.getElem_mem hj)
    have ho := rightR_ok hx.1
    have e : (bytesL (l.drop j)).take m = (recB l[j].k.toNat l[j].p.l).take m := by
      rw [List.drop_eq_getElem_cons hj, bytesL_cons, List.take_append]
      rw [show m - (recB l[j].k.toNat l[j].p.l).length = 0 by omega, List.take_zero, List.append_nil]
    have hne := next_cut (k := l[j].k.toNat) (d := l[j].p.l) (by omega) hx.2 ho.2.2 (m := m) (by omega)
    have hpos : 0 < ((recB l[j].k.toNat l[j].p.l).take m).length := by rw [List.length_take]; omega
    rw [e, allS_stop hpos hne]
    simp only [List.append_nil, Nat.add_zero, true_and]
    exact ⟨fun h0 => absurd h0 hne, fun h0 => by omega⟩
/-- a byte that differs: those ahead of it are read -/
theorem allS_flip {l : List Rc} (hl : ∀ x ∈ l, rightR x = 0 ∧ AreBytes x.p.l) {at_ j z : Nat} (hz : z < 256) (h : Whole l at_ j) :
    ∃ r, (allS ((bytesL l).set at_ z)).1 = recsN (l.take j) ++ r := by
  have hf := h.fits
  have e : bytesL l = bytesL (l.take j) ++ bytesL (l.drop j) := by rw [← bytesL_app, List.take_append_drop]
  have hlj : ∀ x ∈ l.take j, rightR x = 0 ∧ AreBytes x.p.l := fun x hx => hl x (List.mem_of_mem_take hx)
  have hldA : AreBytes (bytesL (l.drop j)) := bytesL_are fun x hx => hl x (List.mem_of_mem_drop hx)
  have e2 : (bytesL l).set at_ z = bytesL (l.take j) ++ (bytesL (l.drop j)).set (at_ - (bytesL (l.take j)).length) z := by
    generalize bytesL (l.take j) = p at *
    generalize bytesL (l.drop j) = q at *
    rw [e, List.set_append_right _ _ hf]
  have hA : AreBytes ((bytesL (l.drop j)).set (at_ - (bytesL (l.take j)).length) z) := fun y hy => by
    rcases List.mem_or_eq_of_mem_set hy with h1 | h1
    · exact hldA y h1
    · omega
  rw [e2, allS_app hlj hA]
  exact ⟨_, rfl⟩
theorem set_are {l : List Nat} (h : AreBytes l) {i z : Nat} (hz : z < 256) : AreBytes (l.set i z) := fun y hy => by
  rcases List.mem_or_eq_of_mem_set hy with h1 | h1
  · exact h y h1
  · omega
/-- counting goes on -/
structure Count (l : List Rc) (cut k j : Nat) : Prop where
  le : j ≤ k
  fits : (bytesL (l.take j)).length ≤ cut
  stop : j = k ∨ cut < (bytesL (l.take (j + 1))).length
theorem Count.start (l : List Rc) (cut : Nat) : Count l cut 0 0 := ⟨Nat.le_refl _, by simp [bytesL], .inl rfl⟩
theorem Count.end_ {l : List Rc} {cut j : Nat} (h : Count l cut l.length j) : Whole l cut j := ⟨h.le, h.fits, h.stop⟩
theorem bytesL_mono (l : List Rc) {i j : Nat} (h : i ≤ j) : (bytesL (l.take i)).length ≤ (bytesL (l.take j)).length := by
  have e : l.take j = l.take i ++ (l.take j).drop i := by
    have := List.take_append_drop i (l.take j)
    rw [List.take_take, Nat.min_eq_left h] at this
    exact this.symm
  rw [e, bytesL_app, List.length_append]
  omega
theorem Count.yes {l : List Rc} {cut k j : Nat} (h : Count l cut k j) (hs : (bytesL (l.take (k + 1))).length ≤ cut) : Count l cut (k + 1) (j + 1) ∧ j = k := by
  have hj : j = k := by
    rcases h.stop with h1 | h1
    · exact h1
    · have := bytesL_mono l (i := j + 1) (j := k + 1) (by have := h.le; omega)
      omega
  subst hj
  exact ⟨⟨Nat.le_refl _, hs, .inl rfl⟩, rfl⟩
theorem Count.no {l : List Rc} {cut k j : Nat} (h : Count l cut k j) (hs : cut < (bytesL (l.take (k + 1))).length) : Count l cut (k + 1) j := by
  refine ⟨Nat.le_succ_of_le h.le, h.fits, ?_⟩
  rcases h.stop with h1 | h1
  · subst h1
    exact .inr hs
  · exact .inr h1
/-- a byte is put into a slice of the call's own -/
theorem Own.put {w : World} {base : Nat} {g c n : Nat} {l : List Nat} (h : Own w base (.slice (some ⟨g, 0, none⟩) n c) l) (i z : Nat) : Own (w.setCell ⟨g, i, none⟩ (.int .u8 (z : Nat))) base (.slice (some ⟨g, 0, none⟩) n c) (l.set i z) := by
  rcases h.2 with ⟨hn, _⟩ | ⟨g0, cap, cur, hv, hg, hgg, hlc, hcm, hcs, htake⟩
  · cases hn
  · simp only [Value.slice.injEq, Option.some.injEq, Addr.mk.injEq, and_true] at hv
    obtain ⟨rfl, rfl, rfl⟩ := hv
    unfold Own
    rw [List.length_set]
    refine ⟨by simp, .inr ⟨g, c, cur.setIfInBounds i (.int .u8 (z : Nat)), rfl, hg, ?_, hlc, hcm, by simpa using hcs, ?_⟩⟩
    · simp [World.setCell, Array.getElem?_modify, hgg]
    · rw [Array.toList_setIfInBounds, List.take_set, htake, List.map_set]
theorem Own.at_ {w : World} {base : Nat} {g c n : Nat} {l : List Nat} (h : Own w base (.slice (some ⟨g, 0, none⟩) n c) l) {i : Nat} (hi : i < l.length) :
    w.cell? ⟨g, i, none⟩ = some (.int .u8 (l[i] : Nat)) ∧ w.frozen? ⟨g, i, none⟩ = false := by
  constructor
  · have := World.ownsRow.cells h (g := g) rfl i (.int .u8 (l[i] : Nat)) (by simp [hi])
    have hadd : (⟨g, 0, none⟩ : Addr).add i = ⟨g, i, none⟩ := by unfold Addr.add; split <;> simp_all
    rwa [hadd] at this
  · rcases h.2 with ⟨hn, _⟩ | ⟨g0, cap, cur, hv, hg, hgg, hlc, hcm, hcs, htake⟩
    · cases hn
    · simp only [Value.slice.injEq, Option.some.injEq, Addr.mk.injEq, and_true] at hv
      obtain ⟨rfl, rfl, rfl⟩ := hv
      simp [World.frozen?, hgg]
end Go.Proofs.YtoipokjoklhfjaaDoor
