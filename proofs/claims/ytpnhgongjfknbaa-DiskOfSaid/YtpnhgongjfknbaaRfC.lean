/-
  The document's own disk: a file more behind a row of files; the files without one.
-/
import Derived.Test.YtpnhgongjfknbaaRfB
import Derived.Maps.AppendAt
namespace Go.Proofs.Ytpnhgongjfknbaa
open Go.RowKit omap

/-- v is a slice of the call's own with just these files -/
def FOwn (w : World) (base : Nat) (v : Value) (fs : Fs) : Prop := w.ownsRow base 48 3 v fs.length (fs.flatMap fcells)
theorem fcells_length (fs : Fs) : (fs.flatMap fcells).length = fs.length * 3 := by
  induction fs with
  | nil => rfl
  | cons x l ih => rw [List.flatMap_cons, List.length_append, ih, List.length_cons]; simp [fcells]; omega
theorem fcells_at {fs : Fs} {j : Nat} (h : j < fs.length) : (fs.flatMap fcells)[j * 3]? = some (.string ⟨fs[j].1.toArray⟩) ∧ (fs.flatMap fcells)[j * 3 + 1]? = some (.string (strOf fs[j].2.l)) ∧ (fs.flatMap fcells)[j * 3 + 2]? = some (.int .i64 (fs[j].2.s : Nat)) := by
  induction fs generalizing j with
  | nil => simp at h
  | cons x l ih =>
    rw [List.flatMap_cons]
    cases j with
    | zero => simp [fcells]
    | succ j =>
      have hj : j < l.length := by simpa using h
      have e0 : (j + 1) * 3 = j * 3 + 3 := by omega
      have hl : (fcells x).length = 3 := rfl
      obtain ⟨h0, h1, h2⟩ := ih hj
      rw [e0, List.getElem?_append_right (by omega), List.getElem?_append_right (by omega), List.getElem?_append_right (by omega), hl, show j * 3 + 3 - 3 = j * 3 by omega, show j * 3 + 3 + 1 - 3 = j * 3 + 1 by omega, show j * 3 + 3 + 2 - 3 = j * 3 + 2 by omega]
      exact ⟨h0, h1, h2⟩
section
variable {w w' : World} {base : Nat} {v : Value} {fs : Fs}
theorem FOwn.nil (w : World) (base : Nat) : FOwn w base (.slice none 0 0) [] := World.ownsRow_nil w base _ 3
theorem FOwn.stays (h : FOwn w base v fs) (hs : ∀ g, v.ownBlock = some g → w'.heap[g]? = w.heap[g]?) : FOwn w' base v fs := by
  refine ⟨h.1, ?_⟩
  rcases h.2 with hn | ⟨g, cap, cur, rfl, hg, hb, rest⟩
  · exact .inl hn
  · exact .inr ⟨g, cap, cur, rfl, hg, (hs g rfl).trans hb, rest⟩
theorem FOwn.block (h : FOwn w base v fs) {g : Nat} (hg : v.ownBlock = some g) : base ≤ g ∧ g < w.heap.size := World.ownsRow.lt h g hg
theorem FOwn.below (h : FOwn w base v fs) (hb : Below w.heap.size w w') : FOwn w' base v fs := h.stays fun g hg => hb.block g (h.block hg).2
theorem FOwn.row (h : FOwn w base v fs) : ∃ A c, v = .slice A fs.length c ∧ fs.length ≤ c ∧ RfRow w A fs := by
  rcases h.2 with ⟨rfl, h0⟩ | ⟨g, cap, cur, rfl, hg, hb, hc, rest⟩
  · refine ⟨none, 0, by rw [h0], by omega, fun hn => by omega⟩
  · refine ⟨some ⟨g, 0, none⟩, cap, rfl, hc, fun _ => ⟨g, 0, rfl, fun j hj => ?_⟩⟩
    have hcell := World.ownsRow.cells h (g := g) rfl
    obtain ⟨h0, h1, h2⟩ := fcells_at hj
    have e : ∀ i, (⟨g, 0, none⟩ : Addr).add i = ⟨g, 0 + i, none⟩ := fun i => by unfold Addr.add; split <;> simp_all
    exact ⟨by rw [← e]; exact hcell _ _ h0, by have := hcell _ _ h1; rw [e] at this; rw [Nat.add_assoc]; exact this, by have := hcell _ _ h2; rw [e] at this; rw [Nat.add_assoc]; exact this⟩
end
theorem info_file : (Try.prog.info? 48).map (fun i => (i.zero, i.size, i.bytes)) = some (some (.agg #[.string ⟨#[]⟩, .string ⟨#[]⟩, .int .i64 0]), 3, 40) := by kernel_rfl
theorem app_file (w : World) (base : Nat) (v : Value) (fs : Fs) (h : FOwn w base v fs) (g c : Nat) (x : Nm × Fl) (h0 : w.cell? ⟨g, 0, none⟩ = some (.string ⟨x.1.toArray⟩)) (h1 : w.cell? ⟨g, 1, none⟩ = some (.string (strOf x.2.l))) (h2 : w.cell? ⟨g, 2, none⟩ = some (.int .i64 (x.2.s : Nat))) (hn : fs.length ≤ 1000000000) (hbase : base ≤ w.heap.size) :
    ∃ v' w', (Builtin.append_ #[30, 30] 30 #[v, .slice (some ⟨g, 0, none⟩) 1 c]).run Try.prog w = .ok v' w' ∧ FOwn w' base v' (fs ++ [x]) ∧ w.grownBy w' v.ownBlock ∧ (v'.ownBlock = v.ownBlock ∨ v'.ownBlock = some w.heap.size) := by
  obtain ⟨i, hi, hz, hsize, hby⟩ := info_parts info_file
  obtain ⟨v', w', hrun, ho, hg, -, hat⟩ := run_append_own_at (P := Try.prog) w base 30 30 48 i _ 3 40 Try.underlying30 hi hz hsize hby rfl (by decide) v fs.length _ h ⟨g, 0, none⟩ 1 c
    (fcells x) rfl (by
      intro j u hu
      have e : (⟨g, 0, none⟩ : Addr).add j = ⟨g, j, none⟩ := by unfold Addr.add; split <;> simp_all
      rw [e]
      match j, hu with
      | 0, hu => rw [h0]; exact hu
      | 1, hu => rw [h1]; exact hu
      | 2, hu => rw [h2]; exact hu
      | j + 3, hu => exact absurd hu (by simp [fcells])) (by
      intro u hu
      simp only [fcells, List.mem_cons, List.not_mem_nil, or_false] at hu
      rcases hu with rfl | rfl | rfl <;> rfl) (by unfold maxLen; omega) (by omega) hbase
  refine ⟨v', w', hrun, ?_, hg, hat⟩
  unfold FOwn
  rw [List.length_append, List.flatMap_append]
  simpa using ho
end Go.Proofs.Ytpnhgongjfknbaa
