/-
  Layer 10: words for ImagePlays.
-/
import Derived.Test.YtboelbmpcbeifaaDoorImQ
import Derived.Test.YtboelbmpcbeifaaDoorImOpen
import Derived.Test.YtboelbmpcbeifaaDoorImageChecksW
namespace Go.Proofs.YtboelbmpcbeifaaDoor
open Go.RowKit pxm imm

set_option maxHeartbeats 1000000 in
theorem near_any (r : Bx) (w : World) : Calls Tryd.prog 16 #[.agg #[.int .i64 r.a, .int .i64 r.b, .int .i64 r.c, .int .i64 r.d]] w fun e w' => (∃ b, e = .returned (.bool b)) ∧ Below w.heap.size w w' := by
  obtain ⟨ra, rb, rc, rd⟩ := r
  simp only
  go_enter Tryd.func16, Tryd.ntmps16
  go_wp2_with (fail)
  all_goals
    go_ret
    first
      | exact ⟨⟨_, rfl⟩, (Below.refl _ _).alloc (Nat.le_refl _) _⟩
      | exact ⟨.inl rfl, (Below.refl _ _).alloc (Nat.le_refl _) _⟩
      | exact ⟨.inr rfl, (Below.refl _ _).alloc (Nat.le_refl _) _⟩
theorem info_u32 : (Tryd.prog.info? 34).map (fun i => (i.zero, i.size, i.bytes)) = some (some (.int .u32 0), 1, 4) := by kernel_rfl
theorem make_u32 (w : World) (n : Nat) (hn : n ≤ 20000000) : (Instr.makeSlice 38 (.int .i64 (n : Nat)) (.int .i64 (n : Nat))).run Tryd.prog w = .ok (.slice (some ⟨w.heap.size, 0, none⟩) n n) (w.alloc (.cells ((List.replicate n 0).map eW).toArray 34)) := by
  obtain ⟨i, hi, hz, hsize, hby⟩ := info_parts info_u32
  have h := run_make (P := Tryd.prog) w 38 34 i (.int .u32 0) Tryd.underlying38 hi hz .i64 .i64 n n (by omega) (by omega) (by rw [hby]; omega) (by omega)
  rw [hsize, Int.toNat_natCast, Nat.mul_one, made_one _ _ rfl] at h
  rw [List.map_replicate]
  exact h
theorem Blk.c5 {w : World} {g : Nat} {p q r s t : Value} (h : Blk w g [p, q, r, s, t]) : (w.cell? ⟨g, 0, none⟩ = some p ∧ w.cell? ⟨g, 1, none⟩ = some q ∧ w.cell? ⟨g, 2, none⟩ = some r ∧ w.cell? ⟨g, 3, none⟩ = some s ∧ w.cell? ⟨g, 4, none⟩ = some t) ∧ True ∧ g < w.heap.size :=
  ⟨⟨h.cell 0, h.cell 1, h.cell 2, h.cell 3, h.cell 4⟩, trivial, h.inside⟩
/-- right pixels -/
def Rs (N : Nat) (px : List Nat) : Prop := px.length = N ∧ ∀ z ∈ px, z < 4294967296 ∧ rb z = true
theorem Rs.set {N : Nat} {px : List Nat} (h : Rs N px) (j : Nat) {p : Nat} (hp : p < 4294967296) (hr : rb p = true) : Rs N (px.set j p) := ⟨by rw [List.length_set]; exact h.1, fun z hz => (List.mem_or_eq_of_mem_set hz).elim (h.2 z) (fun e => by rw [e]; exact ⟨hp, hr⟩)⟩
theorem Rs.paint {N : Nat} {px : List Nat} (h : Rs N px) (F : Nat → Bool) {p : Nat} (hp : p < 4294967296) (hr : rb p = true) : Rs N (paint F p px) := ⟨by rw [paint_len]; exact h.1, fun z hz => by
  obtain ⟨j, hj, rfl⟩ := List.mem_iff_getElem.1 hz
  rw [paint_len] at hj
  rw [paint_at F p px hj]
  split
  · exact ⟨hp, hr⟩
  · exact h.2 _ (List.getElem_mem hj)⟩
/-- how it stands between two calls -/
structure PS (w wr : World) (W H N ba ga gw : Nat) (px : List Nat) : Prop where
  xa : Px wr ga px
  xw : Px wr gw px
  ka : Blk wr ba [.int .i64 (W : Nat), .int .i64 (H : Nat), .slice (some ⟨ga, 0, none⟩) N N]
  hb : Below w.heap.size w wr
  rs : Rs N px
theorem PS.below {w wr w' : World} {W H N ba ga gw : Nat} {px : List Nat} (h : PS w wr W H N ba ga gw px) (hb : Below wr.heap.size wr w') : PS w w' W H N ba ga gw px := ⟨h.xa.below hb, h.xw.below hb, h.ka.below' hb, h.hb.trans (hb.mono h.hb.size), h.rs⟩
theorem Px.otherCell {w : World} {g g' : Nat} {l : List Nat} (h : Px w g l) (hne : g ≠ g') (i : Nat) (v : Value) : Px (w.setCell ⟨g', i, none⟩ v) g l := h.stays (Below.heap_setCell _ _ _ _ hne)
/-- a set pixel, in both -/
theorem PS.both {w wr w2 : World} {W H N ba ga gw : Nat} {px : List Nat} (h : PS w wr W H N ba ga gw px) (ho : Off [ga] wr w2) {j p : Nat} (hj : j < N) (hp : p < 4294967296) (hr : rb p = true) (hx : Px w2 ga (px.set j p)) (hne : ba ≠ ga ∧ ba ≠ gw ∧ ga ≠ gw) (hl : w.heap.size ≤ ga ∧ w.heap.size ≤ gw) :
    PS w (w2.setCell ⟨gw, j, none⟩ (.int .u32 (p : Nat))) W H N ba ga gw (px.set j p) := by
  have hw2 : Px w2 gw px := h.xw.off ho (by simp; exact fun e => hne.2.2 e.symm)
  exact ⟨hx.otherCell hne.2.2 _ _, hw2.set (by rw [h.rs.1]; exact hj) p, (ho.blk h.ka (by simp; exact hne.1)).other hne.2.1 _ _, below_set (h.hb.trans (ho.to_below h.hb.size (by intro q hq; simp at hq; rw [hq]; exact hl.1))) hl.2, h.rs.set j hp hr⟩
theorem PS.off {w wr w2 : World} {W H N ba ga gw : Nat} {px px2 : List Nat} (h : PS w wr W H N ba ga gw px) (ho : Off [ga] wr w2) (hx : Px w2 ga px2) (he : px2 = px) (hne : ba ≠ ga ∧ ba ≠ gw ∧ ga ≠ gw) (hl : w.heap.size ≤ ga) : PS w w2 W H N ba ga gw px := by
  subst he
  exact ⟨hx, h.xw.off ho (by simp; exact fun e => hne.2.2 e.symm), ho.blk h.ka (by simp; exact hne.1), h.hb.trans (ho.to_below h.hb.size (by intro q hq; simp at hq; rw [hq]; exact hl)), h.rs⟩
/-- filled, and painted so far -/
def upTo (F : Nat → Bool) (k : Nat) (j : Nat) : Bool := decide (j < k) && F j
theorem paint_up0 (F : Nat → Bool) (p : Nat) (px : List Nat) : paint (upTo F 0) p px = px := paint_none _ _ (fun _ _ => by simp [upTo])
theorem paint_upN {N : Nat} (F : Nat → Bool) (p : Nat) (px : List Nat) (h : px.length = N) : paint (upTo F N) p px = paint F p px := paint_congr _ _ (fun j hj => by simp [upTo, ← h, hj])
theorem paint_step_t {F : Nat → Bool} {k : Nat} (p : Nat) (px : List Nat) (h : F k = true) : (paint (upTo F k) p px).set k p = paint (upTo F (k + 1)) p px := by
  rw [paint_set]
  refine paint_congr _ _ fun j _ => ?_
  unfold upTo
  by_cases e : j = k
  · subst e; simp [h]
  · rw [show decide (j = k) = false from decide_eq_false e, Bool.or_false, show decide (j < k + 1) = decide (j < k) from decide_eq_decide.2 (by omega)]
theorem paint_step_f {F : Nat → Bool} {k : Nat} (p : Nat) (px : List Nat) (h : F k = false) : paint (upTo F k) p px = paint (upTo F (k + 1)) p px := by
  refine paint_congr _ _ fun j _ => ?_
  unfold upTo
  by_cases e : j = k
  · subst e; simp [h]
  · rw [show decide (j < k + 1) = decide (j < k) from decide_eq_decide.2 (by omega)]
theorem cov_take {l : List Bx} {k : Nat} (hk : k < l.length) (x y : Int) : cov (l.take (k + 1)) x y = (cov (l.take k) x y || l[k].has x y) := by
  unfold cov
  rw [List.take_succ_eq_append_getElem hk, List.any_append]
  simp
/-- five ways: in, or where it is out -/
theorem five (a b c d : Prop) [Decidable a] [Decidable b] [Decidable c] [Decidable d] : (a ∧ b ∧ c ∧ d) ∨ ¬ a ∨ (a ∧ ¬ b) ∨ (a ∧ b ∧ ¬ c) ∨ (a ∧ b ∧ c ∧ ¬ d) := by
  by_cases h1 : a <;> by_cases h2 : b <;> by_cases h3 : c <;> by_cases h4 : d <;> simp [h1, h2, h3, h4]
theorem ClRow.at_ {w : World} {A : Option Addr} {l : List Cl} (h : ClRow w A l) {j : Nat} (hj : j < l.length) : ∃ b off, A = some ⟨b, off, none⟩ ∧ b < w.heap.size ∧ w.cell? ⟨b, off + j * 5, none⟩ = some (.int .i64 l[j].k) ∧ w.cell? ⟨b, off + j * 5 + 1, none⟩ = some (.int .i64 l[j].x) ∧ w.cell? ⟨b, off + j * 5 + 2, none⟩ = some (.int .i64 l[j].y) ∧ w.cell? ⟨b, off + j * 5 + 3, none⟩ = some (.int .u32 (l[j].p : Nat)) ∧ w.cell? ⟨b, off + j * 5 + 4, none⟩ = some (.slice l[j].A l[j].l.length l[j].c) := by
  obtain ⟨b, off, e, hc⟩ := h (by omega)
  have h0 := hc j hj 0 _ rfl
  have h1 := hc j hj 1 _ rfl
  have h2 := hc j hj 2 _ rfl
  have h3 := hc j hj 3 _ rfl
  have h4 := hc j hj 4 _ rfl
  exact ⟨b, off, e, World.block_lt_of_cell? w ⟨b, _, none⟩ h0, h0, h1, h2, h3, h4⟩
end Go.Proofs.YtboelbmpcbeifaaDoor
