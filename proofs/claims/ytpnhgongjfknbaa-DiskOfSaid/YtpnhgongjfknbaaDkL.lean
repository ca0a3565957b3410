/-
  The contract of a disk's Crash.
-/
import Derived.Test.YtpnhgongjfknbaaDkK
namespace Go.Proofs.Ytpnhgongjfknbaa
open Go.RowKit omap

/-- what is not of S stays -/
structure Rel (S : List Nat) (w w' : World) : Prop where
  os : w'.os = w.os
  tape : w'.tape = w.tape
  output : w'.output = w.output
  size : w.heap.size ≤ w'.heap.size
  far : ∀ k, k < w.heap.size → k ∉ S → w'.heap[k]? = w.heap[k]?
theorem Rel.refl (S : List Nat) (w : World) : Rel S w w := ⟨rfl, rfl, rfl, Nat.le_refl _, fun _ _ _ => rfl⟩
theorem Rel.trans (S : List Nat) (a b c : World) (h : Rel S a b) (k : Rel S b c) : Rel S a c :=
  ⟨k.os.trans h.os, k.tape.trans h.tape, k.output.trans h.output, Nat.le_trans h.size k.size, fun j hj hn => (k.far j (Nat.lt_of_lt_of_le hj h.size) hn).trans (h.far j hj hn)⟩
theorem Rel.drew (S : List Nat) (w : World) : Rel S w w.drew := ⟨rfl, rfl, rfl, Nat.le_refl _, fun _ _ _ => rfl⟩
theorem Turn.rel {S S' : List Nat} {w w' : World} (h : Turn S S' w w') : Rel S w w' := ⟨h.os, h.tape, h.output, h.size, fun k hk hn => (h.far k hk hn).2⟩
theorem Rel.set {S : List Nat} {w : World} {a : Addr} (h : a.block ∈ S) (u : Value) : Rel S w (w.setCell a u) := (Turn.set h u).rel
theorem Rel.cell {S : List Nat} {w w' : World} {a : Addr} {v : Value} (h : Rel S w w') (hl : a.block < w.heap.size) (hn : a.block ∉ S) (hc : w.cell? a = some v) : w'.cell? a = some v := (World.cell?_of_block (h.far a.block hl hn)).trans hc
/-- how a disk stands while one of its files crashes: L: what has come up (11: the crash, 15: the store of what is used) -/
structure CJ (w0 : World) (b m : Nat) (p : Pw) (cap used used' : Nat) (es : Es) (k : Nm) (e : Ent) (c : Ch) (L : Nat → Bool) (w : World) : Prop where
  map : MapAt w m (bl es)
  c5 : w.cell? ⟨b, 5, none⟩ = some (.map (some m))
  c4 : L 15 = false → w.cell? ⟨b, 4, none⟩ = some (.int .i64 (used : Nat))
  fr : w.frozen? ⟨b, 4, none⟩ = false
  early : L 11 = false → Raw w b m p cap used es ∧ Turn (foot b m es) (foot b m es) w0 w
  mid : L 11 = true → L 15 = false → ∃ e', e'.g = e.g ∧ e'.f = crashF c e.f ∧ Raw w b m p cap used (omap.put lt k e' es) ∧ Turn (foot b m es) (foot b m (omap.put lt k e' es)) w0 w
  late : L 15 = true → ∃ e', e'.g = e.g ∧ e'.f = crashF c e.f ∧ Raw w b m p cap used' (omap.put lt k e' es) ∧ Turn (foot b m es) (foot b m (omap.put lt k e' es)) w0 w
  ahead : L 15 = true → L 3 = true ∧ L 11 = true
theorem CJ.start {w0 : World} {b m : Nat} {p : Pw} {cap used used' : Nat} {es : Es} {k : Nm} {e : Ent} {c : Ch} (h : Raw w0 b m p cap used es) : CJ w0 b m p cap used used' es k e c (fun _ => false) w0 :=
  ⟨h.map, h.cells.2.2.2.2.2, fun _ => h.cells.2.2.2.2.1, h.blk.free 4, fun _ => ⟨h, Turn.refl _ _⟩, (fun h => by cases h), (fun h => by cases h), (fun h => by cases h)⟩
section
variable {w0 w : World} {b m : Nat} {p : Pw} {cap used used' : Nat} {es : Es} {k : Nm} {e : Ent} {c : Ch} {L : Nat → Bool}
theorem CJ.usedAt (h : CJ w0 b m p cap used used' es k e c L w) (h3 : L 3 = false) : w.cell? ⟨b, 4, none⟩ = some (.int .i64 (used : Nat)) := by
  cases h15 : L 15 with
  | false => exact h.c4 h15
  | true =>
    have := (h.ahead h15).1
    rw [h3] at this
    cases this
theorem CJ.upd (h : CJ w0 b m p cap used used' es k e c L w) {i : Nat} (h1 : Nat.beq 11 i = false) (h2 : Nat.beq 15 i = false) : CJ w0 b m p cap used used' es k e c (regs.upd L i) w := by
  have e1 : regs.upd L i 11 = L 11 := by unfold regs.upd; rw [h1]; rfl
  have e2 : regs.upd L i 15 = L 15 := by unfold regs.upd; rw [h2]; rfl
  refine ⟨h.map, h.c5, fun h' => h.c4 (e2 ▸ h'), h.fr, fun h' => h.early (e1 ▸ h'), fun h' h'' => h.mid (e1 ▸ h') (e2 ▸ h''), fun h' => h.late (e2 ▸ h'), fun h' => ?_⟩
  obtain ⟨k1, k2⟩ := h.ahead (e2 ▸ h')
  exact ⟨by unfold regs.upd; rw [k1]; simp, e1 ▸ k2⟩
theorem CJ.called {w1 w' : World} (h : CJ w0 b m p cap used used' es k e c L w1) (hun : L 11 = false) (hm : ∃ e', e'.g = e.g ∧ e'.f = crashF c e.f ∧ Raw w' b m p cap used (omap.put lt k e' es) ∧ Turn (foot b m es) (foot b m (omap.put lt k e' es)) w0 w') (hk : omap.look es k = some e) :
    CJ w0 b m p cap used used' es k e c (regs.upd L 11) w' := by
  have h15 : L 15 = false := by
    cases h15 : L 15 with
    | false => rfl
    | true => exact absurd ((h.ahead h15).2.symm.trans hun) (by simp)
  have e2 : regs.upd L 11 15 = false := by unfold regs.upd; rw [h15]; rfl
  have e1 : regs.upd L 11 11 = true := by unfold regs.upd; rfl
  obtain ⟨e', k1, k2, k3, k4⟩ := hm
  have hmap : MapAt w' m (bl es) := by
    have := k3.map
    rw [bl_put, k1, put_same h.map.rises (by rw [bl_look, hk]; rfl)] at this
    exact this
  exact ⟨hmap, k3.cells.2.2.2.2.2, fun _ => k3.cells.2.2.2.2.1, k3.blk.free 4, fun h' => absurd (h'.symm.trans e1) (by simp), fun _ _ => ⟨e', k1, k2, k3, k4⟩, fun h' => absurd (h'.symm.trans e2) (by simp), fun h' => absurd (h'.symm.trans e2) (by simp)⟩
theorem CJ.stored (h : CJ w0 b m p cap used used' es k e c L w) (hun : L 15 = false) (h3 : L 3 = true) (h11 : L 11 = true) : CJ w0 b m p cap used used' es k e c (regs.upd L 15) (w.setCell ⟨b, 4, none⟩ (.int .i64 (used' : Nat))) := by
  obtain ⟨e', k1, k2, k3, k4⟩ := h.mid h11 hun
  have e2 : regs.upd L 15 15 = true := by unfold regs.upd; rfl
  have e1 : regs.upd L 15 11 = true := by unfold regs.upd; rw [h11]; rfl
  have e3 : regs.upd L 15 3 = true := by unfold regs.upd; rw [h3]; rfl
  have hs := k3.set (p' := p) (cap' := cap) (used' := used') 4 (.int .i64 (used' : Nat)) rfl
  exact ⟨h.map.stays (heap_setCell_other _ _ _ _ (fun e => k3.bm e.symm)), hs.cells.2.2.2.2.2, fun h' => absurd (h'.symm.trans e2) (by simp), hs.blk.free 4, fun h' => absurd (h'.symm.trans e1) (by simp), fun _ h' => absurd (h'.symm.trans e2) (by simp),
    fun _ => ⟨e', k1, k2, hs, k4.trans (Turn.set (foot_mem_b b m _) _)⟩, fun _ => ⟨e3, e1⟩⟩
end

theorem MapAt.lookupN {w : World} {m : Nat} {l : L} (h : MapAt w m l) {k : Nm} (hs : k.length ≤ maxLen) :
    (Instr.lookup 58 (.map (some m)) (.string ⟨k.toArray⟩) false).run Try.prog w = .ok (ptrTo (omap.look l k)) w := by
  have := h.lookup (s := ⟨k.toArray⟩) (by simpa [ByteArray.size] using hs)
  simpa using this

/-! ### All files -/
def chAt (cs : List Ch) (i : Nat) : Ch := cs.getD i ⟨0, 0, 0⟩
def crashAll (cs : List Ch) (fs : Fs) : Fs := fs.mapIdx fun i x => (x.1, crashF (chAt cs i) x.2)
def mix (cs : List Ch) (fs : Fs) (k : Nat) : Fs := (crashAll cs fs).take k ++ fs.drop k
theorem crashAll_length (cs : List Ch) (fs : Fs) : (crashAll cs fs).length = fs.length := by simp [crashAll]
theorem mix_length (cs : List Ch) (fs : Fs) {k : Nat} (hk : k ≤ fs.length) : (mix cs fs k).length = fs.length := by
  unfold mix
  rw [List.length_append, List.length_take, List.length_drop, crashAll_length]
  omega
theorem mix_at {cs : List Ch} {fs : Fs} {k : Nat} (hk : k < fs.length) : (mix cs fs k)[k]? = some fs[k] := by
  unfold mix
  rw [List.getElem?_append_right (by rw [List.length_take, crashAll_length]; omega), List.length_take, crashAll_length, Nat.min_eq_left (by omega), Nat.sub_self]
  rw [List.getElem?_drop, Nat.add_zero, List.getElem?_eq_getElem hk]
theorem mix_succ {cs : List Ch} {fs : Fs} {k : Nat} (hk : k < fs.length) : mix cs fs (k + 1) = (mix cs fs k).set k (fs[k].1, crashF (chAt cs k) fs[k].2) := by
  unfold mix
  have hl : k < (crashAll cs fs).length := by rw [crashAll_length]; exact hk
  rw [List.take_succ_eq_append_getElem hl, List.set_append_right _ _ (by rw [List.length_take, crashAll_length]; omega)]
  rw [List.length_take, crashAll_length, Nat.min_eq_left (by omega), Nat.sub_self, List.drop_eq_getElem_cons hk, List.set_cons_zero, List.append_assoc]
  congr 2
  simp [crashAll]
theorem mix_names {cs : List Ch} {fs : Fs} : ∀ {k : Nat}, k ≤ fs.length → (mix cs fs k).map (·.1) = fs.map (·.1) := by
  intro k hk
  unfold mix
  rw [List.map_append]
  have : (crashAll cs fs).map (·.1) = fs.map (·.1) := by
    unfold crashAll
    refine List.ext_getElem (by simp) fun i h1 h2 => ?_
    simp
  rw [List.map_take, this, ← List.map_take, ← List.map_append, List.take_append_drop]
theorem put_at {l : List (Nm × Fl)} (h : Rises lt l) {k : Nat} (hk : k < l.length) (v : Fl) : omap.put lt l[k].1 v l = l.set k (l[k].1, v) := by
  induction l generalizing k with
  | nil => simp at hk
  | cons y l ih =>
    obtain ⟨h1, h2⟩ := List.pairwise_cons.1 h
    have hfresh : ∀ x ∈ l, x.1 ≠ y.1 := fun x hx e => ord.ne (h1 x hx) e.symm
    cases k with
    | zero =>
      simp only [List.getElem_cons_zero, List.set_cons_zero]
      unfold omap.put del
      have := del_fresh hfresh
      unfold del at this
      rw [List.filter_cons, if_neg (by simp), this]
      cases l with
      | nil => rfl
      | cons z l =>
        unfold ins
        rw [if_pos (h1 z List.mem_cons_self)]
    | succ k =>
      have hk' : k < l.length := by simpa using hk
      simp only [List.getElem_cons_succ, List.set_cons_succ]
      have hm := List.getElem_mem hk'
      have := ih h2 hk'
      unfold omap.put del at this ⊢
      rw [List.filter_cons, if_pos (by simpa using fun e => hfresh _ hm e.symm)]
      unfold ins
      rw [if_neg (by rw [ord.asymm (h1 _ hm)]; simp), this]
theorem look_at {l : List (Nm × Fl)} (h : Rises lt l) {k : Nat} (hk : k < l.length) : omap.look l l[k].1 = some l[k].2 := h.look_of_mem ord (List.getElem_mem hk)
end Go.Proofs.Ytpnhgongjfknbaa
