/-
  A disk in memory: its block, its map's, its files', each file's bytes; what is apart, what a step turns.
-/
import Derived.Test.YtpnhgongjfknbaaDkMap
import Derived.Test.YtpnhgongjfknbaaByt
namespace Go.Proofs.Ytpnhgongjfknbaa
open Go.RowKit omap

/-! ### Blocks known whole -/
def Blk (w : World) (g : Nat) (cs : List Value) : Prop := ∃ T, w.heap[g]? = some (.cells cs.toArray T (0, 0))
section
variable {w w' : World} {g : Nat} {cs : List Value}
theorem Blk.inside (h : Blk w g cs) : g < w.heap.size := by
  obtain ⟨T, h⟩ := h
  exact lt_of_block h
theorem Blk.cell (h : Blk w g cs) (i : Nat) : w.cell? ⟨g, i, none⟩ = cs[i]? := by
  obtain ⟨T, h⟩ := h
  rw [cell_of_row _ _ _ _ _ _ h]
  simp
theorem Blk.free (h : Blk w g cs) (i : Nat) : w.frozen? ⟨g, i, none⟩ = false := by
  obtain ⟨T, h⟩ := h
  exact frozen_of_row _ _ _ _ _ h
theorem Blk.stays (h : Blk w g cs) (hb : w'.heap[g]? = w.heap[g]?) : Blk w' g cs := by
  obtain ⟨T, h⟩ := h
  exact ⟨T, hb.trans h⟩
theorem Blk.set (h : Blk w g cs) (i : Nat) (u : Value) : Blk (w.setCell ⟨g, i, none⟩ u) g (cs.set i u) := by
  have hlt := h.inside
  obtain ⟨T, h⟩ := h
  refine ⟨T, ?_⟩
  have h' : w.heap[g] = .cells cs.toArray T (0, 0) := by simpa [Array.getElem?_eq_getElem hlt] using h
  show (w.heap.modify g _)[g]? = _
  rw [Array.getElem?_eq_getElem (by simpa using hlt), Array.getElem_modify_self, h']
  simp
end
theorem blk_new (w : World) (cs : List Value) (T : TypeId) : Blk (w.alloc (.cells cs.toArray T)) w.heap.size cs := ⟨T, heap_alloc_new w _⟩

/-! ### What a step turns: blocks of S, and new ones; those of S' are of S, or new -/
structure Turn (S S' : List Nat) (w w' : World) : Prop where
  os : w'.os = w.os
  tape : w'.tape = w.tape
  output : w'.output = w.output
  size : w.heap.size ≤ w'.heap.size
  far : ∀ k, k < w.heap.size → k ∉ S → k ∉ S' ∧ w'.heap[k]? = w.heap[k]?
theorem Turn.refl (S : List Nat) (w : World) : Turn S S w w := ⟨rfl, rfl, rfl, Nat.le_refl _, fun _ _ h => ⟨h, rfl⟩⟩
theorem Turn.trans {S S' S'' : List Nat} {w w' w'' : World} (h : Turn S S' w w') (k : Turn S' S'' w' w'') : Turn S S'' w w'' :=
  ⟨k.os.trans h.os, k.tape.trans h.tape, k.output.trans h.output, Nat.le_trans h.size k.size, fun j hj hn => by
    obtain ⟨h1, h2⟩ := h.far j hj hn
    obtain ⟨k1, k2⟩ := k.far j (Nat.lt_of_lt_of_le hj h.size) h1
    exact ⟨k1, k2.trans h2⟩⟩
theorem Turn.below {S : List Nat} {w w' : World} (hb : Below w.heap.size w w') : Turn S S w w' := ⟨hb.os, hb.tape, hb.output, hb.size, fun k hk hn => ⟨hn, hb.block k hk⟩⟩
theorem Turn.to_below {S S' : List Nat} {w w' : World} {B : Nat} (h : Turn S S' w w') (hB : B ≤ w.heap.size) (hS : ∀ g ∈ S, B ≤ g) : Below B w w' :=
  ⟨h.os, h.tape, h.output, h.size, fun k hk => (h.far k (by omega) (fun e => by have := hS k e; omega)).2⟩
theorem Turn.set {S : List Nat} {w : World} {a : Addr} (h : a.block ∈ S) (u : Value) : Turn S S w (w.setCell a u) :=
  ⟨rfl, rfl, rfl, by simp [World.setCell], fun k _ hn => ⟨hn, heap_setCell_other _ _ _ _ (fun e => hn (e ▸ h))⟩⟩
theorem Turn.grown {S : List Nat} {w w' : World} {row : Option Nat} (hg : w.grownBy w' row) (hr : ∀ k, row = some k → k ∈ S) : Turn S S w w' :=
  ⟨hg.os, hg.tape, hg.output, hg.size, fun k hk hn => ⟨hn, hg.block k hk (fun e => hn (hr k e.symm))⟩⟩
theorem Turn.alloc (S : List Nat) (w : World) (o : Obj) : Turn S S w (w.alloc o) := .below ((Below.refl _ _).alloc (Nat.le_refl _) o)

/-! ### Values along a rising list -/
section
variable {κ α β : Type}
def mapv (f : α → β) (l : List (κ × α)) : List (κ × β) := l.map fun x => (x.1, f x.2)
theorem mapv_ins (lt : κ → κ → Bool) (f : α → β) (k : κ) (v : α) (l : List (κ × α)) : mapv f (ins lt k v l) = ins lt k (f v) (mapv f l) := by
  induction l with
  | nil => rfl
  | cons x l ih =>
    unfold mapv at ih ⊢
    unfold ins
    rw [List.map_cons]
    simp only
    split
    · rfl
    · rw [List.map_cons, ih]
theorem mapv_length (f : α → β) (l : List (κ × α)) : (mapv f l).length = l.length := List.length_map ..
theorem ins_perm (lt : κ → κ → Bool) (k : κ) (v : α) (l : List (κ × α)) : (ins lt k v l).Perm ((k, v) :: l) := by
  induction l with
  | nil => exact List.Perm.refl _
  | cons x l ih =>
    unfold ins
    split
    · exact List.Perm.refl _
    · exact (ih.cons x).trans (List.Perm.swap _ _ _)
variable [DecidableEq κ]
theorem mapv_del (f : α → β) (k : κ) (l : List (κ × α)) : mapv f (del k l) = del k (mapv f l) := by
  unfold mapv del
  rw [List.filter_map]
  rfl
theorem mapv_put (lt : κ → κ → Bool) (f : α → β) (k : κ) (v : α) (l : List (κ × α)) : mapv f (put lt k v l) = put lt k (f v) (mapv f l) := by
  unfold put
  rw [mapv_ins, mapv_del]
theorem mapv_look (f : α → β) (k : κ) (l : List (κ × α)) : omap.look (mapv f l) k = (omap.look l k).map f := by
  induction l with
  | nil => rfl
  | cons x l ih =>
    unfold mapv at ih ⊢
    rw [List.map_cons, look_cons, look_cons, ih]
    by_cases h : x.1 = k <;> simp [h]
theorem look_perm {lt : κ → κ → Bool} (o : Ord lt) {l : List (κ × α)} (h : Rises lt l) {k : κ} {v : α} (hk : omap.look l k = some v) : l.Perm ((k, v) :: del k l) := by
  induction l with
  | nil => cases hk
  | cons y l ih =>
    obtain ⟨h1, h2⟩ := List.pairwise_cons.1 h
    rw [look_cons] at hk
    unfold del at ih ⊢
    by_cases hy : y.1 = k
    · rw [if_pos hy] at hk
      have hf : ∀ x ∈ l, x.1 ≠ k := fun x hx e => by
        have := o.ne (h1 x hx)
        rw [hy, e] at this
        exact this rfl
      have := del_fresh hf
      unfold del at this
      rw [List.filter_cons, if_neg (by simp [hy]), this]
      obtain ⟨y1, y2⟩ := y
      simp only at hy hk
      rw [hy, Option.some.inj hk]
    · rw [if_neg hy] at hk
      rw [List.filter_cons, if_pos (by simp [hy])]
      exact ((ih h2 hk).cons y).trans (List.Perm.swap _ _ _)
theorem del_put (lt : κ → κ → Bool) (k : κ) (v : α) (l : List (κ × α)) : del k (put lt k v l) = del k l := by
  unfold put
  have : ∀ l' : List (κ × α), (∀ x ∈ l', x.1 ≠ k) → del k (ins lt k v l') = l' := by
    intro l'
    induction l' with
    | nil =>
      intro _
      simp [ins, del]
    | cons y l' ih =>
      intro hf
      unfold del at ih ⊢
      unfold ins
      split
      · rw [List.filter_cons, if_neg (by simp)]
        exact del_fresh hf
      · rw [List.filter_cons, if_pos (by simpa using hf y List.mem_cons_self), ih (fun x hx => hf x (List.mem_cons_of_mem _ hx))]
  exact this _ (not_in_del k l)
end

theorem Own.val {w : World} {base : Nat} {v : Value} {l : List Nat} (h : Own w base v l) : ∃ a n c, v = .slice a n c := by
  rcases h.2 with ⟨rfl, h0⟩ | ⟨g, cap, cur, rfl, _⟩
  · exact ⟨none, 0, 0, rfl⟩
  · exact ⟨_, _, _, rfl⟩

/-! ### Files, a disk -/
/-- a file: bytes, how many are synced -/
structure Fl where
  l : List Nat
  s : Nat
/-- .. in memory: its block, its slice -/
structure Ent where
  g : Nat
  v : Value
  f : Fl
def Ent.own (e : Ent) : List Nat := e.g :: e.v.ownBlock.toList
structure FileAt (w : World) (e : Ent) : Prop where
  blk : Blk w e.g [e.v, .int .i64 (e.f.s : Nat)]
  own : Own w 0 e.v e.f.l
  bytes : AreBytes e.f.l
  s_le : e.f.s ≤ e.f.l.length
theorem FileAt.stays {w w' : World} {e : Ent} (h : FileAt w e) (hb : ∀ g ∈ e.own, w'.heap[g]? = w.heap[g]?) : FileAt w' e :=
  ⟨h.blk.stays (hb _ List.mem_cons_self), h.own.stays fun g hg => hb g (by simp [Ent.own, hg]), h.bytes, h.s_le⟩
theorem FileAt.inside {w : World} {e : Ent} (h : FileAt w e) : ∀ g ∈ e.own, g < w.heap.size := by
  intro g hg
  unfold Ent.own at hg
  rcases List.mem_cons.1 hg with rfl | hg
  · exact h.blk.inside
  · exact (h.own.block (by simpa using hg)).2
abbrev Es := List (Nm × Ent)
def owned (es : Es) : List Nat := es.flatMap fun x => x.2.own
def foot (b m : Nat) (es : Es) : List Nat := b :: m :: owned es
def bl (es : Es) : List (Nm × Nat) := mapv Ent.g es
def er (es : Es) : List (Nm × Fl) := mapv Ent.f es
theorem bl_put (k : Nm) (e : Ent) (es : Es) : bl (put lt k e es) = put lt k e.g (bl es) := mapv_put lt Ent.g k e es
theorem bl_del (k : Nm) (es : Es) : bl (del k es) = del k (bl es) := mapv_del Ent.g k es
theorem er_put (k : Nm) (e : Ent) (es : Es) : er (put lt k e es) = put lt k e.f (er es) := mapv_put lt Ent.f k e es
theorem er_del (k : Nm) (es : Es) : er (del k es) = del k (er es) := mapv_del Ent.f k es
theorem bl_look (k : Nm) (es : Es) : omap.look (bl es) k = (omap.look es k).map Ent.g := mapv_look Ent.g k es
theorem er_look (k : Nm) (es : Es) : omap.look (er es) k = (omap.look es k).map Ent.f := mapv_look Ent.f k es
theorem rises_mapv {α β : Type} (f : α → β) {l : List (Nm × α)} : Rises lt (mapv f l) ↔ Rises lt l := by
  unfold Rises mapv
  rw [List.pairwise_map]
/-- the power -/
structure Pw where
  steps : Nat
  left : Nat
  down : Bool
def cellsOf (p : Pw) (cap used : Nat) (m : Nat) : List Value := [.int .i64 (p.steps : Nat), .int .i64 (p.left : Nat), .bool p.down, .int .i64 (cap : Nat), .int .i64 (used : Nat), .map (some m)]
structure Raw (w : World) (b m : Nat) (p : Pw) (cap used : Nat) (es : Es) : Prop where
  blk : Blk w b (cellsOf p cap used m)
  map : MapAt w m (bl es)
  files : ∀ x ∈ es, FileAt w x.2
  apart : (foot b m es).Nodup
theorem Raw.rises {w : World} {b m : Nat} {p : Pw} {cap used : Nat} {es : Es} (h : Raw w b m p cap used es) : Rises lt es := (rises_mapv Ent.g).1 h.map.rises
theorem owned_perm {es es' : Es} (h : es.Perm es') : (owned es).Perm (owned es') := h.flatMap_right _
theorem foot_perm {es es' : Es} (b m : Nat) (h : es.Perm es') : (foot b m es).Perm (foot b m es') := ((owned_perm h).cons m).cons b
theorem owned_cons (x : Nm × Ent) (es : Es) : owned (x :: es) = x.2.own ++ owned es := rfl
theorem mem_owned {es : Es} {g : Nat} : g ∈ owned es ↔ ∃ x ∈ es, g ∈ x.2.own := List.mem_flatMap
theorem Raw.inside {w : World} {b m : Nat} {p : Pw} {cap used : Nat} {es : Es} (h : Raw w b m p cap used es) : ∀ g ∈ foot b m es, g < w.heap.size := by
  intro g hg
  rcases List.mem_cons.1 hg with rfl | hg
  · exact h.blk.inside
  rcases List.mem_cons.1 hg with rfl | hg
  · exact h.map.inside
  · obtain ⟨x, hx, hgx⟩ := mem_owned.1 hg
    exact (h.files x hx).inside g hgx
theorem Raw.stays {w w' : World} {b m : Nat} {p : Pw} {cap used : Nat} {es : Es} (h : Raw w b m p cap used es) (hb : ∀ g ∈ foot b m es, w'.heap[g]? = w.heap[g]?) : Raw w' b m p cap used es :=
  ⟨h.blk.stays (hb b List.mem_cons_self), h.map.stays (hb m (by simp [foot])), fun x hx => (h.files x hx).stays fun g hg => hb g (by
    simp only [foot, List.mem_cons]
    exact .inr (.inr (mem_owned.2 ⟨x, hx, hg⟩))), h.apart⟩
theorem Raw.below {w w' : World} {b m : Nat} {p : Pw} {cap used : Nat} {es : Es} (h : Raw w b m p cap used es) (hb : Below w.heap.size w w') : Raw w' b m p cap used es := h.stays fun g hg => hb.block g (h.inside g hg)
theorem Raw.alloc {w : World} {b m : Nat} {p : Pw} {cap used : Nat} {es : Es} (h : Raw w b m p cap used es) (o : Obj) : Raw (w.alloc o) b m p cap used es := h.below ((Below.refl _ _).alloc (Nat.le_refl _) o)
/-- a step elsewhere -/
theorem Raw.other {w w' : World} {b m : Nat} {p : Pw} {cap used : Nat} {es : Es} {S S' : List Nat} (h : Raw w b m p cap used es) (ht : Turn S S' w w') (hn : ∀ g ∈ foot b m es, g ∉ S) : Raw w' b m p cap used es ∧ ∀ g ∈ foot b m es, g ∉ S' :=
  ⟨h.stays fun g hg => (ht.far g (h.inside g hg) (hn g hg)).2, fun g hg => (ht.far g (h.inside g hg) (hn g hg)).1⟩
/-- the disk's own cells -/
theorem Raw.cells {w : World} {b m : Nat} {p : Pw} {cap used : Nat} {es : Es} (h : Raw w b m p cap used es) :
    w.cell? ⟨b, 0, none⟩ = some (.int .i64 (p.steps : Nat)) ∧ w.cell? ⟨b, 1, none⟩ = some (.int .i64 (p.left : Nat)) ∧ w.cell? ⟨b, 2, none⟩ = some (.bool p.down) ∧ w.cell? ⟨b, 3, none⟩ = some (.int .i64 (cap : Nat)) ∧
      w.cell? ⟨b, 4, none⟩ = some (.int .i64 (used : Nat)) ∧ w.cell? ⟨b, 5, none⟩ = some (.map (some m)) :=
  ⟨h.blk.cell 0, h.blk.cell 1, h.blk.cell 2, h.blk.cell 3, h.blk.cell 4, h.blk.cell 5⟩
/-- a file's cells -/
theorem Raw.file {w : World} {b m : Nat} {p : Pw} {cap used : Nat} {es : Es} (h : Raw w b m p cap used es) {k : Nm} {e : Ent} (hk : omap.look es k = some e) : FileAt w e := h.files _ (look_mem hk)
/-- a cell of the disk's block is written -/
theorem Raw.set {w : World} {b m : Nat} {p p' : Pw} {cap used cap' used' : Nat} {es : Es} (h : Raw w b m p cap used es) (i : Nat) (u : Value) (hc : (cellsOf p cap used m).set i u = cellsOf p' cap' used' m) : Raw (w.setCell ⟨b, i, none⟩ u) b m p' cap' used' es := by
  have hap := h.apart
  unfold foot at hap
  obtain ⟨h1, _⟩ := List.nodup_cons.1 hap
  refine ⟨hc ▸ h.blk.set i u, h.map.stays (heap_setCell_other _ _ _ _ fun e => h1 (by simp only at e; simp [← e])), fun x hx => (h.files x hx).stays fun g hg => heap_setCell_other _ _ _ _ fun e => h1 ?_, h.apart⟩
  simp only at e
  rw [← e]
  exact List.mem_cons_of_mem _ (mem_owned.2 ⟨x, hx, hg⟩)
theorem sub_flat {α β : Type} (f : α → List β) {l l' : List α} (h : l.Sublist l') : (l.flatMap f).Sublist (l'.flatMap f) := by
  induction h with
  | slnil => exact List.Sublist.refl _
  | cons a _ ih =>
    rw [List.flatMap_cons]
    exact ih.trans (List.sublist_append_right _ _)
  | cons_cons a _ ih =>
    rw [List.flatMap_cons, List.flatMap_cons]
    exact List.Sublist.append_left ih _
/-- an entry more, or another one in its place -/
theorem Raw.put {w w' : World} {b m : Nat} {p p' : Pw} {cap used cap' used' : Nat} {es : Es} (h : Raw w b m p cap used es) {k : Nm} {e : Ent}
    (hblk : Blk w' b (cellsOf p' cap' used' m)) (hmap : MapAt w' m (bl (omap.put lt k e es))) (hf : FileAt w' e) (hnd : e.own.Nodup)
    (hfar : ∀ g ∈ e.own, g ∉ foot b m (omap.del k es)) (hrest : ∀ g ∈ owned (omap.del k es), w'.heap[g]? = w.heap[g]?) : Raw w' b m p' cap' used' (omap.put lt k e es) := by
  have hp : (omap.put lt k e es).Perm ((k, e) :: omap.del k es) := ins_perm _ _ _ _
  refine ⟨hblk, hmap, fun x hx => ?_, ?_⟩
  · rcases List.mem_cons.1 (hp.mem_iff.1 hx) with rfl | hx
    · exact hf
    · exact (h.files x (mem_del.1 hx).1).stays fun g hg => hrest g (mem_owned.2 ⟨x, hx, hg⟩)
  · have hsub : (foot b m (omap.del k es)).Nodup := by
      exact List.Nodup.sublist (((sub_flat _ (List.filter_sublist (l := es))).cons_cons m).cons_cons b) h.apart
    rw [(foot_perm b m hp).nodup_iff]
    have : (foot b m ((k, e) :: omap.del k es)).Perm (e.own ++ foot b m (omap.del k es)) := by
      unfold foot
      rw [owned_cons]
      refine List.Perm.trans ?_ List.perm_middle.symm
      refine List.Perm.cons b ?_
      exact List.perm_middle.symm
    rw [this.nodup_iff, List.nodup_append]
    exact ⟨hnd, hsub, fun a ha c hc e => hfar a ha (e ▸ hc)⟩
/-- an entry less -/
theorem Raw.del {w w' : World} {b m : Nat} {p p' : Pw} {cap used cap' used' : Nat} {es : Es} (h : Raw w b m p cap used es) {k : Nm}
    (hblk : Blk w' b (cellsOf p' cap' used' m)) (hmap : MapAt w' m (bl (omap.del k es))) (hrest : ∀ g ∈ owned (omap.del k es), w'.heap[g]? = w.heap[g]?) : Raw w' b m p' cap' used' (omap.del k es) := by
  refine ⟨hblk, hmap, fun x hx => (h.files x (mem_del.1 hx).1).stays fun g hg => hrest g (mem_owned.2 ⟨x, hx, hg⟩), ?_⟩
  exact List.Nodup.sublist (((sub_flat _ (List.filter_sublist (l := es))).cons_cons m).cons_cons b) h.apart
theorem owned_del_sub {k : Nm} {es : Es} : ∀ g ∈ owned (omap.del k es), g ∈ owned es := fun g hg => by
  obtain ⟨x, hx, hgx⟩ := mem_owned.1 hg
  exact mem_owned.2 ⟨x, (mem_del.1 hx).1, hgx⟩
/-- an entry's blocks are none of the others' -/
theorem Raw.split {w : World} {b m : Nat} {p : Pw} {cap used : Nat} {es : Es} (h : Raw w b m p cap used es) {k : Nm} {e : Ent} (hk : omap.look es k = some e) :
    e.own.Nodup ∧ (∀ g ∈ e.own, g ∉ foot b m (omap.del k es)) ∧ (∀ g ∈ e.own, g ∈ owned es) := by
  have hp := look_perm ord h.rises hk
  have : (foot b m es).Perm (e.own ++ foot b m (omap.del k es)) := by
    refine (foot_perm b m hp).trans ?_
    unfold foot
    rw [owned_cons]
    refine List.Perm.trans ?_ List.perm_middle.symm
    refine List.Perm.cons b ?_
    exact List.perm_middle.symm
  have hn := h.apart
  rw [this.nodup_iff, List.nodup_append] at hn
  exact ⟨hn.1, fun g hg hm => hn.2.2 g hg g hm rfl, fun g hg => mem_owned.2 ⟨_, look_mem hk, hg⟩⟩
end Go.Proofs.Ytpnhgongjfknbaa
