/-
  The contracts of a disk's commands.
-/
import Derived.Test.YtpnhgongjfknbaaDkH
namespace Go.Proofs.Ytpnhgongjfknbaa
open Go.RowKit omap

/-- a disk, as the document has it -/
structure Dk where
  p : Pw
  cap : Nat
  fs : Fs
structure DiskAt (w : World) (b : Nat) (S : List Nat) (d : Dk) : Prop where
  at_ : ∃ m es, S = foot b m es ∧ Raw w b m d.p d.cap (tot d.fs) es ∧ er es = d.fs
  room : tot d.fs ≤ d.cap
  few : d.cap ≤ 67108864
theorem DiskAt.below {w w' : World} {b : Nat} {S : List Nat} {d : Dk} (h : DiskAt w b S d) (hb : Below w.heap.size w w') : DiskAt w' b S d := by
  obtain ⟨m, es, h1, h2, h3⟩ := h.at_
  exact ⟨⟨m, es, h1, h2.below hb, h3⟩, h.room, h.few⟩
theorem DiskAt.alloc {w : World} {b : Nat} {S : List Nat} {d : Dk} (h : DiskAt w b S d) (o : Obj) : DiskAt (w.alloc o) b S d := h.below ((Below.refl _ _).alloc (Nat.le_refl _) o)
theorem DiskAt.inside {w : World} {b : Nat} {S : List Nat} {d : Dk} (h : DiskAt w b S d) : ∀ g ∈ S, g < w.heap.size := by
  obtain ⟨m, es, rfl, h2, _⟩ := h.at_
  exact h2.inside
theorem DiskAt.b_mem {w : World} {b : Nat} {S : List Nat} {d : Dk} (h : DiskAt w b S d) : b ∈ S := by
  obtain ⟨m, es, rfl, _, _⟩ := h.at_
  exact foot_mem_b b m es
theorem DiskAt.other {w w' : World} {b : Nat} {S T T' : List Nat} {d : Dk} (h : DiskAt w b S d) (ht : Turn T T' w w') (hn : ∀ g ∈ S, g ∉ T) : DiskAt w' b S d ∧ ∀ g ∈ S, g ∉ T' := by
  have hin := h.inside
  obtain ⟨m, es, h1, h2, h3⟩ := h.at_
  subst h1
  obtain ⟨k1, k2⟩ := h2.other ht hn
  exact ⟨⟨⟨m, es, rfl, k1, h3⟩, h.room, h.few⟩, k2⟩
theorem DiskAt.rises {w : World} {b : Nat} {S : List Nat} {d : Dk} (h : DiskAt w b S d) : Rises lt d.fs := by
  obtain ⟨m, es, _, h2, h3⟩ := h.at_
  rw [← h3]
  exact rises_er.2 h2.rises

/-- a command: what it does, what it leaves if the power goes at it -/
def cmdS (F G : Fs → Int × Fs) (d : Dk) : Int × Dk :=
  if d.p.down = true then (24, d)
  else if d.p.left = 1 then (24, ⟨⟨d.p.steps + 1, 0, true⟩, d.cap, (G d.fs).2⟩)
  else ((F d.fs).1, ⟨⟨d.p.steps + 1, d.p.left - 1, false⟩, d.cap, (F d.fs).2⟩)
def Cmd (w : World) (b : Nat) (S : List Nat) (r : Int × Dk) (e : Ending) (w' : World) : Prop :=
  e = .returned (.int .i64 r.1) ∧ ∃ S', DiskAt w' b S' r.2 ∧ Turn S S' w w'
def idS (fs : Fs) : Int × Fs := (0, fs)
theorem cmd_of {w : World} {b m : Nat} {d : Dk} {es : Es} (p' : Pw) (F : Fs → Int × Fs) (hF : tot (F d.fs).2 ≤ d.cap) (hd : d.cap ≤ 67108864) (hE : er es = d.fs) {w1 w2 : World} {e : Ending} (ht : Turn (foot b m es) (foot b m es) w w1)
    (h : Done w1 b m p' d.cap es (tot (F (er es)).2) (F (er es)) e w2) : e = .returned (.int .i64 (F d.fs).1) ∧ ∃ S', DiskAt w2 b S' ⟨p', d.cap, (F d.fs).2⟩ ∧ Turn (foot b m es) S' w w2 := by
  obtain ⟨h1, es', h2, h3, h4⟩ := h
  rw [hE] at h1 h2 h3
  exact ⟨h1, _, ⟨⟨m, es', rfl, h2, h3⟩, hF, hd⟩, ht.trans h4⟩

theorem command_any (b m : Nat) (d : Dk) (es : Es) (w : World) (hr : Raw w b m d.p d.cap (tot d.fs) es) (hE : er es = d.fs) (hroom : tot d.fs ≤ d.cap) (hcap : d.cap ≤ 67108864) (hst : d.p.steps ≤ 4611686018427387904) (hl : d.p.left ≤ 9223372036854775807)
    (F G : Fs → Int × Fs) (gd gl : Nat) (cd cl : Array Value) (hed : Enters Try.prog gd) (hel : Enters Try.prog gl) (hF : tot (F d.fs).2 ≤ d.cap) (hG : tot (G d.fs).2 ≤ d.cap)
    (hdo : ∀ w1 p', Raw w1 b m p' d.cap (tot d.fs) es → Turn (foot b m es) (foot b m es) w w1 → Calls Try.prog gd cd w1 (Done w1 b m p' d.cap es (tot (F (er es)).2) (F (er es))))
    (hleave : ∀ w1 p', Raw w1 b m p' d.cap (tot d.fs) es → Turn (foot b m es) (foot b m es) w w1 → Calls Try.prog gl cl w1 (Done w1 b m p' d.cap es (tot (G (er es)).2) (G (er es)))) :
    Calls Try.prog 45 #[.pointer (some ⟨b, 0, none⟩), .func (.func gd) #[] cd, .func (.func gl) #[] cl] w (Cmd w b (foot b m es) (cmdS F G d)) := by
  unfold cmdS
  by_cases hdn : d.p.down = true
  · rw [if_pos hdn]
    refine (command_down b m d.p d.cap (tot d.fs) es w hr hdn _ _).mono ?_
    rintro e w' ⟨rfl, rfl⟩
    exact ⟨rfl, _, ⟨⟨m, es, rfl, hr, hE⟩, hroom, hcap⟩, Turn.refl _ _⟩
  · rw [if_neg hdn]
    have hdn' : d.p.down = false := by simpa using hdn
    by_cases h1 : d.p.left = 1
    · rw [if_pos h1]
      refine (command_goes b m d.p d.cap (tot d.fs) es w hr hdn' h1 hst _ gl cl (fun w2 => ∃ S', DiskAt w2 b S' ⟨⟨d.p.steps + 1, 0, true⟩, d.cap, (G d.fs).2⟩ ∧ Turn (foot b m es) S' w w2) hel fun w1 hr1 ht1 => ?_).mono ?_
      · refine (hleave w1 _ hr1 ht1).mono ?_
        rintro e w2 hd
        obtain ⟨k1, k2⟩ := cmd_of _ G hG hcap hE ht1 hd
        exact ⟨⟨_, k1⟩, k2⟩
      · rintro e w' ⟨rfl, hq⟩
        exact ⟨rfl, hq⟩
    · rw [if_neg h1]
      refine (command_does b m d.p d.cap (tot d.fs) es w hr hdn' h1 hl hst gd cd _ (fun n w2 => n = (F d.fs).1 ∧ ∃ S', DiskAt w2 b S' ⟨⟨d.p.steps + 1, d.p.left - 1, false⟩, d.cap, (F d.fs).2⟩ ∧ Turn (foot b m es) S' w w2) hed fun w1 hr1 ht1 => ?_).mono ?_
      · refine (hdo w1 _ hr1 ht1).mono ?_
        rintro e w2 hd
        obtain ⟨k1, k2⟩ := cmd_of _ F hF hcap hE ht1 hd
        exact ⟨_, k1, rfl, k2⟩
      · rintro e w' ⟨n, rfl, rfl, hq⟩
        exact ⟨rfl, hq⟩
/-- a box of the call's own, in a later world -/
theorem box_later {w w1 : World} {S S' : List Nat} {g : Nat} {v : Value} {o : Nat} (hc : w.cell? ⟨g, o, none⟩ = some v) (ht : Turn S S' w w1) (hn : g ∉ S) : w1.cell? ⟨g, o, none⟩ = some v :=
  (World.cell?_of_block (a := ⟨g, o, none⟩) (ht.far g (World.block_lt_of_cell? w _ hc) hn).2).trans hc
theorem nothing_done (b m : Nat) (p : Pw) (cap : Nat) (es : Es) (w : World) (h : Raw w b m p cap (tot (er es)) es) : Calls Try.prog 47 #[] w (Done w b m p cap es (tot (idS (er es)).2) (idS (er es))) := by
  refine (nothing_any w).mono ?_
  rintro e w' ⟨rfl, rfl⟩
  exact ⟨rfl, es, h, rfl, Turn.refl _ _⟩
theorem Done.later {w w1 : World} {b m : Nat} {p : Pw} {cap u u' : Nat} {es : Es} {r : Int × Fs} {e : Ending} (h : Done w b m p cap es u r e w1) (he : u = u') : Done w b m p cap es u' r e w1 := he ▸ h

theorem tot_create (k : Nm) (fs : Fs) : tot (createS k fs).2 = tot fs := by
  unfold createS
  split
  · rfl
  · split
    · rfl
    · rename_i h
      split
      · rfl
      · have hn : omap.look fs k = none := by simpa using h
        unfold tot omap.put
        rw [del_fresh (look_none.1 hn), total_ins]
        simp
theorem tot_sync {k : Nm} {fs : Fs} (h : Rises lt fs) : tot (syncS k fs).2 = tot fs := by
  unfold syncS
  cases hk : omap.look fs k with
  | none => rfl
  | some f =>
    have := tot_del h hk
    simp only
    unfold tot at this ⊢
    unfold omap.put
    rw [total_ins]
    exact this
theorem tot_remove {k : Nm} {fs : Fs} (h : Rises lt fs) : tot (removeS k fs).2 ≤ tot fs := by
  unfold removeS
  cases hk : omap.look fs k with
  | none => exact Nat.le_refl _
  | some f =>
    have := tot_del h hk
    simp only
    omega
theorem tot_le_del (k : Nm) (fs : Fs) : tot (omap.del k fs) ≤ tot fs := by
  unfold tot total del
  induction fs with
  | nil => exact Nat.le_refl _
  | cons x l ih =>
    rw [List.filter_cons]
    split
    · simp only [List.map_cons, List.sum_cons]
      omega
    · simp only [List.map_cons, List.sum_cons]
      omega
theorem tot_rename {k j : Nm} {fs : Fs} (h : Rises lt fs) : tot (renameS k j fs).2 ≤ tot fs := by
  unfold renameS
  cases hk : omap.look fs k with
  | none => exact Nat.le_refl _
  | some f =>
    simp only
    split
    · exact Nat.le_refl _
    · split
      · exact Nat.le_refl _
      · rename_i hne
        have h1 : omap.look (omap.del j fs) k = some f := by rw [look_del, if_neg hne, hk]
        have h2 := tot_del (rises_del h) h1
        have h3 := tot_le_del j fs
        simp only
        unfold tot at h2 h3 ⊢
        unfold omap.put
        rw [total_ins, del_fresh fun x hx e1 => not_in_del _ _ x (mem_del.1 hx).1 e1]
        simp only
        omega
theorem tot_write {cap : Nat} {k : Nm} {l : List Nat} {fs : Fs} (h : Rises lt fs) (hc : tot fs ≤ cap) : tot (writeS cap k l fs).2 ≤ cap := by
  unfold writeS
  cases hk : omap.look fs k with
  | none => exact hc
  | some f =>
    simp only
    split
    · exact hc
    · have := tot_del h hk
      unfold tot at this hc ⊢
      unfold tot at *
      simp only
      unfold omap.put
      rw [total_ins]
      simp only [List.length_append]
      omega
end Go.Proofs.Ytpnhgongjfknbaa
