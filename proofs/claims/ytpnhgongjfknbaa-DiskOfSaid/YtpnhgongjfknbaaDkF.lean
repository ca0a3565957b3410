/-
  The contracts of a disk's inner commands: create, sync, remove, rename.
-/
import Derived.Test.YtpnhgongjfknbaaDkE
namespace Go.Proofs.Ytpnhgongjfknbaa
open Go.RowKit omap

abbrev Fs := List (Nm × Fl)
/-- what an inner command leaves -/
def Done (w : World) (b m : Nat) (p : Pw) (cap : Nat) (es : Es) (used' : Nat) (r : Int × Fs) (e : Ending) (w' : World) : Prop :=
  e = .returned (.int .i64 r.1) ∧ ∃ es', Raw w' b m p cap used' es' ∧ er es' = r.2 ∧ Turn (foot b m es) (foot b m es') w w'
def createS (k : Nm) (fs : Fs) : Int × Fs :=
  if nameB k = false then (25, fs) else if (omap.look fs k).isSome = true then (15, fs) else if 1024 ≤ fs.length then (12, fs) else (0, put lt k ⟨[], 0⟩ fs)
theorem foot_mem_b (b m : Nat) (es : Es) : b ∈ foot b m es := List.mem_cons_self
theorem foot_mem_m (b m : Nat) (es : Es) : m ∈ foot b m es := by simp [foot]
theorem foot_owned {b m : Nat} {es : Es} {g : Nat} (h : g ∈ owned es) : g ∈ foot b m es := List.mem_cons_of_mem _ (List.mem_cons_of_mem _ h)
theorem Raw.bm {w : World} {b m : Nat} {p : Pw} {cap used : Nat} {es : Es} (h : Raw w b m p cap used es) : b ≠ m := by
  have := (List.nodup_cons.1 h.apart).1
  intro e
  exact this (by simp [e])
theorem Raw.b_owned {w : World} {b m : Nat} {p : Pw} {cap used : Nat} {es : Es} (h : Raw w b m p cap used es) : b ∉ owned es := by
  have := (List.nodup_cons.1 h.apart).1
  exact fun hm => this (List.mem_cons_of_mem _ hm)
theorem Raw.m_owned {w : World} {b m : Nat} {p : Pw} {cap used : Nat} {es : Es} (h : Raw w b m p cap used es) : m ∉ owned es := (List.nodup_cons.1 (List.nodup_cons.1 h.apart).2).1
/-- a new file -/
theorem Raw.create {w w' : World} {b m : Nat} {p : Pw} {cap used : Nat} {es : Es} (h : Raw w b m p cap used es) (k : Nm) (T : TypeId)
    (hm : MapAt w' m (omap.put lt k w.heap.size (bl es))) (ht : Turn [m] [m] (w.alloc (.cells #[.slice none 0 0, .int .i64 0] T)) w') :
    Raw w' b m p cap used (omap.put lt k ⟨w.heap.size, .slice none 0 0, ⟨[], 0⟩⟩ es) ∧ Turn (foot b m es) (foot b m (omap.put lt k ⟨w.heap.size, .slice none 0 0, ⟨[], 0⟩⟩ es)) w w' := by
  have ha := h.alloc (.cells #[.slice none 0 0, .int .i64 0] T)
  have hsame : ∀ g, g < w.heap.size → g ≠ m → w'.heap[g]? = w.heap[g]? := fun g hg hgm => ((ht.far g (by simp; omega) (by simpa using hgm)).2).trans (Below.heap_alloc _ _ _ hg)
  have hown : ∀ g ∈ owned es, g < w.heap.size ∧ g ≠ m := fun g hg => ⟨h.inside g (foot_owned hg), fun e => h.m_owned (e ▸ hg)⟩
  have hnm : w.heap.size ≠ m := fun e => by have := h.map.inside; omega
  have hnew : w'.heap[w.heap.size]? = some (.cells #[.slice none 0 0, .int .i64 0] T) := ((ht.far _ (by simp) (by simpa using hnm)).2).trans (heap_alloc_new w _)
  have hr : Raw w' b m p cap used (omap.put lt k ⟨w.heap.size, .slice none 0 0, ⟨[], 0⟩⟩ es) := by
    refine h.put (h.blk.stays (hsame b h.blk.inside h.bm)) (by rw [bl_put]; exact hm) ⟨⟨T, hnew⟩, own_nil _ _, AreBytes.nil, Nat.le_refl _⟩ (by simp [Ent.own, Value.ownBlock]) (fun g hg hf => ?_) fun g hg => ?_
    · have : g = w.heap.size := by simpa [Ent.own, Value.ownBlock] using hg
      subst this
      have := h.inside w.heap.size (by
        rcases List.mem_cons.1 hf with e | hf
        · exact e ▸ foot_mem_b b m es
        rcases List.mem_cons.1 hf with e | hf
        · exact e ▸ foot_mem_m b m es
        · exact foot_owned (owned_del_sub _ hf))
      omega
    · obtain ⟨h1, h2⟩ := hown g (owned_del_sub g hg)
      exact hsame g h1 h2
  refine ⟨hr, ht.os, ht.tape, ht.output, ?_, fun g hg hn => ⟨fun hf => ?_, ?_⟩⟩
  · have := ht.size
    simp at this
    omega
  · have hp : (omap.put lt k ⟨w.heap.size, .slice none 0 0, ⟨[], 0⟩⟩ es).Perm ((k, (⟨w.heap.size, .slice none 0 0, ⟨[], 0⟩⟩ : Ent)) :: omap.del k es) := ins_perm lt k _ _
    rw [((foot_perm b m hp).mem_iff)] at hf
    rcases List.mem_cons.1 hf with e | hf
    · exact hn (e ▸ foot_mem_b b m es)
    rcases List.mem_cons.1 hf with e | hf
    · exact hn (e ▸ foot_mem_m b m es)
    rw [owned_cons] at hf
    rcases List.mem_append.1 hf with hf | hf
    · have : g = w.heap.size := by simpa [Ent.own, Value.ownBlock] using hf
      omega
    · exact hn (foot_owned (owned_del_sub _ hf))
  · exact hsame g hg (fun e => hn (e ▸ foot_mem_m b m es))
theorem er_length (es : Es) : (er es).length = es.length := mapv_length _ _
theorem bl_length (es : Es) : (bl es).length = es.length := mapv_length _ _
theorem length_put_le {κ α : Type} [DecidableEq κ] (lt : κ → κ → Bool) (k : κ) (v : α) (l : List (κ × α)) : (put lt k v l).length ≤ l.length + 1 := by
  unfold put
  rw [length_ins]
  have := List.length_filter_le (fun x : κ × α => decide (x.1 ≠ k)) l
  unfold del
  omega
set_option maxHeartbeats 1000000 in
theorem create_any (b m : Nat) (p : Pw) (cap used : Nat) (es : Es) (s : ByteArray) (w : World) (h : Raw w b m p cap used es) (hs : s.size ≤ 1000) :
    Calls Try.prog 37 #[.pointer (some ⟨b, 0, none⟩), .string s] w (Done w b m p cap es used (createS s.data.toList (er es))) := by
  have hs3 : Hid (s.size ≤ maxLen) := by show _ ≤ _; unfold maxLen; omega
  have HS := Lib.hid hs
  have HR := Lib.hid h
  have hN := name_any s w hs3.out
  have hlook : (omap.look (er es) s.data.toList).isSome = (omap.look (bl es) s.data.toList).isSome := by rw [er_look, bl_look, Option.isSome_map, Option.isSome_map]
  have hstill : ∀ (w1 : World) (n : Int), Below w.heap.size w w1 → Done w b m p cap es used (n, er es) (.returned (.int .i64 n)) w1 := fun w1 n hb => ⟨rfl, es, h.below hb, rfl, Turn.below hb⟩
  have HST := Lib.hid hstill
  unfold createS
  clear h hs hstill
  by_cases hn : nameB s.data.toList = false
  · rw [if_pos hn]
    rw [hn] at hN
    clear hn hlook
    go_enter Try.func37, Try.ntmps37
    go_wp2_with (fail)
    refine hN.mono ?_
    rintro e w1 ⟨rfl, hb⟩
    have HB := Lib.hid hb
    clear hb hN
    go_wp2_with (fail)
    go_ret
    exact HST.out _ _ HB.out
  · rw [if_neg hn, hlook]
    have hn' : nameB s.data.toList = true := by simpa using hn
    rw [hn'] at hN
    clear hn hn' hlook
    by_cases hk : (omap.look (bl es) s.data.toList).isSome = true
    · rw [if_pos hk]
      obtain ⟨g, hg⟩ := Option.isSome_iff_exists.1 hk
      have HG := Lib.hid hg
      clear hk hg
      go_enter Try.func37, Try.ntmps37
      go_wp2_with (fail)
      refine hN.mono ?_
      rintro e w1 ⟨rfl, hb⟩
      have h1 := HR.out.below hb
      obtain ⟨_, _, _, _, _, c5⟩ := h1.cells
      have hlk := h1.map.lookup hs3.out
      rw [HG.out] at hlk
      simp only [ptrTo] at hlk
      have HB := Lib.hid hb
      clear hb hN h1
      go_wp2_with (fail)
      go_ret
      exact HST.out _ _ HB.out
    · rw [if_neg hk, er_length]
      have hg : omap.look (bl es) s.data.toList = none := by simpa using hk
      have HG := Lib.hid hg
      clear hk hg
      by_cases hf : 1024 ≤ es.length
      · rw [if_pos hf]
        go_enter Try.func37, Try.ntmps37
        go_wp2_with (fail)
        refine hN.mono ?_
        rintro e w1 ⟨rfl, hb⟩
        have h1 := HR.out.below hb
        obtain ⟨_, _, _, _, _, c5⟩ := h1.cells
        have hlk := h1.map.lookup hs3.out
        rw [HG.out] at hlk
        simp only [ptrTo] at hlk
        have hlen := fun ty => h1.map.len ty
        rw [bl_length] at hlen
        have t1 : decide ((1024 : Int) ≤ (es.length : Int)) = true := by simp; omega
        have HB := Lib.hid hb
        clear hb hN h1 hf
        go_wp2_with (fail)
        go_ret
        exact HST.out _ _ HB.out
      · rw [if_neg hf]
        go_enter Try.func37, Try.ntmps37
        go_wp2_with (fail)
        refine hN.mono ?_
        rintro e w1 ⟨rfl, hb⟩
        have h1 := HR.out.below hb
        obtain ⟨_, _, _, _, _, c5⟩ := h1.cells
        have hlk := h1.map.lookup hs3.out
        rw [HG.out] at hlk
        simp only [ptrTo] at hlk
        have hlen := fun ty => h1.map.len ty
        rw [bl_length] at hlen
        have t1 : decide ((1024 : Int) ≤ (es.length : Int)) = false := by simp; omega
        have HF : Hid (es.length < 1024) := by show _ < _; omega
        have HB := Lib.hid hb
        have H1 := Lib.hid h1
        clear hb hN h1 hf
        go_wp2_with (fail)
        have h2 := H1.out.alloc (.cells #[.slice none 0 0, .int .i64 0] 89)
        have hl := length_put_le lt s.data.toList w1.heap.size (bl es)
        rw [bl_length] at hl
        have := HF.out
        refine (put_any b m (bl es) s w1.heap.size _ h2.cells.2.2.2.2.2 h2.bm h2.map HS.out (by omega)).mono ?_
        rintro e w2 ⟨rfl, hm, ht⟩
        obtain ⟨r1, r2⟩ := H1.out.create s.data.toList 89 hm ht
        have HX : Hid (Done w b m p cap es used (0, put lt s.data.toList ⟨[], 0⟩ (er es)) (.returned (.int .i64 0)) w2) := ⟨rfl, _, r1, er_put _ _ _, (Turn.below HB.out).trans r2⟩
        clear hm ht r1 r2 h2 hl this
        go_wp2_with (fail)
        go_ret
        exact HX.out
end Go.Proofs.Ytpnhgongjfknbaa
