/-
  The contracts of a disk's inner commands: sync, remove, rename.
-/
import Derived.Test.YtpnhgongjfknbaaDkF
import Derived.Maps.OwnSet
namespace Go.Proofs.Ytpnhgongjfknbaa
open Go.RowKit omap

theorem put_same {α : Type} {l : List (Nm × α)} (h : Rises lt l) {k : Nm} {v : α} (hk : omap.look l k = some v) : put lt k v l = l := by
  induction l with
  | nil => cases hk
  | cons y l ih =>
    obtain ⟨h1, h2⟩ := List.pairwise_cons.1 h
    rw [look_cons] at hk
    unfold put at ih ⊢
    unfold del at ih ⊢
    by_cases hy : y.1 = k
    · rw [if_pos hy] at hk
      have hf : ∀ x ∈ l, x.1 ≠ k := fun x hx e => by
        have := ord.ne (h1 x hx)
        rw [hy, e] at this
        exact this rfl
      have := del_fresh hf
      unfold del at this
      rw [List.filter_cons, if_neg (by simp [hy]), this]
      obtain ⟨y1, y2⟩ := y
      simp only at hy hk h1
      rw [← hy, ← Option.some.inj hk]
      cases l with
      | nil => rfl
      | cons z l =>
        unfold ins
        rw [if_pos (h1 z List.mem_cons_self)]
    · rw [if_neg hy] at hk
      rw [List.filter_cons, if_pos (by simp [hy])]
      unfold ins
      have hlt : lt k y.1 = false := by
        have := h1 (k, v) (look_mem hk)
        exact ord.asymm this
      rw [if_neg (by rw [hlt]; simp), ih h2 hk]
/-- a file is another one, in its place -/
theorem Raw.upd {w w' : World} {b m : Nat} {p : Pw} {cap used : Nat} {es : Es} (h : Raw w b m p cap used es) {k : Nm} {e e' : Ent} (hk : omap.look es k = some e) (hg : e'.g = e.g) (hf : FileAt w' e')
    (hvo : ∀ g, e'.v.ownBlock = some g → e.v.ownBlock = some g ∨ w.heap.size ≤ g) (ht : Turn e.own e'.own w w') :
    Raw w' b m p cap used (omap.put lt k e' es) ∧ Turn (foot b m es) (foot b m (omap.put lt k e' es)) w w' := by
  obtain ⟨s1, s2, s3⟩ := h.split hk
  have hsame : ∀ g ∈ foot b m (omap.del k es), w'.heap[g]? = w.heap[g]? := fun g hgf => by
    have hlt : g < w.heap.size := by
      rcases List.mem_cons.1 hgf with e | hf
      · exact e ▸ h.blk.inside
      rcases List.mem_cons.1 hf with e | hf
      · exact e ▸ h.map.inside
      · exact h.inside g (foot_owned (owned_del_sub _ hf))
    exact (ht.far g hlt (fun he => s2 g he hgf)).2
  have hfar : ∀ g ∈ e'.own, g ∉ foot b m (omap.del k es) := fun g hge hgf => by
    have hin : g < w.heap.size := by
      rcases List.mem_cons.1 hgf with e | hf
      · exact e ▸ h.blk.inside
      rcases List.mem_cons.1 hf with e | hf
      · exact e ▸ h.map.inside
      · exact h.inside g (foot_owned (owned_del_sub _ hf))
    by_cases he : g ∈ e.own
    · exact s2 g he hgf
    · exact (ht.far g hin he).1 hge
  have hnd : e'.own.Nodup := by
    unfold Ent.own at s1 ⊢
    cases hv : e'.v.ownBlock with
    | none => simp
    | some g =>
      rw [hg]
      simp only [Option.toList_some, List.nodup_cons, List.mem_singleton, List.not_mem_nil, not_false_eq_true, List.nodup_nil, and_self, and_true]
      intro e1
      rcases hvo g hv with h1 | h1
      · rw [h1] at s1
        simp [e1] at s1
      · have := (h.file hk).blk.inside
        omega
  have hr : Raw w' b m p cap used (omap.put lt k e' es) := by
    refine h.put (h.blk.stays (hsame b (foot_mem_b b m _))) ?_ hf hnd hfar fun g hgo => hsame g (foot_owned hgo)
    rw [bl_put, hg, put_same h.map.rises (by rw [bl_look, hk]; rfl)]
    exact h.map.stays (hsame m (foot_mem_m b m _))
  refine ⟨hr, ht.os, ht.tape, ht.output, ht.size, fun g hg hn => ?_⟩
  have hne : g ∉ e.own := fun he => hn (foot_owned (s3 g he))
  refine ⟨fun hf => ?_, (ht.far g hg hne).2⟩
  have hp : (omap.put lt k e' es).Perm ((k, e') :: omap.del k es) := ins_perm lt k _ _
  rw [((foot_perm b m hp).mem_iff)] at hf
  rcases List.mem_cons.1 hf with e | hf
  · exact hn (e ▸ foot_mem_b b m es)
  rcases List.mem_cons.1 hf with e | hf
  · exact hn (e ▸ foot_mem_m b m es)
  rw [owned_cons] at hf
  rcases List.mem_append.1 hf with hf | hf
  · exact (ht.far g hg hne).1 hf
  · exact hn (foot_owned (owned_del_sub _ hf))
def syncS (k : Nm) (fs : Fs) : Int × Fs := match omap.look fs k with | none => (14, fs) | some f => (0, put lt k ⟨f.l, f.l.length⟩ fs)
set_option maxHeartbeats 1000000 in
theorem sync_any (b m : Nat) (p : Pw) (cap used : Nat) (es : Es) (s : ByteArray) (w : World) (h : Raw w b m p cap used es) (hs : s.size ≤ 1000) :
    Calls Try.prog 39 #[.pointer (some ⟨b, 0, none⟩), .string s] w (Done w b m p cap es used (syncS s.data.toList (er es))) := by
  have hs3 : Hid (s.size ≤ maxLen) := by show _ ≤ _; unfold maxLen; omega
  have HR := Lib.hid h
  obtain ⟨_, _, _, _, _, c5⟩ := h.cells
  have hlk := h.map.lookup hs3.out
  rw [bl_look] at hlk
  unfold syncS
  rw [er_look]
  clear h hs
  cases hk : omap.look es s.data.toList with
  | none =>
    rw [hk] at hlk
    simp only [Option.map_none, ptrTo] at hlk ⊢
    clear hk
    go_enter Try.func39, Try.ntmps39
    go_wp2_with (fail)
    go_ret
    exact ⟨rfl, es, HR.out, rfl, Turn.refl _ _⟩
  | some e =>
    rw [hk] at hlk
    simp only [Option.map_some, ptrTo] at hlk ⊢
    have hf := HR.out.file hk
    obtain ⟨g, v, l, y⟩ := e
    have f0 := hf.blk.cell 0
    have f1 := hf.blk.cell 1
    have fr := hf.blk.free 1
    obtain ⟨a, c, hv, hp, ha, _⟩ := hf.own.part hf.bytes
    simp only at hv hlk f0 f1 fr hp
    subst hv
    simp only [List.getElem?_cons_zero, List.getElem?_cons_succ] at f0 f1
    have hu := HR.out.upd (w' := w.setCell ⟨g, 1, none⟩ (.int .i64 (l.length : Nat))) hk (e' := ⟨g, .slice a l.length c, ⟨l, l.length⟩⟩) rfl
      ⟨hf.blk.set 1 _, hf.own.stays fun k hkk => heap_setCell_other _ _ _ _ (fun e => by
        have := (HR.out.split hk).1
        simp only at e hkk
        subst e
        simp [Ent.own, hkk] at this), hf.bytes, Nat.le_refl _⟩ (fun _ h => .inl h) (Turn.set (a := ⟨g, 1, none⟩) (by simp [Ent.own]) _)
    have HU := Lib.hid hu
    have HK := Lib.hid hk
    clear hu hk hf hp ha
    go_enter Try.func39, Try.ntmps39
    go_wp2_with (fail)
    go_ret
    exact ⟨rfl, _, HU.out.1, er_put _ _ _, HU.out.2⟩

/-- a delete whose run is known -/
theorem wpList_delete_run {P : Program} {ops : Array Oper} {rest : List Oper} {o : Oper} {a : Act} {Q : Exit → Act → World → Prop} {w : World} (hgd : Region.wanted o (yielded ops a.tmps) = true) (s x : Operand) (t t2 : TypeId)
    (ho : o.op = .call { callee := .builtin .delete, args := #[s, x], argTypes := #[t, t2] }) (sv xv : Value) (w' : World) (hs : a.eval s = sv) (hx : a.eval x = xv)
    (hrun : (Builtin.delete_ #[t, t2] o.type #[sv, xv]).run P w = .ok (.tuple #[]) w') (h : wpList P ops Q rest (a.put o.dst (.tuple #[])) w') : wpList P ops Q (o :: rest) a w := by
  unfold wpList
  rw [if_pos hgd]
  refine .inl ?_
  unfold Oper.wp execOp
  simp only [ho, resolve, invoke, builtin, Sem.run_bind, Sem.run_pure, Result.andThen_ok, List.map_toArray, List.map_cons, List.map_nil, hs, hx, hrun]
  exact h
/-- how many bytes all have -/
def tot (fs : Fs) : Nat := omap.total (fun x => x.2.l.length) fs
def removeS (k : Nm) (fs : Fs) : Int × Fs := match omap.look fs k with | none => (14, fs) | some _ => (0, omap.del k fs)
theorem tot_del {fs : Fs} (h : Rises lt fs) {k : Nm} {f : Fl} (hk : omap.look fs k = some f) : f.l.length + tot (omap.del k fs) = tot fs := total_del ord (fun x : Nm × Fl => x.2.l.length) h hk
theorem rises_er {es : Es} : Rises lt (er es) ↔ Rises lt es := rises_mapv Ent.f
/-- an entry is gone from the map -/
theorem Raw.drop {w w' : World} {b m : Nat} {p : Pw} {cap used : Nat} {es : Es} (h : Raw w b m p cap used es) (k : Nm) (hm : MapAt w' m (omap.del k (bl es))) (hg : w.grownBy w' (some m)) :
    Raw w' b m p cap used (omap.del k es) ∧ Turn (foot b m es) (foot b m (omap.del k es)) w w' := by
  have hsame : ∀ g, g < w.heap.size → g ≠ m → w'.heap[g]? = w.heap[g]? := fun g hlt hne => hg.block g hlt (fun e => hne (Option.some.inj e))
  refine ⟨h.del (h.blk.stays (hsame b h.blk.inside h.bm)) (by rw [bl_del]; exact hm) fun g hgo => hsame g (h.inside g (foot_owned (owned_del_sub g hgo))) fun e => h.m_owned (e ▸ owned_del_sub g hgo), hg.os, hg.tape, hg.output, hg.size, fun g hlt hn => ⟨fun hf => hn ?_, hsame g hlt fun e => hn (e ▸ foot_mem_m b m es)⟩⟩
  rcases List.mem_cons.1 hf with e | hf
  · exact e ▸ foot_mem_b b m es
  rcases List.mem_cons.1 hf with e | hf
  · exact e ▸ foot_mem_m b m es
  · exact foot_owned (owned_del_sub _ hf)
/-- what remove leaves -/
def Gone (w : World) (b m : Nat) (p : Pw) (cap : Nat) (es : Es) (k : Nm) (e : Ending) (w' : World) : Prop :=
  e = .returned (.int .i64 (removeS k (er es)).1) ∧ Raw w' b m p cap (tot (er (omap.del k es))) (omap.del k es) ∧ Turn (foot b m es) (foot b m (omap.del k es)) w w'
theorem del_none {es : Es} {k : Nm} (h : omap.look es k = none) : omap.del k es = es := del_fresh (look_none.1 h)
theorem removeS_er (es : Es) (k : Nm) : (removeS k (er es)).2 = er (omap.del k es) := by
  unfold removeS
  rw [er_look]
  cases hk : omap.look es k with
  | none => rw [del_none hk]; rfl
  | some e => rw [er_del]; rfl
theorem Gone.done {w : World} {b m : Nat} {p : Pw} {cap : Nat} {es : Es} {k : Nm} {e : Ending} {w' : World} (h : Gone w b m p cap es k e w') : Done w b m p cap es (tot (removeS k (er es)).2) (removeS k (er es)) e w' :=
  ⟨h.1, _, by rw [removeS_er]; exact h.2.1, (removeS_er es k).symm, h.2.2⟩
set_option maxHeartbeats 1000000 in
theorem remove_any (b m : Nat) (p : Pw) (cap used : Nat) (es : Es) (s : ByteArray) (w : World) (h : Raw w b m p cap used es) (hs : s.size ≤ 1000) (hu : used = tot (er es)) (hb : used ≤ 67108864) :
    Calls Try.prog 51 #[.pointer (some ⟨b, 0, none⟩), .string s] w (Gone w b m p cap es s.data.toList) := by
  have hs3 : Hid (s.size ≤ maxLen) := by show _ ≤ _; unfold maxLen; omega
  have HR := Lib.hid h
  obtain ⟨_, _, _, _, c4, c5⟩ := h.cells
  have hlk := h.map.lookup hs3.out
  rw [bl_look] at hlk
  cases hk : omap.look es s.data.toList with
  | none =>
    rw [hk] at hlk
    simp only [Option.map_none, ptrTo] at hlk
    have HX : Hid (Gone w b m p cap es s.data.toList (.returned (.int .i64 14)) w) := by
      refine ⟨?_, ?_, ?_⟩
      · unfold removeS
        rw [er_look, hk]
        rfl
      · rw [del_none hk, ← hu]
        exact h
      · rw [del_none hk]
        exact Turn.refl _ _
    clear hk h hs hu hb
    go_enter Try.func51, Try.ntmps51
    go_wp2_with (fail)
    go_ret
    exact HX.out
  | some e =>
    rw [hk] at hlk
    simp only [Option.map_some, ptrTo] at hlk
    have hf := h.file hk
    have ht := tot_del (rises_er.2 h.rises) (k := s.data.toList) (f := e.f) (by rw [er_look, hk]; rfl)
    obtain ⟨g, v, l, y⟩ := e
    have f0 := hf.blk.cell 0
    obtain ⟨a, c, hv, _⟩ := hf.own.part hf.bytes
    simp only at hv hlk f0 ht
    subst hv
    simp only [List.getElem?_cons_zero] at f0
    have fr := h.blk.free 4
    obtain ⟨u', hu'⟩ : ∃ u', u' = tot (er (omap.del s.data.toList es)) := ⟨_, rfl⟩
    rw [← er_del, ← hu'] at ht
    have e1 : (used : Int) - (l.length : Int) = (u' : Int) := by omega
    have hr := h.set (p' := p) (cap' := cap) (used' := u') 4 (.int .i64 (u' : Nat)) rfl
    have hr2 := hr.below ((Below.refl _ _).drew)
    obtain ⟨w2, hrun, hm2, hg2⟩ := hr2.map.drop hs3.out 0
    obtain ⟨r1, r2⟩ := hr2.drop _ hm2 hg2
    have HX : Hid (Gone w b m p cap es s.data.toList (.returned (.int .i64 0)) w2) := by
      refine ⟨?_, ?_, ((Turn.set (foot_mem_b b m es) _).trans (Turn.below ((Below.refl _ _).drew))).trans r2⟩
      · unfold removeS
        rw [er_look, hk]
        rfl
      · rw [← hu']
        exact r1
    have hub : (used : Int) ≤ 67108864 := by omega
    have c5' := hr.cells.2.2.2.2.2
    clear hm2 hg2 r1 r2 hr hr2 ht hu hu' hf hk h hs hb
    go_enter Try.func51, Try.ntmps51
    go_wp2_with (fail)
    go_region
    go_wp2_with (at_delete; refine wpList_delete_run rfl _ _ 58 9 rfl _ _ _ rfl rfl hrun ?_)
    go_ret
    exact HX.out

/-- a file under another name -/
theorem Raw.move {w w3 w4 : World} {b m : Nat} {p : Pw} {cap used : Nat} {es : Es} (h : Raw w b m p cap used es) {k j : Nm} {e : Ent} (hk : omap.look es k = some e) (hj : omap.look es j = none)
    (hg3 : w.grownBy w3 (some m)) (hm4 : MapAt w4 m (omap.put lt j e.g (omap.del k (bl es)))) (ht4 : Turn [m] [m] w3 w4) :
    Raw w4 b m p cap used (omap.put lt j e (omap.del k es)) ∧ Turn (foot b m es) (foot b m (omap.put lt j e (omap.del k es))) w w4 := by
  obtain ⟨_, _, s3⟩ := h.split hk
  have hsame : ∀ g, g < w.heap.size → g ≠ m → w4.heap[g]? = w.heap[g]? := fun g hlt hne =>
    ((ht4.far g (Nat.lt_of_lt_of_le hlt hg3.size) (by simpa using hne)).2).trans (hg3.block g hlt (fun e => hne (Option.some.inj e)))
  have hin : ∀ g ∈ owned es, g < w.heap.size ∧ g ≠ m := fun g hg => ⟨h.inside g (foot_owned hg), fun e => h.m_owned (e ▸ hg)⟩
  have hfe : FileAt w4 e := (h.file hk).stays fun g hg => hsame g (hin g (s3 g hg)).1 (hin g (s3 g hg)).2
  have hap : (foot b m (omap.put lt j e (omap.del k es))).Perm (foot b m es) := by
    have hp : (omap.put lt j e (omap.del k es)).Perm ((j, e) :: omap.del j (omap.del k es)) := ins_perm lt j _ _
    have hd : omap.del j (omap.del k es) = omap.del k es := del_fresh fun x hx e1 => (look_none.1 hj) x (mem_del.1 hx).1 e1
    rw [hd] at hp
    refine (foot_perm b m hp).trans ?_
    refine List.Perm.trans ?_ (foot_perm b m (look_perm ord h.rises hk)).symm
    exact List.Perm.refl _
  refine ⟨⟨h.blk.stays (hsame b h.blk.inside h.bm), by rw [bl_put, bl_del]; exact hm4, fun x hx => ?_, hap.nodup_iff.2 h.apart⟩, ?_⟩
  · rcases List.mem_cons.1 ((ins_perm lt j e (omap.del j (omap.del k es))).mem_iff.1 hx) with rfl | hx
    · exact hfe
    · have hx' := (mem_del.1 (mem_del.1 hx).1).1
      exact (h.files x hx').stays fun g hg => by
        obtain ⟨h1, h2⟩ := hin g (mem_owned.2 ⟨x, hx', hg⟩)
        exact hsame g h1 h2
  · refine ⟨ht4.os.trans hg3.os, ht4.tape.trans hg3.tape, ht4.output.trans hg3.output, Nat.le_trans hg3.size ht4.size, fun g hlt hn => ⟨fun hf => hn (hap.mem_iff.1 hf), hsame g hlt fun e => hn (e ▸ foot_mem_m b m es)⟩⟩

def renameS (k j : Nm) (fs : Fs) : Int × Fs :=
  match omap.look fs k with
  | none => (14, fs)
  | some f => if nameB j = false then (25, fs) else if k = j then (0, fs) else (0, put lt j f (omap.del k (omap.del j fs)))
set_option maxHeartbeats 1000000 in
theorem rename_any (b m : Nat) (p : Pw) (cap used : Nat) (es : Es) (s t : ByteArray) (w : World) (h : Raw w b m p cap used es) (hs : s.size ≤ 1000) (ht : t.size ≤ 1000) (hu : used = tot (er es)) (hb : used ≤ 67108864) :
    Calls Try.prog 53 #[.pointer (some ⟨b, 0, none⟩), .string s, .string t] w (Done w b m p cap es (tot (renameS s.data.toList t.data.toList (er es)).2) (renameS s.data.toList t.data.toList (er es))) := by
  have hs3 : Hid (s.size ≤ maxLen) := by show _ ≤ _; unfold maxLen; omega
  have ht3 : Hid (t.size ≤ maxLen) := by show _ ≤ _; unfold maxLen; omega
  have HT := Lib.hid ht
  have HR := Lib.hid h
  have HU := Lib.hid hu
  have HUB := Lib.hid hb
  obtain ⟨_, _, _, _, c4, c5⟩ := h.cells
  have hlk := h.map.lookup hs3.out
  rw [bl_look] at hlk
  have hN := name_any t w ht3.out
  unfold renameS
  rw [er_look]
  cases hk : omap.look es s.data.toList with
  | none =>
    rw [hk] at hlk
    simp only [Option.map_none, ptrTo] at hlk ⊢
    rw [← hu]
    clear hk h hs hu hb hN ht
    go_enter Try.func53, Try.ntmps53
    go_wp2_with (fail)
    go_ret
    exact ⟨rfl, es, HR.out, rfl, Turn.refl _ _⟩
  | some e =>
    rw [hk] at hlk
    simp only [Option.map_some, ptrTo] at hlk ⊢
    have HK := Lib.hid hk
    have hstill : ∀ (w1 : World) (n : Int), Below w.heap.size w w1 → Done w b m p cap es (tot (er es)) (n, er es) (.returned (.int .i64 n)) w1 := fun w1 n hb => ⟨rfl, es, hu ▸ h.below hb, rfl, Turn.below hb⟩
    have HST := Lib.hid hstill
    clear hk h hs hu hb ht hstill
    cases hn : nameB t.data.toList with
    | false =>
      rw [hn] at hN
      simp only [if_true]
      clear hn
      go_enter Try.func53, Try.ntmps53
      go_wp2_with (fail)
      refine hN.mono ?_
      rintro e w1 ⟨rfl, hb⟩
      have HB := Lib.hid hb
      clear hb hN
      go_wp2_with (fail)
      go_ret
      exact HST.out _ _ HB.out
    | true =>
      rw [hn] at hN
      simp only [Bool.true_eq_false, if_false]
      clear hn
      by_cases hst : s.data.toList = t.data.toList
      · rw [if_pos hst]
        have he : s = t := by
          cases s with
          | mk a => cases t with
            | mk b' => exact congrArg ByteArray.mk (Array.toList_inj.1 hst)
        have te : (s.toList == t.toList) = true := by rw [he]; simp
        clear hst he
        go_enter Try.func53, Try.ntmps53
        go_wp2_with (fail)
        refine hN.mono ?_
        rintro e w1 ⟨rfl, hb⟩
        have HB := Lib.hid hb
        clear hb hN
        go_wp2_with (fail)
        go_ret
        exact HST.out _ _ HB.out
      · rw [if_neg hst]
        have te : (s.toList == t.toList) = false := by
          rw [beq_eq_false_iff_ne]
          exact fun e => hst (by rw [← ByteArray.toList_eq, ← ByteArray.toList_eq, e])
        have HNE := Lib.hid hst
        clear hst
        go_enter Try.func53, Try.ntmps53
        go_wp2_with (fail)
        refine hN.mono ?_
        rintro r w1 ⟨rfl, hb⟩
        have h1 := HR.out.below hb
        have HB := Lib.hid hb
        clear hb hN
        go_wp2_with (fail)
        refine (remove_any b m p cap used es t w1 h1 HT.out HU.out HUB.out).mono ?_
        rintro r w2 ⟨rfl, h2, t2⟩
        have hk2 : omap.look (omap.del t.data.toList es) s.data.toList = some e := by rw [look_del, if_neg HNE.out, HK.out]
        have hj2 : omap.look (omap.del t.data.toList es) t.data.toList = none := by rw [look_del, if_pos rfl]
        obtain ⟨w3, hrun, hm3, hg3⟩ := h2.map.drop hs3.out 0
        obtain ⟨r3, t3⟩ := h2.drop _ hm3 hg3
        have HR3 := Lib.hid r3
        have HM3 := Lib.hid hm3
        have HG3 := Lib.hid hg3
        have HR2 := Lib.hid h2
        have HT2 := Lib.hid ((Turn.below HB.out).trans t2)
        have HK2 := Lib.hid hk2
        have HJ2 := Lib.hid hj2
        have c52 := h2.cells.2.2.2.2.2
        have hfew : Hid ((omap.put lt t.data.toList e.g (omap.del s.data.toList (bl (omap.del t.data.toList es)))).length ≤ 1073741824) := by
          show _ ≤ _
          unfold omap.put
          rw [length_ins]
          have h3 := length_del ord h2.map.rises (k := s.data.toList) (v := e.g) (by rw [bl_look, hk2]; rfl)
          have h4 := h2.map.few
          have h5 : (omap.del t.data.toList (omap.del s.data.toList (bl (omap.del t.data.toList es)))).length ≤ (omap.del s.data.toList (bl (omap.del t.data.toList es))).length := List.length_filter_le _ _
          omega
        clear h1 h2 t2 hk2 hj2 hm3 hg3 r3 t3
        go_wp2_with (at_delete; refine wpList_delete_run rfl _ _ 58 9 rfl _ _ _ rfl rfl hrun ?_)
        have c53 := HR3.out.cells.2.2.2.2.2
        refine (put_any b m (omap.del s.data.toList (bl (omap.del t.data.toList es))) t e.g w3 c53 HR3.out.bm HM3.out HT.out hfew.out).mono ?_
        rintro r w4 ⟨rfl, hm4, ht4⟩
        obtain ⟨m1, m2⟩ := HR2.out.move HK2.out HJ2.out HG3.out hm4 ht4
        have HX : Hid (Done w b m p cap es (tot (er (omap.del t.data.toList es))) (0, omap.put lt t.data.toList e.f (omap.del s.data.toList (omap.del t.data.toList (er es)))) (.returned (.int .i64 0)) w4) :=
          ⟨rfl, _, m1, by rw [er_put, er_del, er_del], HT2.out.trans m2⟩
        have hE : tot (omap.put lt t.data.toList e.f (omap.del s.data.toList (omap.del t.data.toList (er es)))) = tot (er (omap.del t.data.toList es)) := by
          have h1 : omap.look (omap.del t.data.toList (er es)) s.data.toList = some e.f := by rw [← er_del, er_look, HK2.out]; rfl
          have h2 := tot_del (rises_del (rises_er.2 HR.out.rises)) h1
          rw [er_del, ← h2]
          unfold tot omap.put
          rw [total_ins, del_fresh fun x hx e1 => not_in_del _ _ x (mem_del.1 hx).1 e1]
        have HE := Lib.hid hE
        clear hm4 ht4 m1 m2 hE
        go_wp2_with (fail)
        go_ret
        rw [HE.out]
        exact HX.out
end Go.Proofs.Ytpnhgongjfknbaa
