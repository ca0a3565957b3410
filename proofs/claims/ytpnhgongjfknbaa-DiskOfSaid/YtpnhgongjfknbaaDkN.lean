/-
  The contract of a file's copy.
-/
import Derived.Test.YtpnhgongjfknbaaDkM
namespace Go.Proofs.Ytpnhgongjfknbaa
open Go.RowKit omap

/-- a file's copy: a new block, new bytes -/
def Copied (w : World) (e : Ent) (r : Ending) (w' : World) : Prop :=
  Below w.heap.size w w' ∧ ∃ e' : Ent, r = .returned (.pointer (some ⟨e'.g, 0, none⟩)) ∧ FileAt w' e' ∧ e'.f = e.f ∧ e'.own.Nodup ∧ ∀ g ∈ e'.own, w.heap.size ≤ g
/-- a file of the call's own -/
def MadeFile (base : Nat) (l : List Nat) (s : Nat) (v : Value) (w : World) : Prop := ∃ g x, v = .pointer (some ⟨g, 0, none⟩) ∧ base ≤ g ∧ Blk w g [x, .int .i64 (s : Nat)] ∧ Own w base x l ∧ x.ownBlock ≠ some g
theorem MadeFile.mono (base : Nat) (l : List Nat) (s : Nat) (v : Value) (w w' : World) (h : MadeFile base l s v w) (hb : regs.bl w w') : MadeFile base l s v w' := by
  obtain ⟨g, x, h1, h2, h3, h4, h5⟩ := h
  exact ⟨g, x, h1, h2, h3.below' hb, h4.below hb, h5⟩
theorem file_made {w : World} {base : Nat} {x : Value} {l : List Nat} {s : Nat} (h : Own w base x l) (hb : base ≤ w.heap.size) (T : TypeId) : MadeFile base l s (.pointer (some ⟨w.heap.size, 0, none⟩)) (w.alloc (.cells #[x, .int .i64 (s : Nat)] T)) :=
  ⟨_, x, rfl, hb, ⟨T, heap_alloc_new w _⟩, h.below ((Below.refl _ _).alloc (Nat.le_refl _) _), fun e => by have := (h.block e).2; omega⟩
def sayOwn (base : Nat) (l : List Nat) : regs.Say regs.bl := ⟨fun v w => Own w base v l, fun _ _ _ h hb => Own.below h hb⟩
def sayPair (base : Nat) (l : List Nat) (s : Nat) : regs.Say regs.bl := ⟨fun v w => ∃ x, v = .agg #[x, .int .i64 (s : Nat)] ∧ Own w base x l, fun _ _ _ h hb => by
  obtain ⟨x, h1, h2⟩ := h
  exact ⟨x, h1, Own.below h2 hb⟩⟩
def sayFile (base : Nat) (l : List Nat) (s : Nat) : regs.Say regs.bl := ⟨fun v w => MadeFile base l s v w, MadeFile.mono base l s⟩
set_option maxRecDepth 100000 in
set_option maxHeartbeats 2000000 in
theorem copy_any (e : Ent) (w : World) (hf : FileAt w e) (hsz : e.f.l.length ≤ 67108864) :
    Calls Try.prog 40 #[.pointer (some ⟨e.g, 0, none⟩)] w (Copied w e) := by
  have HF := Lib.hid hf
  have f0 := hf.blk.cell 0
  have f1 := hf.blk.cell 1
  have hgl := hf.blk.inside
  obtain ⟨g, v, l, s⟩ := e
  obtain ⟨a0, c, hv, hp, _, hn⟩ := hf.own.part hf.bytes
  simp only [List.getElem?_cons_zero, List.getElem?_cons_succ] at f0 f1 hv hgl hsz hp
  subst hv
  have HN := Lib.hid hn
  have HP := Lib.hid hp.at_
  have F0 := Lib.hid f0
  have F1 := Lib.hid f1
  have HSZ : Hid (l.length ≤ 1099511627776) := by show _ ≤ _; omega
  clear hf hp hn hsz f0 f1
  go_enter Try.func40, Try.ntmps40
  go_wp2_with (fail)
  refine regs.wp_region_put (regs.bl) (regs.noJ) [3, 4, 5, 6, 7, 8, 9, 10, 11, 12, 13, 2] (by kernel_rfl) (by kernel_rfl) (fun _ => regs.bl_refl _) (regs.bl_trans) (fun i => (match i with
    | 0 => regs.Say.val _ (.pointer (some ⟨g, 0, none⟩))
    | 1 => regs.Say.val _ (.pointer (some ⟨g, 0, none⟩))
    | 2 => regs.Say.val _ (.pointer (some ⟨g, 0, none⟩))
    | 3 => regs.Say.val _ (.slice a0 l.length c)
    | 4 => sayOwn w.heap.size l
    | 5 => regs.Say.val _ (.pointer (some ⟨g, 0, none⟩))
    | 6 => regs.Say.val _ (.pointer (some ⟨g, 0, none⟩))
    | 7 => regs.Say.val _ (.pointer (some ⟨g, 1, none⟩))
    | 8 => regs.Say.val _ (.int .i64 (s : Nat))
    | 9 => sayPair w.heap.size l s
    | 10 => sayFile w.heap.size l s
    | 11 => sayFile w.heap.size l s
    | _ => regs.Say.any _ : regs.Say (regs.bl)).p) (fun _ => regs.Say.mono _) (by kernel_rfl) ((Below.refl _ _).drew) (regs.noJ_ok _ _) ⟨?_, ?_, ?_, ?_, ?_, ?_, ?_, ?_, ?_, ?_, ?_, ?_, trivial⟩ ?_
  · refine regs.StepOK.plain rfl fun L a w1 hh => ?_
    have h0 : a.tmps[0]?.getD undef = .pointer (some ⟨g, 0, none⟩) := by rw [← Array.getD_eq_getD_getElem?]; exact hh.old 0 rfl
    have hJ := Lib.hid hh.st
    clear hh
    go_simp
    exact ⟨_, rfl, regs.bl_refl _, rfl, hJ.out⟩
  · refine regs.StepOK.plain rfl fun L a w1 hh => ?_
    have h3 : a.tmps[3]?.getD undef = .pointer (some ⟨g, 0, none⟩) := by rw [← Array.getD_eq_getD_getElem?]; exact hh.dep 0 3 (by kernel_rfl) (by kernel_rfl)
    have hJ := Lib.hid hh.st
    clear hh
    go_simp
    exact ⟨_, rfl, regs.bl_refl _, rfl, hJ.out⟩
  · refine regs.StepOK.plain rfl fun L a w1 hh => ?_
    have h4 : a.tmps[4]?.getD undef = .pointer (some ⟨g, 0, none⟩) := by rw [← Array.getD_eq_getD_getElem?]; exact hh.dep 1 4 (by kernel_rfl) (by kernel_rfl)
    have hJ := Lib.hid hh.st
    clear hh
    go_simp
    exact ⟨_, rfl, regs.bl_refl _, rfl, hJ.out⟩
  · refine regs.StepOK.plain rfl fun L a w1 hh => ?_
    have h5 : a.tmps[5]?.getD undef = .pointer (some ⟨g, 0, none⟩) := by rw [← Array.getD_eq_getD_getElem?]; exact hh.dep 2 5 (by kernel_rfl) (by kernel_rfl)
    have f0 := ((show Below w.heap.size w w1 from hh.rel).cell (p := ⟨g, 0, none⟩) hgl).trans F0.out
    have hJ := Lib.hid hh.st
    clear hh
    go_simp
    exact ⟨_, rfl, regs.bl_refl _, rfl, hJ.out⟩
  · refine regs.StepOK.plain rfl fun L a w1 hh => ?_
    have h6 : a.tmps[6]?.getD undef = .slice a0 l.length c := by rw [← Array.getD_eq_getD_getElem?]; exact hh.dep 3 6 (by kernel_rfl) (by kernel_rfl)
    have hr := (show Below w.heap.size w w1 from hh.rel)
    have hP := HP.out.below hr
    have hle := hr.size
    have hJ := Lib.hid hh.st
    clear hh
    go_simp
    refine (clone_any a0 l c w1 hP HSZ.out HN.out).mono ?_
    rintro r w2 ⟨v', rfl, own, hb⟩
    exact ⟨_, rfl, hb, own.mono hle, hJ.out⟩
  · refine regs.StepOK.plain rfl fun L a w1 hh => ?_
    have h0 : a.tmps[0]?.getD undef = .pointer (some ⟨g, 0, none⟩) := by rw [← Array.getD_eq_getD_getElem?]; exact hh.old 0 rfl
    have hJ := Lib.hid hh.st
    clear hh
    go_simp
    exact ⟨_, rfl, regs.bl_refl _, rfl, hJ.out⟩
  · refine regs.StepOK.plain rfl fun L a w1 hh => ?_
    have h8 : a.tmps[8]?.getD undef = .pointer (some ⟨g, 0, none⟩) := by rw [← Array.getD_eq_getD_getElem?]; exact hh.dep 5 8 (by kernel_rfl) (by kernel_rfl)
    have hJ := Lib.hid hh.st
    clear hh
    go_simp
    exact ⟨_, rfl, regs.bl_refl _, rfl, hJ.out⟩
  · refine regs.StepOK.plain rfl fun L a w1 hh => ?_
    have h9 : a.tmps[9]?.getD undef = .pointer (some ⟨g, 0, none⟩) := by rw [← Array.getD_eq_getD_getElem?]; exact hh.dep 6 9 (by kernel_rfl) (by kernel_rfl)
    have hJ := Lib.hid hh.st
    clear hh
    go_simp
    exact ⟨_, rfl, regs.bl_refl _, rfl, hJ.out⟩
  · refine regs.StepOK.plain rfl fun L a w1 hh => ?_
    have h10 : a.tmps[10]?.getD undef = .pointer (some ⟨g, 1, none⟩) := by rw [← Array.getD_eq_getD_getElem?]; exact hh.dep 7 10 (by kernel_rfl) (by kernel_rfl)
    have f1 := ((show Below w.heap.size w w1 from hh.rel).cell (p := ⟨g, 1, none⟩) hgl).trans F1.out
    have hJ := Lib.hid hh.st
    clear hh
    go_simp
    exact ⟨_, rfl, regs.bl_refl _, rfl, hJ.out⟩
  · refine regs.StepOK.plain rfl fun L a w1 hh => ?_
    have h11 : a.tmps[11]?.getD undef = .int .i64 (s : Nat) := by rw [← Array.getD_eq_getD_getElem?]; exact hh.dep 8 11 (by kernel_rfl) (by kernel_rfl)
    obtain ⟨x, h7, hown⟩ : ∃ x, a.tmps[7]?.getD undef = x ∧ Own w1 w.heap.size x l := ⟨_, rfl, by rw [← Array.getD_eq_getD_getElem?]; exact hh.dep 4 7 (by kernel_rfl) (by kernel_rfl)⟩
    obtain ⟨a1, n1, c1, rfl⟩ := hown.val
    have hJ := Lib.hid hh.st
    clear hh
    go_simp
    exact ⟨_, rfl, regs.bl_refl _, ⟨_, rfl, hown⟩, hJ.out⟩
  · refine regs.StepOK.plain rfl fun L a w1 hh => ?_
    obtain ⟨x, h12, hown⟩ : ∃ x, a.tmps[12]?.getD undef = .agg #[x, .int .i64 (s : Nat)] ∧ Own w1 w.heap.size x l := by rw [← Array.getD_eq_getD_getElem?]; exact hh.dep 9 12 (by kernel_rfl) (by kernel_rfl)
    obtain ⟨a1, n1, c1, rfl⟩ := hown.val
    have hr := (show Below w.heap.size w w1 from hh.rel)
    have hle := hr.size
    have hJ := Lib.hid hh.st
    clear hh
    go_simp
    exact ⟨_, rfl, (Below.refl _ _).alloc (Nat.le_refl _) _, file_made hown hle _, hJ.out⟩
  · refine regs.StepOK.plain rfl fun L a w1 hh => ?_
    obtain ⟨x, h13, hx⟩ : ∃ x, a.tmps[13]?.getD undef = x ∧ MadeFile w.heap.size l s x w1 := ⟨_, rfl, by rw [← Array.getD_eq_getD_getElem?]; exact hh.dep 10 13 (by kernel_rfl) (by kernel_rfl)⟩
    have hJ := Lib.hid hh.st
    clear hh
    go_simp
    exact ⟨_, rfl, regs.bl_refl _, hx, hJ.out⟩
  intro L w1 val hL hJ hb hf
  have hfile : MadeFile w.heap.size l s (val 2) w1 := hf 11 2 (by kernel_rfl)
  have hbb : Below w.heap.size w w1 := hb
  clear hf hb hJ hL
  obtain ⟨g1, x, hv2, h2, h3, h4, h5⟩ := hfile
  have HX : Hid (Copied w ⟨g, .slice a0 l.length c, ⟨l, s⟩⟩ (.returned (.pointer (some ⟨g1, 0, none⟩))) w1) := by
    refine ⟨hbb, ⟨g1, x, ⟨l, s⟩⟩, rfl, ⟨h3, h4.mono (Nat.zero_le _), HF.out.bytes, HF.out.s_le⟩, rfl, ?_, fun k hk => ?_⟩
    · unfold Ent.own
      cases hx : x.ownBlock with
      | none => simp
      | some k =>
        simp only [Option.toList_some, List.nodup_cons, List.mem_singleton, List.not_mem_nil, not_false_eq_true, List.nodup_nil, and_self, and_true]
        exact fun e1 => h5 (by rw [hx, e1])
    · rcases List.mem_cons.1 hk with rfl | hk
      · exact h2
      · exact (h4.block (by simpa using hk)).1
  clear h2 h3 h4 h5 hbb
  simp only [regs.putAll, List.map_cons, List.map_nil]
  rw [hv2]
  go_simp
  go_wp2_with (fail)
  go_ret
  exact HX.out
end Go.Proofs.Ytpnhgongjfknbaa
