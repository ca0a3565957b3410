/-
  Layer 10: a row of pixels on the lines from one edge to the next one is handed on as a rectangle.
-/
import Derived.Test.YtboelbmpcbeifaaDoorImG
namespace Go.Proofs.YtboelbmpcbeifaaDoor
open Go.RowKit pxm imm

/-- old blocks and one cell stay; it stands as P0 says, and, when the call was, as P1 says -/
def JE (old : List (Nat × List Value)) (ge n : Nat) (v : Value) (P0 P1 : World → Prop) (iC : Bool) (w : World) : Prop :=
  JBs old w ∧ (w.cell? ⟨ge, n, none⟩ = some v ∧ ge < w.heap.size) ∧ (if iC = true then P1 w else P0 w)
section
variable {old : List (Nat × List Value)} {ge n : Nat} {v : Value} {P0 P1 : World → Prop} {iC : Bool} {w w' : World}
theorem JE.below (hP0 : ∀ w w', P0 w → Below w.heap.size w w' → P0 w') (hP1 : ∀ w w', P1 w → Below w.heap.size w w' → P1 w') (h : JE old ge n v P0 P1 iC w) (hb : Below w.heap.size w w') : JE old ge n v P0 P1 iC w' := by
  refine ⟨h.1.below hb, ⟨(hb.cell (p := ⟨ge, n, none⟩) h.2.1.2).trans h.2.1.1, Nat.lt_of_lt_of_le h.2.1.2 hb.size⟩, ?_⟩
  have h3 := h.2.2
  cases iC with
  | true => exact hP1 _ _ h3 hb
  | false => exact hP0 _ _ h3 hb
theorem JBs.off {S : List Nat} : ∀ {l : List (Nat × List Value)} {w w' : World}, JBs l w → (∀ p ∈ l, p.1 ∉ S) → Off S w w' → JBs l w'
  | [], _, _, _, _, _ => trivial
  | _ :: _, _, _, h, hs, ho => ⟨ho.blk h.1 (hs _ List.mem_cons_self), JBs.off h.2 (fun p hp => hs p (List.mem_cons_of_mem _ hp)) ho⟩
theorem JE.called {S : List Nat} (h : JE old ge n v P0 P1 false w) (hs : ∀ p ∈ old, p.1 ∉ S) (hg : ge ∉ S) (ho : Off S w w') (h1 : P1 w') : JE old ge n v P0 P1 true w' := by
  refine ⟨h.1.off hs ho, ⟨?_, Nat.lt_of_lt_of_le h.2.1.2 ho.size⟩, h1⟩
  have := ho.far ge h.2.1.2 hg
  rw [← h.2.1.1]
  simp only [World.cell?, this]
end
set_option maxHeartbeats 2000000 in
set_option maxRecDepth 100000 in
theorem each1_any (SS : List Nat) (P0 P1 : World → Prop) (hP0 : ∀ w w', P0 w → Below w.heap.size w w' → P0 w') (hP1 : ∀ w w', P1 w → Below w.heap.size w w' → P1 w')
    (gl : Nat) (capt : Array Value) (he : Enters Tryd.prog gl) (b3 b4 b8 b5 b7 ge cap en k n1 : Nat) (qa qb qc qd ey ex0 ex1 em y1 x0 x : Int) (r0 r1 : Int) (hr0 : IntKind.i64.wrap (qa + x0) = r0) (hr1 : IntKind.i64.wrap (qa + x) = r1) (hn1 : IntKind.i64.wrap ((k : Int) + 1) = (n1 : Nat)) (hne : n1 < en) (hx : r0 < r1) (hy : ey < y1)
    (w : World) (h3 : Blk w b3 [.func (.func gl) #[] capt]) (h4 : Blk w b4 [.int .i64 qa, .int .i64 qb, .int .i64 qc, .int .i64 qd]) (h8 : Blk w b8 [.int .i64 ey, .int .i64 ex0, .int .i64 ex1, .int .i64 em])
    (h5 : Blk w b5 [.slice (some ⟨ge, 0, none⟩) en cap]) (h7 : Blk w b7 [.int .i64 (k : Nat)]) (hc : w.cell? ⟨ge, n1 * 4, none⟩ = some (.int .i64 y1)) (hge : ge < w.heap.size) (h0 : P0 w) (hS : b3 ∉ SS ∧ b4 ∉ SS ∧ b8 ∉ SS ∧ b5 ∉ SS ∧ b7 ∉ SS ∧ ge ∉ SS)
    (hcall : ∀ w2, P0 w2 → Calls Tryd.prog gl (#[Bx.v ⟨r0, ey, r1, y1⟩] ++ capt) w2 fun e w3 => e = .returned (.tuple #[]) ∧ P1 w3 ∧ Off SS w2 w3) :
    Calls Tryd.prog 45 (#[.int .i64 x0, .int .i64 x] ++ #[.pointer (some ⟨b3, 0, none⟩), .pointer (some ⟨b4, 0, none⟩), .pointer (some ⟨b8, 0, none⟩), .pointer (some ⟨b5, 0, none⟩), .pointer (some ⟨b7, 0, none⟩)]) w
      fun e w' => e = .returned (.tuple #[]) ∧ P1 w' ∧ Off SS w w' := by
  have he' : ∀ (args : Array Value) (w : World), (callFunc gl args).run Tryd.prog w = .ok (.enter gl args) w := he
  have HC := Lib.hid hcall
  have HO := Lib.hid (fun w => bx_of ⟨r0, ey, r1, y1⟩ w)
  have hnrm : Bx.nrm ⟨r0, ey, r1, y1⟩ = ⟨r0, ey, r1, y1⟩ := nrm_ff (emp_ff.2 ⟨hx, hy⟩)
  rw [hnrm] at HO
  have H0 := Lib.hid hP0
  have H1 := Lib.hid hP1
  have HS : Hid (∀ p ∈ [(b3, [Value.func (.func gl) #[] capt]), (b4, [.int .i64 qa, .int .i64 qb, .int .i64 qc, .int .i64 qd]), (b8, [.int .i64 ey, .int .i64 ex0, .int .i64 ex1, .int .i64 em]), (b5, [.slice (some ⟨ge, 0, none⟩) en cap]), (b7, [.int .i64 (k : Nat)])], p.1 ∉ SS) := by
    intro p hp
    obtain ⟨s1, s2, s3, s4, s5, _⟩ := hS
    simp only [List.mem_cons, List.not_mem_nil, or_false] at hp
    rcases hp with rfl | rfl | rfl | rfl | rfl <;> assumption
  have HG := Lib.hid hS.2.2.2.2.2
  have HJ0 : Hid (JE [(b3, [Value.func (.func gl) #[] capt]), (b4, [.int .i64 qa, .int .i64 qb, .int .i64 qc, .int .i64 qd]), (b8, [.int .i64 ey, .int .i64 ex0, .int .i64 ex1, .int .i64 em]), (b5, [.slice (some ⟨ge, 0, none⟩) en cap]), (b7, [.int .i64 (k : Nat)])] ge (n1 * 4) (.int .i64 y1) P0 P1 false w) :=
    ⟨⟨h3, h4, h8, h5, h7, trivial⟩, ⟨hc, hge⟩, h0⟩
  clear hcall he hnrm hP0 hP1 hS h3 h4 h8 h5 h7 hc hge h0 hx hy
  unfold Bx.v at *
  simp only at HC HO
  have HNE := Lib.hid hne
  have HR0 := Lib.hid hr0
  have HR1 := Lib.hid hr1
  have HN1 := Lib.hid hn1
  clear hne hr0 hr1 hn1
  go_enter Tryd.func45, Tryd.ntmps45
  have HJ0 : Hid (JE [(b3, [Value.func (.func gl) #[] capt]), (b4, [.int .i64 qa, .int .i64 qb, .int .i64 qc, .int .i64 qd]), (b8, [.int .i64 ey, .int .i64 ex0, .int .i64 ex1, .int .i64 em]), (b5, [.slice (some ⟨ge, 0, none⟩) en cap]), (b7, [.int .i64 (k : Nat)])] ge (n1 * 4) (.int .i64 y1) P0 P1 false w.drew) :=
    JE.below H0.out H1.out HJ0.out (Below.refl _ _).drew
  go_wp2_with (fail)
  refine regs.wp_region_put (Off SS) (fun L wx => JE [(b3, [Value.func (.func gl) #[] capt]), (b4, [.int .i64 qa, .int .i64 qb, .int .i64 qc, .int .i64 qd]), (b8, [.int .i64 ey, .int .i64 ex0, .int .i64 ex1, .int .i64 em]), (b5, [.slice (some ⟨ge, 0, none⟩) en cap]), (b7, [.int .i64 (k : Nat)])] ge (n1 * 4) (.int .i64 y1) P0 P1 (L 18) wx) [9, 10, 11, 12, 13, 14, 15, 16, 17, 18, 19, 20, 21, 22, 23, 24, 25, 26, 27] (by kernel_rfl) (by kernel_rfl) (fun _ => Off.refl _ _) (fun _ _ _ h k => h.trans k) (fun i => (match i with
    | 0 => regs.Say.val _ (.func (.func gl) #[] capt)
    | 1 => regs.Say.val _ (.pointer (some ⟨b4, 0, none⟩))
    | 2 => regs.Say.val _ (.int .i64 qa)
    | 3 => regs.Say.val _ (.int .i64 x0)
    | 4 => regs.Say.val _ (.int .i64 r0)
    | 5 => regs.Say.val _ (.pointer (some ⟨b8, 0, none⟩))
    | 6 => regs.Say.val _ (.int .i64 ey)
    | 7 => regs.Say.val _ (.pointer (some ⟨b4, 0, none⟩))
    | 8 => regs.Say.val _ (.int .i64 qa)
    | 9 => regs.Say.val _ (.int .i64 x)
    | 10 => regs.Say.val _ (.int .i64 r1)
    | 11 => regs.Say.val _ (.slice (some ⟨ge, 0, none⟩) en cap)
    | 12 => regs.Say.val _ (.int .i64 (k : Nat))
    | 13 => regs.Say.val _ (.int .i64 (n1 : Nat))
    | 14 => regs.Say.val _ (.pointer (some ⟨ge, n1 * 4, none⟩))
    | 15 => regs.Say.val _ (.pointer (some ⟨ge, n1 * 4, none⟩))
    | 16 => regs.Say.val _ (.int .i64 y1)
    | 17 => regs.Say.val _ (.agg #[.int .i64 r0, .int .i64 ey, .int .i64 r1, .int .i64 y1])
    | 18 => regs.Say.any _
    | _ => regs.Say.any _ : regs.Say (Off SS)).p) (fun _ => regs.Say.mono _) (by kernel_rfl) (Off.of_below (Below.refl _ _).drew) (HJ0.out) ⟨?_, ?_, ?_, ?_, ?_, ?_, ?_, ?_, ?_, ?_, ?_, ?_, ?_, ?_, ?_, ?_, ?_, ?_, ?_, trivial⟩ ?_
  · refine regs.StepOK.plain rfl fun L a w1 hh => ?_
    have h2 : a.tmps[2]?.getD undef = .pointer (some ⟨b3, 0, none⟩) := by rw [← Array.getD_eq_getD_getElem?]; exact hh.old 2 rfl
    obtain ⟨c0, -, ci⟩ := (hh.st.1.1).c1
    have hJ := Lib.hid hh.st
    clear hh
    go_simp
    exact ⟨_, rfl, Off.refl _ _, rfl, hJ.out⟩
  · refine regs.StepOK.plain rfl fun L a w1 hh => ?_
    have h3 : a.tmps[3]?.getD undef = .pointer (some ⟨b4, 0, none⟩) := by rw [← Array.getD_eq_getD_getElem?]; exact hh.old 3 rfl
    have hJ := Lib.hid hh.st
    clear hh
    go_simp
    exact ⟨_, rfl, Off.refl _ _, rfl, hJ.out⟩
  · refine regs.StepOK.plain rfl fun L a w1 hh => ?_
    have h10 : a.tmps[10]?.getD undef = .pointer (some ⟨b4, 0, none⟩) := by rw [← Array.getD_eq_getD_getElem?]; exact hh.dep 1 10 (by kernel_rfl) (by kernel_rfl)
    obtain ⟨⟨c0, c1, c2, c3⟩, -, ci⟩ := (hh.st.1.2.1).c4
    have hJ := Lib.hid hh.st
    clear hh
    go_simp
    exact ⟨_, rfl, Off.refl _ _, rfl, hJ.out⟩
  · refine regs.StepOK.plain rfl fun L a w1 hh => ?_
    have h0 : a.tmps[0]?.getD undef = .int .i64 x0 := by rw [← Array.getD_eq_getD_getElem?]; exact hh.old 0 rfl
    have hJ := Lib.hid hh.st
    clear hh
    go_simp
    exact ⟨_, rfl, Off.refl _ _, rfl, hJ.out⟩
  · refine regs.StepOK.plain rfl fun L a w1 hh => ?_
    have h11 : a.tmps[11]?.getD undef = .int .i64 qa := by rw [← Array.getD_eq_getD_getElem?]; exact hh.dep 2 11 (by kernel_rfl) (by kernel_rfl)
    have h12 : a.tmps[12]?.getD undef = .int .i64 x0 := by rw [← Array.getD_eq_getD_getElem?]; exact hh.dep 3 12 (by kernel_rfl) (by kernel_rfl)
    have q := HR0.out
    have hJ := Lib.hid hh.st
    clear hh
    go_simp
    exact ⟨_, rfl, Off.refl _ _, rfl, hJ.out⟩
  · refine regs.StepOK.plain rfl fun L a w1 hh => ?_
    have h4 : a.tmps[4]?.getD undef = .pointer (some ⟨b8, 0, none⟩) := by rw [← Array.getD_eq_getD_getElem?]; exact hh.old 4 rfl
    have hJ := Lib.hid hh.st
    clear hh
    go_simp
    exact ⟨_, rfl, Off.refl _ _, rfl, hJ.out⟩
  · refine regs.StepOK.plain rfl fun L a w1 hh => ?_
    have h14 : a.tmps[14]?.getD undef = .pointer (some ⟨b8, 0, none⟩) := by rw [← Array.getD_eq_getD_getElem?]; exact hh.dep 5 14 (by kernel_rfl) (by kernel_rfl)
    obtain ⟨⟨c0, c1, c2, c3⟩, -, ci⟩ := (hh.st.1.2.2.1).c4
    have hJ := Lib.hid hh.st
    clear hh
    go_simp
    exact ⟨_, rfl, Off.refl _ _, rfl, hJ.out⟩
  · refine regs.StepOK.plain rfl fun L a w1 hh => ?_
    have h3 : a.tmps[3]?.getD undef = .pointer (some ⟨b4, 0, none⟩) := by rw [← Array.getD_eq_getD_getElem?]; exact hh.old 3 rfl
    have hJ := Lib.hid hh.st
    clear hh
    go_simp
    exact ⟨_, rfl, Off.refl _ _, rfl, hJ.out⟩
  · refine regs.StepOK.plain rfl fun L a w1 hh => ?_
    have h16 : a.tmps[16]?.getD undef = .pointer (some ⟨b4, 0, none⟩) := by rw [← Array.getD_eq_getD_getElem?]; exact hh.dep 7 16 (by kernel_rfl) (by kernel_rfl)
    obtain ⟨⟨c0, c1, c2, c3⟩, -, ci⟩ := (hh.st.1.2.1).c4
    have hJ := Lib.hid hh.st
    clear hh
    go_simp
    exact ⟨_, rfl, Off.refl _ _, rfl, hJ.out⟩
  · refine regs.StepOK.plain rfl fun L a w1 hh => ?_
    have h1 : a.tmps[1]?.getD undef = .int .i64 x := by rw [← Array.getD_eq_getD_getElem?]; exact hh.old 1 rfl
    have hJ := Lib.hid hh.st
    clear hh
    go_simp
    exact ⟨_, rfl, Off.refl _ _, rfl, hJ.out⟩
  · refine regs.StepOK.plain rfl fun L a w1 hh => ?_
    have h17 : a.tmps[17]?.getD undef = .int .i64 qa := by rw [← Array.getD_eq_getD_getElem?]; exact hh.dep 8 17 (by kernel_rfl) (by kernel_rfl)
    have h18 : a.tmps[18]?.getD undef = .int .i64 x := by rw [← Array.getD_eq_getD_getElem?]; exact hh.dep 9 18 (by kernel_rfl) (by kernel_rfl)
    have q := HR1.out
    have hJ := Lib.hid hh.st
    clear hh
    go_simp
    exact ⟨_, rfl, Off.refl _ _, rfl, hJ.out⟩
  · refine regs.StepOK.plain rfl fun L a w1 hh => ?_
    have h5 : a.tmps[5]?.getD undef = .pointer (some ⟨b5, 0, none⟩) := by rw [← Array.getD_eq_getD_getElem?]; exact hh.old 5 rfl
    obtain ⟨c0, -, ci⟩ := (hh.st.1.2.2.2.1).c1
    have hJ := Lib.hid hh.st
    clear hh
    go_simp
    exact ⟨_, rfl, Off.refl _ _, rfl, hJ.out⟩
  · refine regs.StepOK.plain rfl fun L a w1 hh => ?_
    have h6 : a.tmps[6]?.getD undef = .pointer (some ⟨b7, 0, none⟩) := by rw [← Array.getD_eq_getD_getElem?]; exact hh.old 6 rfl
    obtain ⟨c0, -, ci⟩ := (hh.st.1.2.2.2.2.1).c1
    have hJ := Lib.hid hh.st
    clear hh
    go_simp
    exact ⟨_, rfl, Off.refl _ _, rfl, hJ.out⟩
  · refine regs.StepOK.plain rfl fun L a w1 hh => ?_
    have h21 : a.tmps[21]?.getD undef = .int .i64 (k : Nat) := by rw [← Array.getD_eq_getD_getElem?]; exact hh.dep 12 21 (by kernel_rfl) (by kernel_rfl)
    have q := HN1.out
    have hJ := Lib.hid hh.st
    clear hh
    go_simp
    exact ⟨_, rfl, Off.refl _ _, rfl, hJ.out⟩
  · refine regs.StepOK.plain rfl fun L a w1 hh => ?_
    have h20 : a.tmps[20]?.getD undef = .slice (some ⟨ge, 0, none⟩) en cap := by rw [← Array.getD_eq_getD_getElem?]; exact hh.dep 11 20 (by kernel_rfl) (by kernel_rfl)
    have h22 : a.tmps[22]?.getD undef = .int .i64 (n1 : Nat) := by rw [← Array.getD_eq_getD_getElem?]; exact hh.dep 13 22 (by kernel_rfl) (by kernel_rfl)
    have t9 := HNE.out
    have hJ := Lib.hid hh.st
    clear hh
    go_simp
    exact ⟨_, rfl, Off.refl _ _, rfl, hJ.out⟩
  · refine regs.StepOK.plain rfl fun L a w1 hh => ?_
    have h23 : a.tmps[23]?.getD undef = .pointer (some ⟨ge, n1 * 4, none⟩) := by rw [← Array.getD_eq_getD_getElem?]; exact hh.dep 14 23 (by kernel_rfl) (by kernel_rfl)
    have hJ := Lib.hid hh.st
    clear hh
    go_simp
    exact ⟨_, rfl, Off.refl _ _, rfl, hJ.out⟩
  · refine regs.StepOK.plain rfl fun L a w1 hh => ?_
    have h24 : a.tmps[24]?.getD undef = .pointer (some ⟨ge, n1 * 4, none⟩) := by rw [← Array.getD_eq_getD_getElem?]; exact hh.dep 15 24 (by kernel_rfl) (by kernel_rfl)
    have c0 := hh.st.2.1.1
    have ci := hh.st.2.1.2
    have hJ := Lib.hid hh.st
    clear hh
    go_simp
    exact ⟨_, rfl, Off.refl _ _, rfl, hJ.out⟩
  · refine regs.StepOK.plain rfl fun L a w1 hh => ?_
    have h13 : a.tmps[13]?.getD undef = .int .i64 r0 := by rw [← Array.getD_eq_getD_getElem?]; exact hh.dep 4 13 (by kernel_rfl) (by kernel_rfl)
    have h15 : a.tmps[15]?.getD undef = .int .i64 ey := by rw [← Array.getD_eq_getD_getElem?]; exact hh.dep 6 15 (by kernel_rfl) (by kernel_rfl)
    have h19 : a.tmps[19]?.getD undef = .int .i64 r1 := by rw [← Array.getD_eq_getD_getElem?]; exact hh.dep 10 19 (by kernel_rfl) (by kernel_rfl)
    have h25 : a.tmps[25]?.getD undef = .int .i64 y1 := by rw [← Array.getD_eq_getD_getElem?]; exact hh.dep 16 25 (by kernel_rfl) (by kernel_rfl)
    have := True.intro
    have hJ := Lib.hid hh.st
    clear hh
    go_simp
    refine (HO.out w1).mono ?_
    rintro e w9 ⟨rfl, hb9⟩
    exact ⟨_, rfl, Off.of_below hb9, rfl, JE.below H0.out H1.out hJ.out hb9⟩
  · refine regs.StepOK.plain rfl fun L a w1 hh => ?_
    have h9 : a.tmps[9]?.getD undef = .func (.func gl) #[] capt := by rw [← Array.getD_eq_getD_getElem?]; exact hh.dep 0 9 (by kernel_rfl) (by kernel_rfl)
    have h26 : a.tmps[26]?.getD undef = .agg #[.int .i64 r0, .int .i64 ey, .int .i64 r1, .int .i64 y1] := by rw [← Array.getD_eq_getD_getElem?]; exact hh.dep 17 26 (by kernel_rfl) (by kernel_rfl)
    have hJ0 := hh.st
    rw [hh.un] at hJ0
    have hJ := Lib.hid (show JE [(b3, [Value.func (.func gl) #[] capt]), (b4, [.int .i64 qa, .int .i64 qb, .int .i64 qc, .int .i64 qd]), (b8, [.int .i64 ey, .int .i64 ex0, .int .i64 ex1, .int .i64 em]), (b5, [.slice (some ⟨ge, 0, none⟩) en cap]), (b7, [.int .i64 (k : Nat)])] ge (n1 * 4) (.int .i64 y1) P0 P1 false w1 from hJ0)
    clear hJ0
    clear hh
    go_simp
    refine (HC.out _ hJ.out.2.2).mono ?_
    rintro e w9 ⟨rfl, hp9, ho9⟩
    exact ⟨_, rfl, ho9, trivial, JE.called hJ.out HS.out HG.out ho9 hp9⟩
  intro L w5 val hL hJ hR hv
  have hJ2 := hJ.2.2
  rw [hL 18 (by decide)] at hJ2
  have HQ := Lib.hid (And.intro (show P1 w5 from hJ2) hR)
  clear hv hL hJ hR hJ2
  simp only [regs.putAll, List.map_cons, List.map_nil, Act.put, List.setIfInBounds_toArray, List.set_cons_zero, List.set_cons_succ]
  go_wp2_with (fail)
  go_end0
  exact ⟨rfl, HQ.out⟩
end Go.Proofs.YtboelbmpcbeifaaDoor
