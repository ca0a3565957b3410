/-
  The contracts of what only asks a disk, in the document's words.
-/
import Derived.Test.YtpnhgongjfknbaaDkP
namespace Go.Proofs.Ytpnhgongjfknbaa
open Go.RowKit omap

section
variable {w : World} {b : Nat} {S : List Nat} {d : Dk}
theorem arm_cmd (h : DiskAt w b S d) (n : Int) : Calls Try.prog 23 #[.pointer (some ⟨b, 0, none⟩), .int .i64 n] w fun e w' => e = .returned (.tuple #[]) ∧ DiskAt w' b S { d with p := { d.p with left := if d.p.down then d.p.left else n.toNat } } ∧ Turn S S w w' := by
  have h1 := h.room
  have h2 := h.few
  obtain ⟨m, es, rfl, hr, hE⟩ := h.at_
  refine (arm_any b m d.p d.cap (tot d.fs) es n w hr).mono ?_
  rintro e w' ⟨rfl, k1, k2⟩
  exact ⟨rfl, ⟨⟨m, es, rfl, k1, hE⟩, h1, h2⟩, k2⟩
theorem down_cmd (h : DiskAt w b S d) : Calls Try.prog 20 #[.pointer (some ⟨b, 0, none⟩)] w fun e w' => e = .returned (.bool d.p.down) ∧ w = w' := by
  obtain ⟨m, es, rfl, hr, hE⟩ := h.at_
  exact down_any b m d.p d.cap (tot d.fs) es w hr
theorem steps_cmd (h : DiskAt w b S d) : Calls Try.prog 29 #[.pointer (some ⟨b, 0, none⟩)] w fun e w' => e = .returned (.int .i64 (d.p.steps : Nat)) ∧ w = w' := by
  obtain ⟨m, es, rfl, hr, hE⟩ := h.at_
  exact steps_any b m d.p d.cap (tot d.fs) es w hr
theorem capacity_cmd (h : DiskAt w b S d) : Calls Try.prog 34 #[.pointer (some ⟨b, 0, none⟩)] w fun e w' => e = .returned (.int .i64 (d.cap : Nat)) ∧ w = w' := by
  obtain ⟨m, es, rfl, hr, hE⟩ := h.at_
  exact capacity_any b m d.p d.cap (tot d.fs) es w hr
theorem used_cmd (h : DiskAt w b S d) : Calls Try.prog 30 #[.pointer (some ⟨b, 0, none⟩)] w fun e w' => e = .returned (.int .i64 (if d.p.down then 0 else tot d.fs : Nat)) ∧ w = w' := by
  obtain ⟨m, es, rfl, hr, hE⟩ := h.at_
  exact used_any b m d.p d.cap (tot d.fs) es w hr
theorem er_names (es : Es) : es.map (·.1) = (er es).map (·.1) := by unfold er mapv; rw [List.map_map]; rfl
theorem list_cmd_down (h : DiskAt w b S d) (hd : d.p.down = true) : Calls Try.prog 19 #[.pointer (some ⟨b, 0, none⟩)] w fun e w' => e = .returned (.slice none 0 0) ∧ w = w' := by
  obtain ⟨m, es, rfl, hr, hE⟩ := h.at_
  exact list_down b m d.p d.cap (tot d.fs) es w hr hd
theorem list_cmd (h : DiskAt w b S d) (hd : d.p.down = false) :
    Calls Try.prog 19 #[.pointer (some ⟨b, 0, none⟩)] w fun e w' => ∃ a c, e = .returned (.slice a d.fs.length c) ∧ d.fs.length ≤ c ∧ c ≤ maxLen ∧ Row eS w' a (d.fs.map (·.1)) ∧ (∀ x, a = some x → w.heap.size ≤ x.block) ∧ Below w.heap.size w w' := by
  obtain ⟨m, es, rfl, hr, hE⟩ := h.at_
  have := list_any b m d.p d.cap (tot d.fs) es w hr hd
  rw [er_names, hE] at this
  rw [← er_length, hE] at this
  exact this
set_option maxHeartbeats 1000000 in
theorem read_down (h : DiskAt w b S d) (hd : d.p.down = true) (s : ByteArray) : Calls Try.prog 21 #[.pointer (some ⟨b, 0, none⟩), .string s] w fun e w' => e = .returned (.tuple #[.slice none 0 0, .int .i64 24]) ∧ w = w' := by
  obtain ⟨m, es, rfl, hr, hE⟩ := h.at_
  obtain ⟨_, _, c2, _⟩ := hr.cells
  rw [hd] at c2
  clear h hr hE hd
  go_enter Try.func21, Try.ntmps21
  go_wp2_with (fail)
  go_ret2
  exact ⟨rfl, rfl⟩
set_option maxHeartbeats 1000000 in
theorem read_some (h : DiskAt w b S d) (hd : d.p.down = false) (s : ByteArray) (hs : s.size ≤ 1000) (f : Fl) (hk : omap.look d.fs s.data.toList = some f) :
    Calls Try.prog 21 #[.pointer (some ⟨b, 0, none⟩), .string s] w fun e w' => ∃ v, e = .returned (.tuple #[v, .int .i64 0]) ∧ Own w' w.heap.size v f.l ∧ AreBytes f.l ∧ Below w.heap.size w w' := by
  have hroom := h.room
  have hcap := h.few
  have hrs := h.rises
  obtain ⟨m, es, rfl, hr, hE⟩ := h.at_
  obtain ⟨_, _, c2, _, _, c5⟩ := hr.cells
  rw [hd] at c2
  rw [← hE, er_look] at hk
  obtain ⟨e, hke, hef⟩ := Option.map_eq_some_iff.1 hk
  subst hef
  have hlk := hr.map.lookup (s := s) (by unfold maxLen; omega)
  rw [bl_look, hke] at hlk
  simp only [Option.map_some, ptrTo] at hlk
  have hf := hr.file hke
  have f0 := hf.blk.cell 0
  have hlen := tot_del (rises_er.2 hr.rises) (k := s.data.toList) (f := e.f) (by rw [er_look, hke]; rfl)
  rw [hE] at hlen
  obtain ⟨g, v, l, y⟩ := e
  obtain ⟨a, c, hv, hp, _, hn⟩ := hf.own.part hf.bytes
  simp only [List.getElem?_cons_zero] at f0 hv hlk hp hlen ⊢
  subst hv
  have hC := clone_any a l c w hp.at_ (by omega) hn
  have HC := Lib.hid hC
  have HA := Lib.hid hf.bytes
  clear h hr hE hd hroom hcap hrs hk hke hf hlen hp hn hC hs
  go_enter Try.func21, Try.ntmps21
  go_wp2_with (fail)
  refine HC.out.mono ?_
  rintro r w1 ⟨v', rfl, ho, hb⟩
  have HO := Lib.hid ho
  have HB := Lib.hid hb
  clear ho hb HC
  go_wp2_with (fail)
  go_ret2
  exact ⟨_, rfl, HO.out, HA.out, HB.out⟩
set_option maxHeartbeats 1000000 in
theorem size_down (h : DiskAt w b S d) (hd : d.p.down = true) (s : ByteArray) (hs : s.size ≤ 1000) : Calls Try.prog 22 #[.pointer (some ⟨b, 0, none⟩), .string s] w fun e w' => e = .returned (.tuple #[.int .i64 0, .int .i64 0]) ∧ Below w.heap.size w w' := by
  obtain ⟨m, es, rfl, hr, hE⟩ := h.at_
  obtain ⟨_, _, c2, _, _, c5⟩ := hr.cells
  rw [hd] at c2
  have hlk := hr.map.lookup (s := s) (by unfold maxLen; omega)
  clear h hr hE hd hs
  go_enter Try.func22, Try.ntmps22
  go_wp2_with (fail)
  go_ret2
  exact ⟨rfl, Below.refl _ _⟩
set_option maxHeartbeats 1000000 in
theorem size_some (h : DiskAt w b S d) (hd : d.p.down = false) (s : ByteArray) (hs : s.size ≤ 1000) (f : Fl) (hk : omap.look d.fs s.data.toList = some f) :
    Calls Try.prog 22 #[.pointer (some ⟨b, 0, none⟩), .string s] w fun e w' => e = .returned (.tuple #[.int .i64 (f.l.length : Nat), .int .i64 (f.s : Nat)]) ∧ Below w.heap.size w w' := by
  obtain ⟨m, es, rfl, hr, hE⟩ := h.at_
  obtain ⟨_, _, c2, _, _, c5⟩ := hr.cells
  rw [hd] at c2
  rw [← hE, er_look] at hk
  obtain ⟨e, hke, hef⟩ := Option.map_eq_some_iff.1 hk
  subst hef
  have hlk := hr.map.lookup (s := s) (by unfold maxLen; omega)
  rw [bl_look, hke] at hlk
  simp only [Option.map_some, ptrTo] at hlk
  have hf := hr.file hke
  have f0 := hf.blk.cell 0
  have f1 := hf.blk.cell 1
  obtain ⟨g, v, l, y⟩ := e
  obtain ⟨a, c, hv, _⟩ := hf.own.part hf.bytes
  simp only [List.getElem?_cons_zero, List.getElem?_cons_succ] at f0 f1 hv hlk ⊢
  subst hv
  clear h hr hE hd hk hke hf hs
  go_enter Try.func22, Try.ntmps22
  go_wp2_with (fail)
  go_quiet (fail)
  go_wp2_with (fail)
  go_ret2
  exact ⟨rfl, ⟨rfl, rfl, rfl, Nat.le_refl _, fun _ _ => rfl⟩⟩
end
end Go.Proofs.Ytpnhgongjfknbaa
