/-
  The contracts of a disk's commands: Create, Append, Sync, Remove, Rename.
-/
import Derived.Test.YtpnhgongjfknbaaDkI
namespace Go.Proofs.Ytpnhgongjfknbaa
open Go.RowKit omap

set_option maxHeartbeats 1000000 in
theorem create1_any (b m : Nat) (p : Pw) (cap : Nat) (es : Es) (g0 : Nat) (g1 : Nat) (s : ByteArray) (w : World) (h : Raw w b m p cap (tot (er es)) es) (c0 : w.cell? ⟨g0, 0, none⟩ = some (.pointer (some ⟨b, 0, none⟩))) (c1 : w.cell? ⟨g1, 0, none⟩ = some (.string s)) (hs : s.size ≤ 1000) :
    Calls Try.prog 46 #[.pointer (some ⟨g0, 0, none⟩), .pointer (some ⟨g1, 0, none⟩)] w (Done w b m p cap es (tot (createS s.data.toList (er es)).2) (createS s.data.toList (er es))) := by
  have HC : Hid (Calls Try.prog 37 #[.pointer (some ⟨b, 0, none⟩), .string s] w (Done w b m p cap es (tot (createS s.data.toList (er es)).2) (createS s.data.toList (er es)))) := (create_any b m p cap _ es s w h hs).mono fun _ _ hd => hd.later (tot_create _ _).symm
  clear h hs
  go_enter Try.func46, Try.ntmps46
  go_wp2_with (fail)
  refine HC.out.mono ?_
  rintro e w1 ⟨rfl, hd⟩
  have HD := Lib.hid hd
  clear hd
  go_wp2_with (fail)
  go_ret
  exact ⟨rfl, HD.out⟩
theorem enters_create1 : Enters Try.prog 46 := enters_of Try.func46 (by kernel_rfl) rfl
set_option maxHeartbeats 1000000 in
theorem sync1_any (b m : Nat) (p : Pw) (cap : Nat) (es : Es) (g0 : Nat) (g1 : Nat) (s : ByteArray) (w : World) (h : Raw w b m p cap (tot (er es)) es) (c0 : w.cell? ⟨g0, 0, none⟩ = some (.pointer (some ⟨b, 0, none⟩))) (c1 : w.cell? ⟨g1, 0, none⟩ = some (.string s)) (hs : s.size ≤ 1000) :
    Calls Try.prog 49 #[.pointer (some ⟨g0, 0, none⟩), .pointer (some ⟨g1, 0, none⟩)] w (Done w b m p cap es (tot (syncS s.data.toList (er es)).2) (syncS s.data.toList (er es))) := by
  have HC : Hid (Calls Try.prog 39 #[.pointer (some ⟨b, 0, none⟩), .string s] w (Done w b m p cap es (tot (syncS s.data.toList (er es)).2) (syncS s.data.toList (er es)))) := (sync_any b m p cap _ es s w h hs).mono fun _ _ hd => hd.later (tot_sync (rises_er.2 h.rises)).symm
  clear h hs
  go_enter Try.func49, Try.ntmps49
  go_wp2_with (fail)
  refine HC.out.mono ?_
  rintro e w1 ⟨rfl, hd⟩
  have HD := Lib.hid hd
  clear hd
  go_wp2_with (fail)
  go_ret
  exact ⟨rfl, HD.out⟩
theorem enters_sync1 : Enters Try.prog 49 := enters_of Try.func49 (by kernel_rfl) rfl
set_option maxHeartbeats 1000000 in
theorem remove1_any (b m : Nat) (p : Pw) (cap : Nat) (es : Es) (g0 : Nat) (g1 : Nat) (s : ByteArray) (w : World) (h : Raw w b m p cap (tot (er es)) es) (c0 : w.cell? ⟨g0, 0, none⟩ = some (.pointer (some ⟨b, 0, none⟩))) (c1 : w.cell? ⟨g1, 0, none⟩ = some (.string s)) (hs : s.size ≤ 1000) (hb : tot (er es) ≤ 67108864) :
    Calls Try.prog 50 #[.pointer (some ⟨g0, 0, none⟩), .pointer (some ⟨g1, 0, none⟩)] w (Done w b m p cap es (tot (removeS s.data.toList (er es)).2) (removeS s.data.toList (er es))) := by
  have HC : Hid (Calls Try.prog 51 #[.pointer (some ⟨b, 0, none⟩), .string s] w (Done w b m p cap es (tot (removeS s.data.toList (er es)).2) (removeS s.data.toList (er es)))) := (remove_any b m p cap _ es s w h hs rfl hb).mono fun _ _ hd => hd.done
  clear h hs hb
  go_enter Try.func50, Try.ntmps50
  go_wp2_with (fail)
  refine HC.out.mono ?_
  rintro e w1 ⟨rfl, hd⟩
  have HD := Lib.hid hd
  clear hd
  go_wp2_with (fail)
  go_ret
  exact ⟨rfl, HD.out⟩
theorem enters_remove1 : Enters Try.prog 50 := enters_of Try.func50 (by kernel_rfl) rfl
set_option maxHeartbeats 1000000 in
theorem rename1_any (b m : Nat) (p : Pw) (cap : Nat) (es : Es) (g0 : Nat) (g1 : Nat) (g2 : Nat) (s t : ByteArray) (w : World) (h : Raw w b m p cap (tot (er es)) es) (c0 : w.cell? ⟨g0, 0, none⟩ = some (.pointer (some ⟨b, 0, none⟩))) (c1 : w.cell? ⟨g1, 0, none⟩ = some (.string s)) (c2 : w.cell? ⟨g2, 0, none⟩ = some (.string t)) (hs : s.size ≤ 1000) (ht : t.size ≤ 1000) (hb : tot (er es) ≤ 67108864) :
    Calls Try.prog 52 #[.pointer (some ⟨g0, 0, none⟩), .pointer (some ⟨g1, 0, none⟩), .pointer (some ⟨g2, 0, none⟩)] w (Done w b m p cap es (tot (renameS s.data.toList t.data.toList (er es)).2) (renameS s.data.toList t.data.toList (er es))) := by
  have HC : Hid (Calls Try.prog 53 #[.pointer (some ⟨b, 0, none⟩), .string s, .string t] w (Done w b m p cap es (tot (renameS s.data.toList t.data.toList (er es)).2) (renameS s.data.toList t.data.toList (er es)))) := rename_any b m p cap _ es s t w h hs ht rfl hb
  clear h hs ht hb
  go_enter Try.func52, Try.ntmps52
  go_wp2_with (fail)
  refine HC.out.mono ?_
  rintro e w1 ⟨rfl, hd⟩
  have HD := Lib.hid hd
  clear hd
  go_wp2_with (fail)
  go_ret
  exact ⟨rfl, HD.out⟩
theorem enters_rename1 : Enters Try.prog 52 := enters_of Try.func52 (by kernel_rfl) rfl
set_option maxHeartbeats 1000000 in
theorem append1_any (b m : Nat) (p : Pw) (cap : Nat) (es : Es) (g0 : Nat) (g1 : Nat) (g2 : Nat) (s : ByteArray) (A : Option Addr) (ps : List Part) (c : Nat) (w : World) (h : Raw w b m p cap (tot (er es)) es) (c0 : w.cell? ⟨g0, 0, none⟩ = some (.pointer (some ⟨b, 0, none⟩))) (c1 : w.cell? ⟨g1, 0, none⟩ = some (.string s)) (c2 : w.cell? ⟨g2, 0, none⟩ = some (.slice A ps.length c)) (hs : s.size ≤ 1000) (hb : tot (er es) ≤ cap) (hc : cap ≤ 67108864) (hr : Row Part.v w A ps) (hra : Apart (foot b m es) A ps.length) (hps : ∀ q ∈ ps, q.ok w ∧ Apart (foot b m es) q.a q.l.length) (hn : ps.length ≤ 1000000) :
    Calls Try.prog 48 #[.pointer (some ⟨g0, 0, none⟩), .pointer (some ⟨g1, 0, none⟩), .pointer (some ⟨g2, 0, none⟩)] w (Done w b m p cap es (tot (writeS cap s.data.toList (flat ps) (er es)).2) (writeS cap s.data.toList (flat ps) (er es))) := by
  have HC : Hid (Calls Try.prog 38 #[.pointer (some ⟨b, 0, none⟩), .string s, .slice A ps.length c] w (Done w b m p cap es (tot (writeS cap s.data.toList (flat ps) (er es)).2) (writeS cap s.data.toList (flat ps) (er es)))) := write_any b m p cap _ es s A ps c w h hs rfl hb hc hr hra hps hn
  clear h hs hb hc hr hra hps hn
  go_enter Try.func48, Try.ntmps48
  go_wp2_with (fail)
  refine HC.out.mono ?_
  rintro e w1 ⟨rfl, hd⟩
  have HD := Lib.hid hd
  clear hd
  go_wp2_with (fail)
  go_ret
  exact ⟨rfl, HD.out⟩
theorem enters_append1 : Enters Try.prog 48 := enters_of Try.func48 (by kernel_rfl) rfl
theorem box_new (w : World) (v : Value) (T : TypeId) : (w.alloc (.cells #[v] T)).cell? ⟨w.heap.size, 0, none⟩ = some v := cell_of_row _ _ 0 _ _ _ (heap_alloc_new w _)
theorem box_old {w : World} {v : Value} {g o : Nat} (h : w.cell? ⟨g, o, none⟩ = some v) (x : Obj) : (w.alloc x).cell? ⟨g, o, none⟩ = some v :=
  (((Below.refl w.heap.size w).alloc (Nat.le_refl _) x).cell (p := ⟨g, o, none⟩) (World.block_lt_of_cell? w _ h)).trans h
theorem boxes2 (w : World) (u v : Value) (T0 T1 : TypeId) : ((w.alloc (.cells #[u] T0)).alloc (.cells #[v] T1)).cell? ⟨w.heap.size, 0, none⟩ = some u ∧ ((w.alloc (.cells #[u] T0)).alloc (.cells #[v] T1)).cell? ⟨w.heap.size + 1, 0, none⟩ = some v :=
  ⟨box_old (box_new w u T0) _, by simp⟩
theorem boxes3 (w : World) (u v x : Value) (T0 T1 T2 : TypeId) : (((w.alloc (.cells #[u] T0)).alloc (.cells #[v] T1)).alloc (.cells #[x] T2)).cell? ⟨w.heap.size, 0, none⟩ = some u ∧ (((w.alloc (.cells #[u] T0)).alloc (.cells #[v] T1)).alloc (.cells #[x] T2)).cell? ⟨w.heap.size + 1, 0, none⟩ = some v ∧
    (((w.alloc (.cells #[u] T0)).alloc (.cells #[v] T1)).alloc (.cells #[x] T2)).cell? ⟨w.heap.size + 2, 0, none⟩ = some x :=
  ⟨box_old (boxes2 w u v T0 T1).1 _, box_old (boxes2 w u v T0 T1).2 _, by simpa using box_new ((w.alloc (.cells #[u] T0)).alloc (.cells #[v] T1)) x T2⟩
set_option maxHeartbeats 1000000 in
theorem create_cmd (b : Nat) (S : List Nat) (d : Dk) (s : ByteArray) (w : World) (h : DiskAt w b S d) (hs : s.size ≤ 1000) (hst : d.p.steps ≤ 4611686018427387904) (hl : d.p.left ≤ 9223372036854775807) :
    Calls Try.prog 24 #[.pointer (some ⟨b, 0, none⟩), .string s] w (Cmd w b S (cmdS (createS s.data.toList) idS d)) := by
  have hBW : Below w.heap.size w ((w.alloc (.cells #[.pointer (some ⟨b, 0, none⟩)] 25)).alloc (.cells #[.string s] 9)) := (((Below.refl w.heap.size w).alloc (Nat.le_refl _) _).alloc (by simp <;> omega) _)
  have hnew : ∀ g, w.heap.size ≤ g → g ∉ S := fun g hg hm => by have := h.inside g hm; omega
  obtain ⟨d0, d1⟩ := boxes2 w (.pointer (some ⟨b, 0, none⟩)) (.string s) 25 9
  have h2 := h.below hBW
  have hrs := h.rises
  obtain ⟨m, es, rfl, hr, hE⟩ := h2.at_
  have hb : tot (er es) ≤ 67108864 := by rw [hE]; exact Nat.le_trans h.room h.few
  have hC := command_any b m d es _ hr hE h.room h.few hst hl (createS s.data.toList) idS 46 47 #[.pointer (some ⟨w.heap.size, 0, none⟩), .pointer (some ⟨w.heap.size + 1, 0, none⟩)] #[] enters_create1 enters_nothing
    (by rw [tot_create]; exact h.room) h.room
    (fun w1 p' hr1 htn => create1_any b m p' d.cap es (w.heap.size) (w.heap.size + 1) s w1 (hE ▸ hr1) (box_later d0 htn (fun h => hnew _ (by omega) h)) (box_later d1 htn (fun h => hnew _ (by omega) h)) hs)
    (fun w1 p' hr1 _ => nothing_done b m p' d.cap es w1 (hE ▸ hr1))
  have HC := Lib.hid hC
  have HB := Lib.hid hBW
  clear hC h2 hr hE hb hnew hrs hBW d0 d1
  clear h hs hst hl
  go_enter Try.func24, Try.ntmps24
  go_wp2_with (fail)
  refine HC.out.mono ?_
  rintro e w1 ⟨rfl, hd⟩
  have HD := Lib.hid hd
  clear hd HC
  go_wp2_with (fail)
  go_ret
  obtain ⟨S', k1, k2⟩ := HD.out
  exact ⟨rfl, S', k1, (Turn.below HB.out).trans k2⟩
set_option maxHeartbeats 1000000 in
theorem sync_cmd (b : Nat) (S : List Nat) (d : Dk) (s : ByteArray) (w : World) (h : DiskAt w b S d) (hs : s.size ≤ 1000) (hst : d.p.steps ≤ 4611686018427387904) (hl : d.p.left ≤ 9223372036854775807) :
    Calls Try.prog 26 #[.pointer (some ⟨b, 0, none⟩), .string s] w (Cmd w b S (cmdS (syncS s.data.toList) idS d)) := by
  have hBW : Below w.heap.size w ((w.alloc (.cells #[.pointer (some ⟨b, 0, none⟩)] 25)).alloc (.cells #[.string s] 9)) := (((Below.refl w.heap.size w).alloc (Nat.le_refl _) _).alloc (by simp <;> omega) _)
  have hnew : ∀ g, w.heap.size ≤ g → g ∉ S := fun g hg hm => by have := h.inside g hm; omega
  obtain ⟨d0, d1⟩ := boxes2 w (.pointer (some ⟨b, 0, none⟩)) (.string s) 25 9
  have h2 := h.below hBW
  have hrs := h.rises
  obtain ⟨m, es, rfl, hr, hE⟩ := h2.at_
  have hb : tot (er es) ≤ 67108864 := by rw [hE]; exact Nat.le_trans h.room h.few
  have hC := command_any b m d es _ hr hE h.room h.few hst hl (syncS s.data.toList) idS 49 47 #[.pointer (some ⟨w.heap.size, 0, none⟩), .pointer (some ⟨w.heap.size + 1, 0, none⟩)] #[] enters_sync1 enters_nothing
    (by rw [tot_sync hrs]; exact h.room) h.room
    (fun w1 p' hr1 htn => sync1_any b m p' d.cap es (w.heap.size) (w.heap.size + 1) s w1 (hE ▸ hr1) (box_later d0 htn (fun h => hnew _ (by omega) h)) (box_later d1 htn (fun h => hnew _ (by omega) h)) hs)
    (fun w1 p' hr1 _ => nothing_done b m p' d.cap es w1 (hE ▸ hr1))
  have HC := Lib.hid hC
  have HB := Lib.hid hBW
  clear hC h2 hr hE hb hnew hrs hBW d0 d1
  clear h hs hst hl
  go_enter Try.func26, Try.ntmps26
  go_wp2_with (fail)
  refine HC.out.mono ?_
  rintro e w1 ⟨rfl, hd⟩
  have HD := Lib.hid hd
  clear hd HC
  go_wp2_with (fail)
  go_ret
  obtain ⟨S', k1, k2⟩ := HD.out
  exact ⟨rfl, S', k1, (Turn.below HB.out).trans k2⟩
set_option maxHeartbeats 1000000 in
theorem remove_cmd (b : Nat) (S : List Nat) (d : Dk) (s : ByteArray) (w : World) (h : DiskAt w b S d) (hs : s.size ≤ 1000) (hst : d.p.steps ≤ 4611686018427387904) (hl : d.p.left ≤ 9223372036854775807) :
    Calls Try.prog 27 #[.pointer (some ⟨b, 0, none⟩), .string s] w (Cmd w b S (cmdS (removeS s.data.toList) idS d)) := by
  have hBW : Below w.heap.size w ((w.alloc (.cells #[.pointer (some ⟨b, 0, none⟩)] 25)).alloc (.cells #[.string s] 9)) := (((Below.refl w.heap.size w).alloc (Nat.le_refl _) _).alloc (by simp <;> omega) _)
  have hnew : ∀ g, w.heap.size ≤ g → g ∉ S := fun g hg hm => by have := h.inside g hm; omega
  obtain ⟨d0, d1⟩ := boxes2 w (.pointer (some ⟨b, 0, none⟩)) (.string s) 25 9
  have h2 := h.below hBW
  have hrs := h.rises
  obtain ⟨m, es, rfl, hr, hE⟩ := h2.at_
  have hb : tot (er es) ≤ 67108864 := by rw [hE]; exact Nat.le_trans h.room h.few
  have hC := command_any b m d es _ hr hE h.room h.few hst hl (removeS s.data.toList) idS 50 47 #[.pointer (some ⟨w.heap.size, 0, none⟩), .pointer (some ⟨w.heap.size + 1, 0, none⟩)] #[] enters_remove1 enters_nothing
    (Nat.le_trans (tot_remove hrs) h.room) h.room
    (fun w1 p' hr1 htn => remove1_any b m p' d.cap es (w.heap.size) (w.heap.size + 1) s w1 (hE ▸ hr1) (box_later d0 htn (fun h => hnew _ (by omega) h)) (box_later d1 htn (fun h => hnew _ (by omega) h)) hs hb)
    (fun w1 p' hr1 _ => nothing_done b m p' d.cap es w1 (hE ▸ hr1))
  have HC := Lib.hid hC
  have HB := Lib.hid hBW
  clear hC h2 hr hE hb hnew hrs hBW d0 d1
  clear h hs hst hl
  go_enter Try.func27, Try.ntmps27
  go_wp2_with (fail)
  refine HC.out.mono ?_
  rintro e w1 ⟨rfl, hd⟩
  have HD := Lib.hid hd
  clear hd HC
  go_wp2_with (fail)
  go_ret
  obtain ⟨S', k1, k2⟩ := HD.out
  exact ⟨rfl, S', k1, (Turn.below HB.out).trans k2⟩
set_option maxHeartbeats 1000000 in
theorem rename_cmd (b : Nat) (S : List Nat) (d : Dk) (s : ByteArray) (t : ByteArray) (w : World) (h : DiskAt w b S d) (hs : s.size ≤ 1000) (ht : t.size ≤ 1000) (hst : d.p.steps ≤ 4611686018427387904) (hl : d.p.left ≤ 9223372036854775807) :
    Calls Try.prog 28 #[.pointer (some ⟨b, 0, none⟩), .string s, .string t] w (Cmd w b S (cmdS (renameS s.data.toList t.data.toList) idS d)) := by
  have hBW : Below w.heap.size w (((w.alloc (.cells #[.pointer (some ⟨b, 0, none⟩)] 25)).alloc (.cells #[.string s] 9)).alloc (.cells #[.string t] 9)) := ((((Below.refl w.heap.size w).alloc (Nat.le_refl _) _).alloc (by simp <;> omega) _).alloc (by simp <;> omega) _)
  have hnew : ∀ g, w.heap.size ≤ g → g ∉ S := fun g hg hm => by have := h.inside g hm; omega
  obtain ⟨d0, d1, d2⟩ := boxes3 w (.pointer (some ⟨b, 0, none⟩)) (.string s) (.string t) 25 9 9
  have h2 := h.below hBW
  have hrs := h.rises
  obtain ⟨m, es, rfl, hr, hE⟩ := h2.at_
  have hb : tot (er es) ≤ 67108864 := by rw [hE]; exact Nat.le_trans h.room h.few
  have hC := command_any b m d es _ hr hE h.room h.few hst hl (renameS s.data.toList t.data.toList) idS 52 47 #[.pointer (some ⟨w.heap.size, 0, none⟩), .pointer (some ⟨w.heap.size + 1, 0, none⟩), .pointer (some ⟨w.heap.size + 2, 0, none⟩)] #[] enters_rename1 enters_nothing
    (Nat.le_trans (tot_rename hrs) h.room) h.room
    (fun w1 p' hr1 htn => rename1_any b m p' d.cap es (w.heap.size) (w.heap.size + 1) (w.heap.size + 2) s t w1 (hE ▸ hr1) (box_later d0 htn (fun h => hnew _ (by omega) h)) (box_later d1 htn (fun h => hnew _ (by omega) h)) (box_later d2 htn (fun h => hnew _ (by omega) h)) hs ht hb)
    (fun w1 p' hr1 _ => nothing_done b m p' d.cap es w1 (hE ▸ hr1))
  have HC := Lib.hid hC
  have HB := Lib.hid hBW
  clear hC h2 hr hE hb hnew hrs hBW d0 d1 d2
  clear h hs ht hst hl
  go_enter Try.func28, Try.ntmps28
  go_wp2_with (fail)
  refine HC.out.mono ?_
  rintro e w1 ⟨rfl, hd⟩
  have HD := Lib.hid hd
  clear hd HC
  go_wp2_with (fail)
  go_ret
  obtain ⟨S', k1, k2⟩ := HD.out
  exact ⟨rfl, S', k1, (Turn.below HB.out).trans k2⟩
theorem part_later {S S' : List Nat} {w w1 : World} {q : Part} (h : q.ok w ∧ Apart S q.a q.l.length) (ht : Turn S S' w w1) : q.ok w1 ∧ Apart S q.a q.l.length := ⟨⟨h.1.room, h.1.max, Apart.row h.1.at_ h.2 ht, h.1.bytes⟩, h.2⟩
set_option maxHeartbeats 1000000 in
theorem append_cmd (b : Nat) (S : List Nat) (d : Dk) (s : ByteArray) (A : Option Addr) (ps : List Part) (c : Nat) (w : World) (h : DiskAt w b S d) (hs : s.size ≤ 1000) (hst : d.p.steps ≤ 4611686018427387904) (hl : d.p.left ≤ 9223372036854775807)
    (hr : Row Part.v w A ps) (hra : Apart S A ps.length) (hps : ∀ q ∈ ps, q.ok w ∧ Apart S q.a q.l.length) (hn : ps.length ≤ 1000000) :
    Calls Try.prog 25 #[.pointer (some ⟨b, 0, none⟩), .string s, .slice A ps.length c] w (Cmd w b S (cmdS (writeS d.cap s.data.toList (flat ps)) (writeS d.cap s.data.toList (flat ps)) d)) := by
  have hBW : Below w.heap.size w (((w.alloc (.cells #[.pointer (some ⟨b, 0, none⟩)] 25)).alloc (.cells #[.string s] 9)).alloc (.cells #[.slice A ps.length c] 92)) :=
    ((((Below.refl w.heap.size w).alloc (Nat.le_refl _) _).alloc (by simp <;> omega) _).alloc (by simp <;> omega) _)
  have hnew : ∀ g, w.heap.size ≤ g → g ∉ S := fun g hg hm => by have := h.inside g hm; omega
  obtain ⟨d0, d1, d2⟩ := boxes3 w (.pointer (some ⟨b, 0, none⟩)) (.string s) (.slice A ps.length c) 25 9 92
  have h2 := h.below hBW
  have hrs := h.rises
  have hr2 := hr.below hBW
  have hps2 : ∀ q ∈ ps, q.ok (((w.alloc (.cells #[.pointer (some ⟨b, 0, none⟩)] 25)).alloc (.cells #[.string s] 9)).alloc (.cells #[.slice A ps.length c] 92)) ∧ Apart S q.a q.l.length := fun q hq => ⟨(hps q hq).1.below hBW, (hps q hq).2⟩
  obtain ⟨m, es, rfl, hrw, hE⟩ := h2.at_
  have hb : tot (er es) ≤ d.cap := by rw [hE]; exact h.room
  have hF : tot (writeS d.cap s.data.toList (flat ps) d.fs).2 ≤ d.cap := tot_write hrs h.room
  have hD : ∀ w1 p', Raw w1 b m p' d.cap (tot d.fs) es → Turn (foot b m es) (foot b m es) (((w.alloc (.cells #[.pointer (some ⟨b, 0, none⟩)] 25)).alloc (.cells #[.string s] 9)).alloc (.cells #[.slice A ps.length c] 92)) w1 →
      Calls Try.prog 48 #[.pointer (some ⟨w.heap.size, 0, none⟩), .pointer (some ⟨w.heap.size + 1, 0, none⟩), .pointer (some ⟨w.heap.size + 2, 0, none⟩)] w1 (Done w1 b m p' d.cap es (tot (writeS d.cap s.data.toList (flat ps) (er es)).2) (writeS d.cap s.data.toList (flat ps) (er es))) :=
    fun w1 p' hr1 htn => append1_any b m p' d.cap es (w.heap.size) (w.heap.size + 1) (w.heap.size + 2) s A ps c w1 (hE ▸ hr1) (box_later d0 htn (fun h => hnew _ (by omega) h)) (box_later d1 htn (fun h => hnew _ (by omega) h)) (box_later d2 htn (fun h => hnew _ (by omega) h)) hs hb h.few
      (Apart.row hr2 hra htn) hra (fun q hq => part_later (hps2 q hq) htn) hn
  have hC := command_any b m d es _ hrw hE h.room h.few hst hl (writeS d.cap s.data.toList (flat ps)) (writeS d.cap s.data.toList (flat ps)) 48 48 _ _ enters_append1 enters_append1 hF hF hD hD
  have HC := Lib.hid hC
  have HB := Lib.hid hBW
  clear hC h2 hr hE hb hnew hrs hBW d0 d1 d2 hD hF hrw hps hps2 hr2 hra hn
  clear h hs hst hl
  go_enter Try.func25, Try.ntmps25
  go_wp2_with (fail)
  refine HC.out.mono ?_
  rintro e w1 ⟨rfl, hd⟩
  have HD := Lib.hid hd
  clear hd HC
  go_wp2_with (fail)
  go_ret
  obtain ⟨S', k1, k2⟩ := HD.out
  exact ⟨rfl, S', k1, (Turn.below HB.out).trans k2⟩
end Go.Proofs.Ytpnhgongjfknbaa
