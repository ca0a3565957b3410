/-
  The document's own disk: the error of a command.
-/
import Derived.Test.YtpnhgongjfknbaaRfE
namespace Go.Proofs.Ytpnhgongjfknbaa
open Go.RowKit omap

theorem look_find (k : Nm) (fs : Fs) : omap.look fs k = (fs[fs.findIdx (fun x => x.1 == k)]?).map (·.2) := by
  induction fs with
  | nil => rfl
  | cons x l ih =>
    rw [look_cons, List.findIdx_cons]
    by_cases h : x.1 = k
    · simp [h]
    · rw [if_neg h, ih]
      have hb : (x.1 == k) = false := by simpa using h
      rw [hb]
      rfl
/-- a file's place -/
theorem place_of (k : Nm) (fs : Fs) : (placeI k fs = -1 ∧ omap.look fs k = none) ∨ ∃ (i : Nat) (h : i < fs.length), placeI k fs = (i : Int) ∧ fs[i].1 = k ∧ omap.look fs k = some fs[i].2 := by
  by_cases h : fs.findIdx (fun x => x.1 == k) < fs.length
  · refine .inr ⟨_, h, ?_, ?_, ?_⟩
    · unfold placeI
      rw [if_pos h]
    · simpa using List.findIdx_getElem (w := h)
    · rw [look_find, List.getElem?_eq_getElem h]
      rfl
  · refine .inl ⟨?_, ?_⟩
    · unfold placeI
      rw [if_neg h]
    · rw [look_find, List.getElem?_eq_none (by omega)]
      rfl
theorem usedN_tot (fs : Fs) : usedN fs = tot fs := rfl
/-- the error of a command -/
def wrongI (kind : Int) (k j : Nm) (n : Nat) (d : Dk) : Int :=
  if kind = 1 then (if nameB k = false then 25 else if (omap.look d.fs k).isSome = true then 15 else if 1024 ≤ d.fs.length then 12 else 0)
  else if omap.look d.fs k = none then 14 else if kind = 2 ∧ d.cap < tot d.fs + n then 23 else if kind = 5 ∧ nameB j = false then 25 else 0
/-- a command in the document's words: what it tells, and what there is then -/
def opS (kind : Int) (k j : Nm) (l : List Nat) (cap : Nat) (fs : Fs) : Int × Fs :=
  if kind = 1 then createS k fs else if kind = 2 then writeS cap k l fs else if kind = 3 then syncS k fs else if kind = 4 then removeS k fs else renameS k j fs
theorem wrong_op {kind : Int} (h1 : 1 ≤ kind) (h2 : kind ≤ 5) (k j : Nm) (l : List Nat) (d : Dk) : wrongI kind k j l.length d = (opS kind k j l d.cap d.fs).1 := by
  unfold wrongI opS
  have hc : kind = 1 ∨ kind = 2 ∨ kind = 3 ∨ kind = 4 ∨ kind = 5 := by omega
  rcases hc with rfl | rfl | rfl | rfl | rfl
  · simp only [if_true, createS]
    split
    · rfl
    · split
      · rfl
      · split <;> rfl
  · cases hk : omap.look d.fs k <;> simp [writeS, hk]
    split <;> rfl
  · cases hk : omap.look d.fs k <;> simp [syncS, hk]
  · cases hk : omap.look d.fs k <;> simp [removeS, hk]
  · cases hk : omap.look d.fs k <;> simp [renameS, hk]
    split
    · rfl
    · split <;> rfl
def opV (kind : Int) (s t u : ByteArray) : Value := .agg #[.int .i64 kind, .string s, .string t, .string u]
theorem ret_int {a b : Int} (h : a = b) : Ending.returned (.int .i64 a) = .returned (.int .i64 b) := by rw [h]
theorem blk_new_at (w : World) (g : Nat) (hg : g = w.heap.size) (cs : List Value) (T : TypeId) : Blk (w.alloc (.cells cs.toArray T)) g cs := hg ▸ blk_new w cs T
set_option maxRecDepth 100000 in
set_option maxHeartbeats 4000000 in
theorem rwrong_any (x : Rf) (kind : Int) (s t u : ByteArray) (w : World) (hx : x.ok w) (hs : s.size ≤ 1000) (ht : t.size ≤ 1000) (hu : u.size ≤ 1000000) (hcap : x.d.cap ≤ 67108864) (hroom : tot x.d.fs ≤ x.d.cap) :
    Calls Try.prog 55 #[x.v, opV kind s t u] w fun e w' => e = .returned (.int .i64 (wrongI kind s.data.toList t.data.toList u.size x.d)) ∧ Below w.heap.size w w' := by
  have HX := Lib.hid hx
  have HA := Lib.hid (fun (wx : World) (h : x.ok wx) => rAt_any x s wx h)
  have HU := Lib.hid (fun (wx : World) (h : x.ok wx) => rUsed_any x wx h (by rw [usedN_tot]; omega))
  have HN1 := Lib.hid (fun wx => rname_any s wx (by omega))
  have HN2 := Lib.hid (fun wx => rname_any t wx (by omega))
  have hfew := hx.few
  have hpl := place_of s.data.toList x.d.fs
  obtain ⟨A, c, d⟩ := x
  obtain ⟨⟨steps, left, down⟩, cap, fs⟩ := d
  unfold Rf.v at HA HU ⊢
  obtain ⟨res, hres⟩ : ∃ r, r = wrongI kind s.data.toList t.data.toList u.size ⟨⟨steps, left, down⟩, cap, fs⟩ := ⟨_, rfl⟩
  unfold opV
  simp only at hfew hcap hroom hpl HA HU ⊢
  rw [← hres]
  unfold wrongI at hres
  simp only at hres
  have hB : Below w.heap.size w ((w.alloc (.cells #[.slice A fs.length c, .int .i64 (cap : Nat), .int .i64 (left : Nat), .int .i64 (steps : Nat), .bool down] 32)).alloc (.cells #[.int .i64 kind, .string s, .string t, .string u] 81)) := ((Below.refl _ _).alloc (Nat.le_refl _) _).alloc (by simp) _
  have HB := Lib.hid hB
  obtain ⟨pl, hpe⟩ : ∃ pl : Int, pl = placeI s.data.toList fs := ⟨_, rfl⟩
  rw [← hpe] at HA
  have hpl2 : (pl = -1 ∧ omap.look fs s.data.toList = none) ∨ (0 ≤ pl ∧ pl ≤ 1000000 ∧ (omap.look fs s.data.toList).isSome = true) := by
    rcases hpl with ⟨h1, h2⟩ | ⟨i, hi, h1, h2, h3⟩
    · exact .inl ⟨hpe.trans h1, h2⟩
    · exact .inr ⟨by omega, by omega, by rw [h3]; rfl⟩
  have HPL := Lib.hid hpl2
  have HTC := Lib.hid (show (tot fs : Int) ≤ 67108864 ∧ (u.size : Int) ≤ 1000000 ∧ (fs.length : Int) ≤ 1000000 by omega)
  rw [show usedN fs = tot fs from rfl] at HU
  obtain ⟨tt, htt⟩ : ∃ tt, tt = tot fs := ⟨_, rfl⟩
  rw [← htt] at HU HTC hres
  have HRES := Lib.hid hres
  clear hres
  clear hx hs ht hB hpl hpe hpl2 hfew hcap hroom hu htt
  by_cases hk : kind = 1
  · subst hk
    go_enter Try.func55, Try.ntmps55
    go_wp2_with (fail)
    refine (HA.out _ (HX.out.below HB.out)).mono ?_
    rintro r w1 ⟨rfl, hb1⟩
    have HB1 := Lib.hid (HB.out.trans (hb1.mono HB.out.size))
    have bk0 : Blk w1 w.heap.size [.slice A fs.length c, .int .i64 (cap : Nat), .int .i64 (left : Nat), .int .i64 (steps : Nat), .bool down] := ((blk_new w _ _).stays (heap_alloc_old _ _ (by simp))).stays (hb1.block _ (by simp; omega))
    have bk1 : Blk w1 (w.heap.size + 1) [.int .i64 1, .string s, .string t, .string u] := (blk_new_at (w.alloc _) _ (by simp) _ _).stays (hb1.block _ (by simp))
    have hz1 : w.heap.size + 2 ≤ w1.heap.size := by have := hb1.size; simpa using this
    have o0 : w1.cell? ⟨w.heap.size + 1, 0, none⟩ = some (.int .i64 1) := bk1.cell 0
    have o1 : w1.cell? ⟨w.heap.size + 1, 1, none⟩ = some (.string s) := bk1.cell 1
    have d0 : w1.cell? ⟨w.heap.size, 0, none⟩ = some (.slice A fs.length c) := bk0.cell 0
    clear hb1 bk0 bk1 HA
    go_wp2_with (fail)
    refine (HN1.out w1).mono ?_
    rintro r w2 ⟨rfl, rfl⟩
    rcases HPL.out with ⟨p1, p2⟩ | ⟨p1, p2, p3⟩
    · have HP2 := Lib.hid p2
      subst p1
      clear p2
      cases hn : nameB s.data.toList
      all_goals go_wp2_with (fail)
      all_goals go_ret
      all_goals refine ⟨ret_int ?_, HB1.out⟩
      all_goals have p2 := HP2.out
      all_goals have hr := HRES.out
      all_goals rw [p2] at hr
      all_goals rw [hr]
      all_goals clear hr HRES HB1 HU HN1 HN2 HX HP2 p2
      all_goals simp_all
      all_goals try omega
    · have HP3 := Lib.hid p3
      clear p3
      cases hn : nameB s.data.toList
      all_goals go_wp2_with (fail)
      all_goals go_ret
      all_goals refine ⟨ret_int ?_, HB1.out⟩
      all_goals have p3 := HP3.out
      all_goals have hr := HRES.out
      all_goals rw [p3] at hr
      all_goals rw [hr]
      all_goals clear hr HRES HB1 HU HN1 HN2 HX HP3 p3
      all_goals simp_all
      all_goals try omega
  · have tk1 : (kind == 1) = false := by simpa using hk
    have HK : Hid (res = if omap.look fs s.data.toList = none then 14 else if kind = 2 ∧ cap < tt + u.size then 23 else if kind = 5 ∧ nameB t.data.toList = false then 25 else 0) := by show _ = _; rw [HRES.out, if_neg hk]
    clear hk
    go_enter Try.func55, Try.ntmps55
    go_wp2_with (fail)
    refine (HA.out _ (HX.out.below HB.out)).mono ?_
    rintro r w1 ⟨rfl, hb1⟩
    have HB1 := Lib.hid (HB.out.trans (hb1.mono HB.out.size))
    have bk0 : Blk w1 w.heap.size [.slice A fs.length c, .int .i64 (cap : Nat), .int .i64 (left : Nat), .int .i64 (steps : Nat), .bool down] := ((blk_new w _ _).stays (heap_alloc_old _ _ (by simp))).stays (hb1.block _ (by simp; omega))
    have bk1 : Blk w1 (w.heap.size + 1) [.int .i64 kind, .string s, .string t, .string u] := (blk_new_at (w.alloc _) _ (by simp) _ _).stays (hb1.block _ (by simp))
    have hz1 : w.heap.size + 2 ≤ w1.heap.size := by have := hb1.size; simpa using this
    have o0 : w1.cell? ⟨w.heap.size + 1, 0, none⟩ = some (.int .i64 kind) := bk1.cell 0
    have o1 : w1.cell? ⟨w.heap.size + 1, 1, none⟩ = some (.string s) := bk1.cell 1
    have o2 : w1.cell? ⟨w.heap.size + 1, 2, none⟩ = some (.string t) := bk1.cell 2
    have o3 : w1.cell? ⟨w.heap.size + 1, 3, none⟩ = some (.string u) := bk1.cell 3
    have d0 : w1.cell? ⟨w.heap.size, 0, none⟩ = some (.slice A fs.length c) := bk0.cell 0
    have d1 : w1.cell? ⟨w.heap.size, 1, none⟩ = some (.int .i64 (cap : Nat)) := bk0.cell 1
    have d2 : w1.cell? ⟨w.heap.size, 2, none⟩ = some (.int .i64 (left : Nat)) := bk0.cell 2
    have d3 : w1.cell? ⟨w.heap.size, 3, none⟩ = some (.int .i64 (steps : Nat)) := bk0.cell 3
    have d4 : w1.cell? ⟨w.heap.size, 4, none⟩ = some (.bool down) := bk0.cell 4
    clear hb1 HA
    rcases HPL.out with ⟨p1, p2⟩ | ⟨p1, p2, p3⟩
    · have HR : Hid (res = 14) := by show _ = _; rw [HK.out, if_pos p2]
      subst p1
      clear p2
      go_wp2_with (fail)
      go_ret
      rw [HR.out]
      exact ⟨rfl, HB1.out⟩
    · have HR : Hid (res = if kind = 2 ∧ cap < tt + u.size then 23 else if kind = 5 ∧ nameB t.data.toList = false then 25 else 0) := by show _ = _; rw [HK.out, if_neg (fun h => by rw [h] at p3; cases p3)]
      have tp : decide (pl < 0) = false := by simp; omega
      clear p3
      by_cases hk2 : kind = 2
      · subst hk2
        have htc := HTC.out
        have ta : (tt : Int) ≤ 67108864 := htc.1
        have tb : (u.size : Int) ≤ 1000000 := htc.2.1
        have HXA := Lib.hid (HX.out.below HB1.out)
        have B0 := Lib.hid bk0
        have B1 := Lib.hid bk1
        have EW : Hid (IntKind.i64.wrap ((tt : Int) + (u.size : Int)) = (tt : Int) + (u.size : Int)) := by show _ = _; rw [IntKind.wrap_i64]; omega
        clear htc bk0 bk1
        generalize w1 = wA at *
        go_wp2_with (fail)
        refine regs.wp_region_put (regs.bl) (regs.noJ) [25, 26, 27, 28, 29, 30, 31, 32, 33, 34, 35, 36, 37, 38] (by kernel_rfl) (by kernel_rfl) (fun _ => regs.bl_refl _) (regs.bl_trans) (fun i => (match i with
          | 0 => regs.Say.val _ (.pointer (some ⟨w.heap.size + 1, 0, none⟩))
          | 1 => regs.Say.val _ (.int .i64 2)
          | 2 => regs.Say.val _ (.bool true)
          | 3 => regs.Say.val _ (.bool true)
          | 4 => regs.Say.val _ (.agg #[.slice A fs.length c, .int .i64 (cap : Nat), .int .i64 (left : Nat), .int .i64 (steps : Nat), .bool down])
          | 5 => regs.Say.val _ (.int .i64 (tt : Nat))
          | 6 => regs.Say.val _ (.pointer (some ⟨w.heap.size + 1, 3, none⟩))
          | 7 => regs.Say.val _ (.string u)
          | 8 => regs.Say.val _ (.int .i64 (u.size : Nat))
          | 9 => regs.Say.val _ (.int .i64 ((tt : Int) + (u.size : Int)))
          | 10 => regs.Say.val _ (.pointer (some ⟨w.heap.size, 1, none⟩))
          | 11 => regs.Say.val _ (.int .i64 (cap : Nat))
          | 12 => regs.Say.val _ (.bool (decide ((cap : Int) < (tt : Int) + (u.size : Int))))
          | 13 => regs.Say.val _ (.bool (decide ((cap : Int) < (tt : Int) + (u.size : Int))))
          | _ => regs.Say.any _ : regs.Say (regs.bl)).p) (fun _ => regs.Say.mono _) (by kernel_rfl) ((Below.refl _ _).drew) (regs.noJ_ok _ _) ⟨?_, ?_, ?_, ?_, ?_, ?_, ?_, ?_, ?_, ?_, ?_, ?_, ?_, ?_, trivial⟩ ?_
        · refine regs.StepOK.plain rfl fun L a w1 hh => ?_
          have h3 : a.tmps[3]?.getD undef = .pointer (some ⟨w.heap.size + 1, 0, none⟩) := by rw [← Array.getD_eq_getD_getElem?]; exact hh.old 3 rfl
          have hJ := Lib.hid hh.st
          clear hh
          go_simp
          exact ⟨_, rfl, regs.bl_refl _, rfl, hJ.out⟩
        · refine regs.StepOK.plain rfl fun L a w1 hh => ?_
          have h25 : a.tmps[25]?.getD undef = .pointer (some ⟨w.heap.size + 1, 0, none⟩) := by rw [← Array.getD_eq_getD_getElem?]; exact hh.dep 0 25 (by kernel_rfl) (by kernel_rfl)
          have hr := (show Below wA.heap.size wA w1 from hh.rel)
          have q0 := (hr.cell (p := ⟨w.heap.size + 1, 0, none⟩) (by simp; omega)).trans (B1.out.cell 0)
          have hJ := Lib.hid hh.st
          clear hh
          go_simp
          exact ⟨_, rfl, regs.bl_refl _, rfl, hJ.out⟩
        · refine regs.StepOK.plain rfl fun L a w1 hh => ?_
          have h26 : a.tmps[26]?.getD undef = .int .i64 2 := by rw [← Array.getD_eq_getD_getElem?]; exact hh.dep 1 26 (by kernel_rfl) (by kernel_rfl)
          have hJ := Lib.hid hh.st
          clear hh
          go_simp
          exact ⟨_, rfl, regs.bl_refl _, rfl, hJ.out⟩
        · refine regs.StepOK.plain rfl fun L a w1 hh => ?_
          have h27 : a.tmps[27]?.getD undef = .bool true := by rw [← Array.getD_eq_getD_getElem?]; exact hh.dep 2 27 (by kernel_rfl) (by kernel_rfl)
          have hJ := Lib.hid hh.st
          clear hh
          go_simp
          exact ⟨_, rfl, regs.bl_refl _, rfl, hJ.out⟩
        · refine regs.StepOK.yes 3 true 28 rfl rfl (fun L a w1 hh => hh.dep 3 28 (by kernel_rfl) (by kernel_rfl)) fun L a w1 hh => ?_
          have h2 : a.tmps[2]?.getD undef = .pointer (some ⟨w.heap.size, 0, none⟩) := by rw [← Array.getD_eq_getD_getElem?]; exact hh.old 2 rfl
          have hr := (show Below wA.heap.size wA w1 from hh.rel)
          have q0 := (hr.cell (p := ⟨w.heap.size, 0, none⟩) (by simp; omega)).trans (B0.out.cell 0)
          have q1 := (hr.cell (p := ⟨w.heap.size, 1, none⟩) (by simp; omega)).trans (B0.out.cell 1)
          have q2 := (hr.cell (p := ⟨w.heap.size, 2, none⟩) (by simp; omega)).trans (B0.out.cell 2)
          have q3 := (hr.cell (p := ⟨w.heap.size, 3, none⟩) (by simp; omega)).trans (B0.out.cell 3)
          have q4 := (hr.cell (p := ⟨w.heap.size, 4, none⟩) (by simp; omega)).trans (B0.out.cell 4)
          have hJ := Lib.hid hh.st
          clear hh
          go_simp
          exact ⟨_, rfl, regs.bl_refl _, rfl, hJ.out⟩
        · refine regs.StepOK.yes 3 true 28 rfl rfl (fun L a w1 hh => hh.dep 3 28 (by kernel_rfl) (by kernel_rfl)) fun L a w1 hh => ?_
          have h29 : a.tmps[29]?.getD undef = .agg #[.slice A fs.length c, .int .i64 (cap : Nat), .int .i64 (left : Nat), .int .i64 (steps : Nat), .bool down] := by rw [← Array.getD_eq_getD_getElem?]; exact hh.dep 4 29 (by kernel_rfl) (by kernel_rfl)
          have hr := (show Below wA.heap.size wA w1 from hh.rel)
          have hJ := Lib.hid hh.st
          clear hh
          go_simp
          refine (HU.out w1 (HXA.out.below hr)).mono ?_
          rintro r w2 ⟨rfl, hb⟩
          exact ⟨_, rfl, hb, rfl, hJ.out⟩
        · refine regs.StepOK.yes 3 true 28 rfl rfl (fun L a w1 hh => hh.dep 3 28 (by kernel_rfl) (by kernel_rfl)) fun L a w1 hh => ?_
          have h3 : a.tmps[3]?.getD undef = .pointer (some ⟨w.heap.size + 1, 0, none⟩) := by rw [← Array.getD_eq_getD_getElem?]; exact hh.old 3 rfl
          have hJ := Lib.hid hh.st
          clear hh
          go_simp
          exact ⟨_, rfl, regs.bl_refl _, rfl, hJ.out⟩
        · refine regs.StepOK.yes 3 true 28 rfl rfl (fun L a w1 hh => hh.dep 3 28 (by kernel_rfl) (by kernel_rfl)) fun L a w1 hh => ?_
          have h31 : a.tmps[31]?.getD undef = .pointer (some ⟨w.heap.size + 1, 3, none⟩) := by rw [← Array.getD_eq_getD_getElem?]; exact hh.dep 6 31 (by kernel_rfl) (by kernel_rfl)
          have hr := (show Below wA.heap.size wA w1 from hh.rel)
          have q3 := (hr.cell (p := ⟨w.heap.size + 1, 3, none⟩) (by simp; omega)).trans (B1.out.cell 3)
          have hJ := Lib.hid hh.st
          clear hh
          go_simp
          exact ⟨_, rfl, regs.bl_refl _, rfl, hJ.out⟩
        · refine regs.StepOK.yes 3 true 28 rfl rfl (fun L a w1 hh => hh.dep 3 28 (by kernel_rfl) (by kernel_rfl)) fun L a w1 hh => ?_
          have h32 : a.tmps[32]?.getD undef = .string u := by rw [← Array.getD_eq_getD_getElem?]; exact hh.dep 7 32 (by kernel_rfl) (by kernel_rfl)
          have hJ := Lib.hid hh.st
          clear hh
          go_simp
          exact ⟨_, rfl, regs.bl_refl _, rfl, hJ.out⟩
        · refine regs.StepOK.yes 3 true 28 rfl rfl (fun L a w1 hh => hh.dep 3 28 (by kernel_rfl) (by kernel_rfl)) fun L a w1 hh => ?_
          have h30 : a.tmps[30]?.getD undef = .int .i64 (tt : Nat) := by rw [← Array.getD_eq_getD_getElem?]; exact hh.dep 5 30 (by kernel_rfl) (by kernel_rfl)
          have h33 : a.tmps[33]?.getD undef = .int .i64 (u.size : Nat) := by rw [← Array.getD_eq_getD_getElem?]; exact hh.dep 8 33 (by kernel_rfl) (by kernel_rfl)
          have ew := EW.out
          have hJ := Lib.hid hh.st
          clear hh
          go_simp
          exact ⟨_, rfl, regs.bl_refl _, rfl, hJ.out⟩
        · refine regs.StepOK.yes 3 true 28 rfl rfl (fun L a w1 hh => hh.dep 3 28 (by kernel_rfl) (by kernel_rfl)) fun L a w1 hh => ?_
          have h2 : a.tmps[2]?.getD undef = .pointer (some ⟨w.heap.size, 0, none⟩) := by rw [← Array.getD_eq_getD_getElem?]; exact hh.old 2 rfl
          have hJ := Lib.hid hh.st
          clear hh
          go_simp
          exact ⟨_, rfl, regs.bl_refl _, rfl, hJ.out⟩
        · refine regs.StepOK.yes 3 true 28 rfl rfl (fun L a w1 hh => hh.dep 3 28 (by kernel_rfl) (by kernel_rfl)) fun L a w1 hh => ?_
          have h35 : a.tmps[35]?.getD undef = .pointer (some ⟨w.heap.size, 1, none⟩) := by rw [← Array.getD_eq_getD_getElem?]; exact hh.dep 10 35 (by kernel_rfl) (by kernel_rfl)
          have hr := (show Below wA.heap.size wA w1 from hh.rel)
          have q1 := (hr.cell (p := ⟨w.heap.size, 1, none⟩) (by simp; omega)).trans (B0.out.cell 1)
          have hJ := Lib.hid hh.st
          clear hh
          go_simp
          exact ⟨_, rfl, regs.bl_refl _, rfl, hJ.out⟩
        · refine regs.StepOK.yes 3 true 28 rfl rfl (fun L a w1 hh => hh.dep 3 28 (by kernel_rfl) (by kernel_rfl)) fun L a w1 hh => ?_
          have h34 : a.tmps[34]?.getD undef = .int .i64 ((tt : Int) + (u.size : Int)) := by rw [← Array.getD_eq_getD_getElem?]; exact hh.dep 9 34 (by kernel_rfl) (by kernel_rfl)
          have h36 : a.tmps[36]?.getD undef = .int .i64 (cap : Nat) := by rw [← Array.getD_eq_getD_getElem?]; exact hh.dep 11 36 (by kernel_rfl) (by kernel_rfl)
          have hJ := Lib.hid hh.st
          clear hh
          go_simp
          exact ⟨_, rfl, regs.bl_refl _, rfl, hJ.out⟩
        · refine regs.StepOK.plain rfl fun L a w1 hh => ?_
          have h28 : a.tmps[28]?.getD undef = .bool true := by rw [← Array.getD_eq_getD_getElem?]; exact hh.dep 3 28 (by kernel_rfl) (by kernel_rfl)
          have h37 : a.tmps[37]?.getD undef = .bool (decide ((cap : Int) < (tt : Int) + (u.size : Int))) := by rw [← Array.getD_eq_getD_getElem?]; exact hh.dep 12 37 (by kernel_rfl) (by kernel_rfl)
          have hJ := Lib.hid hh.st
          clear hh
          go_simp
          exact ⟨_, rfl, regs.bl_refl _, rfl, hJ.out⟩
        intro L w3 val hL hJ hb hf
        have h38 : val 38 = .bool (decide ((cap : Int) < (tt : Int) + (u.size : Int))) := hf 13 38 (by kernel_rfl)
        have hbb : Below wA.heap.size wA w3 := hb
        have HB2 := Lib.hid (HB1.out.trans (hbb.mono HB1.out.size))
        have o02 : w3.cell? ⟨w.heap.size + 1, 0, none⟩ = some (.int .i64 2) := (hbb.cell (p := ⟨_, 0, none⟩) (by simp; omega)).trans (B1.out.cell 0)
        clear hf hb hJ hL hbb o0 o1 o2 o3 d0 d1 d2 d3 d4
        simp only [regs.putAll, List.map_cons, List.map_nil]
        rw [h38]
        by_cases hgt : cap < tt + u.size
        · have tg : decide ((cap : Int) < (tt : Int) + (u.size : Int)) = true := by simp; omega
          rw [tg]
          have HR2 : Hid (res = 23) := by show _ = _; rw [HR.out]; simp [hgt]
          clear hgt tg
          go_simp
          go_wp2_with (fail)
          go_ret
          rw [HR2.out]
          exact ⟨rfl, HB2.out⟩
        · have tg : decide ((cap : Int) < (tt : Int) + (u.size : Int)) = false := by simp; omega
          rw [tg]
          have HR2 : Hid (res = 0) := by show _ = _; rw [HR.out]; simp [hgt]
          clear hgt tg
          go_simp
          go_wp2_with (fail)
          go_ret
          rw [HR2.out]
          exact ⟨rfl, HB2.out⟩
      · have tk2 : (kind == 2) = false := by simpa using hk2
        have HR3 : Hid (res = if kind = 5 ∧ nameB t.data.toList = false then 25 else 0) := by show _ = _; rw [HR.out, if_neg (fun h => hk2 h.1)]
        go_wp2_with (fail)
        go_quiet (fail)
        have HBQ : Hid (Below w.heap.size w (w1.drewN nq)) := ⟨HB1.out.os, HB1.out.tape, HB1.out.output, HB1.out.size, HB1.out.block⟩
        have e0 : (w1.drewN nq).cell? ⟨w.heap.size + 1, 0, none⟩ = some (.int .i64 kind) := o0
        have e2 : (w1.drewN nq).cell? ⟨w.heap.size + 1, 2, none⟩ = some (.string t) := o2
        clear o0 o1 o2 o3 d0 d1 d2 d3 d4 HB1 bk0 bk1 hz1
        generalize w1.drewN nq = wq at *
        by_cases hk5 : kind = 5
        · subst hk5
          go_wp2_with (fail)
          refine (HN2.out wq).mono ?_
          rintro r w2 ⟨rfl, rfl⟩
          cases hn : nameB t.data.toList
          all_goals go_wp2_with (fail)
          all_goals go_ret
          all_goals refine ⟨ret_int ?_, HBQ.out⟩
          all_goals rw [HR3.out, hn]
          all_goals simp
        · have tk5 : (kind == 5) = false := by simpa using hk5
          have HR2 : Hid (res = 0) := by show _ = _; rw [HR3.out, if_neg (fun h => hk5 h.1)]
          clear hk2 hk5
          go_wp2_with (fail)
          all_goals go_ret
          all_goals rw [HR2.out]
          all_goals exact ⟨rfl, HBQ.out⟩
end Go.Proofs.Ytpnhgongjfknbaa
