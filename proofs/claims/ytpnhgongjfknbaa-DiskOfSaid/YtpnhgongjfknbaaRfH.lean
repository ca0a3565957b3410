/-
  The document's own disk: a command.
-/
import Derived.Test.YtpnhgongjfknbaaRfG
namespace Go.Proofs.Ytpnhgongjfknbaa
open Go.RowKit omap

theorem results_cell_slot {P : Program} {fn : Func} {p q : Tmp} {ty : TypeId} (h : fn.results = #[.cell p ty, .tmp q]) (tmps : Array Value) (w : World) (g : Nat) (t : TypeId) (cs : Array Value) (fr : Nat × Nat) (d : TypeDesc) (v : Value)
    (hp : tmps.getD p undef = .pointer (some ⟨g, 0, none⟩)) (hq : tmps.getD q undef = v) (hg : w.heap[g]? = some (.cells cs t fr))
    (hu : P.underlying ty = some d) (hd : (match d with | .struct _ | .array _ _ => true | _ => false) = true) (hi : (P.info? ty).map (·.size) = some cs.size) :
    (results fn tmps).run P w = .ok (.tuple #[.agg cs, v]) w := by
  have hp' : tmps[p]?.getD undef = .pointer (some ⟨g, 0, none⟩) := by simpa using hp
  have hq' : tmps[q]?.getD undef = v := by simpa using hq
  simp [results, h, hp', hq', asAddr, run_loadVar_row w g t ty cs fr d hg hu hd hi]
theorem del_del_com {α : Type} (k j : Nm) (l : List (Nm × α)) : omap.del k (omap.del j l) = omap.del j (omap.del k l) := by
  unfold omap.del
  rw [List.filter_filter, List.filter_filter]
  congr 1
  funext x
  exact Bool.and_comm _ _
theorem del_twice {α : Type} (k : Nm) (l : List (Nm × α)) : omap.del k (omap.del k l) = omap.del k l := by
  unfold omap.del
  rw [List.filter_filter]
  congr 1
  funext x
  exact Bool.and_self _
/-- a command that may be leaves what it should -/
theorem done_op {kind : Int} (h1 : 2 ≤ kind) (h2 : kind ≤ 5) (k j : Nm) (l : List Nat) (cap : Nat) (fs : Fs) (hr : Rises lt fs) (h : (opS kind k j l cap fs).1 = 0) :
    ∃ f, omap.look fs k = some f ∧ (opS kind k j l cap fs).2 = doneS kind k j l f fs := by
  have hc : kind = 2 ∨ kind = 3 ∨ kind = 4 ∨ kind = 5 := by omega
  cases hk : omap.look fs k with
  | none => rcases hc with rfl | rfl | rfl | rfl <;> simp [opS, writeS, syncS, removeS, renameS, hk] at h
  | some f =>
    refine ⟨f, rfl, ?_⟩
    rcases hc with rfl | rfl | rfl | rfl
    · simp only [opS, writeS, hk, doneS] at h ⊢
      simp only [show ¬ (2 : Int) = 1 by omega, if_false, if_true] at h ⊢
      split at h
      · cases h
      · rename_i hn
        rw [if_neg hn]
    · simp [opS, syncS, hk, doneS]
    · simp [opS, removeS, hk, doneS]
    · simp only [opS, renameS, hk, doneS] at h ⊢
      simp only [show ¬ (5 : Int) = 1 by omega, show ¬ (5 : Int) = 2 by omega, show ¬ (5 : Int) = 3 by omega, show ¬ (5 : Int) = 4 by omega, if_false, if_true] at h ⊢
      split at h
      · cases h
      · rename_i hn
        rw [if_neg hn]
        by_cases hkj : k = j
        · subst hkj
          rw [if_pos rfl]
          show fs = ins lt k f (omap.del k (omap.del k fs))
          rw [del_twice]
          exact (put_same hr hk).symm
        · rw [if_neg hkj]
          show ins lt j f (omap.del j (omap.del k (omap.del j fs))) = ins lt j f (omap.del j (omap.del k fs))
          rw [del_del_com k j, del_twice]
theorem op_same {kind : Int} (k j : Nm) (l : List Nat) (cap : Nat) (fs : Fs) (h : (opS kind k j l cap fs).1 ≠ 0) : (opS kind k j l cap fs).2 = fs := by
  unfold opS at h ⊢
  split
  · rename_i hk
    rw [if_pos hk] at h
    unfold createS at h ⊢
    split
    · rfl
    · split
      · rfl
      · split
        · rfl
        · rename_i a b c
          rw [if_neg a, if_neg b, if_neg c] at h
          exact absurd rfl h
  · rename_i hk
    rw [if_neg hk] at h
    split
    · rename_i hk
      rw [if_pos hk] at h
      unfold writeS at h ⊢
      split
      · rfl
      · rename_i f hf
        rw [hf] at h
        simp only at h ⊢
        split
        · rfl
        · rename_i hn
          rw [if_neg hn] at h
          exact absurd rfl h
    · rename_i hk
      rw [if_neg hk] at h
      split
      · rename_i hk
        rw [if_pos hk] at h
        unfold syncS at h ⊢
        split
        · rfl
        · rename_i f hf
          rw [hf] at h
          exact absurd rfl h
      · rename_i hk
        rw [if_neg hk] at h
        split
        · rename_i hk
          rw [if_pos hk] at h
          unfold removeS at h ⊢
          split
          · rfl
          · rename_i f hf
            rw [hf] at h
            exact absurd rfl h
        · rename_i hk
          rw [if_neg hk] at h
          unfold renameS at h ⊢
          split
          · rfl
          · rename_i f hf
            rw [hf] at h
            simp only at h ⊢
            split
            · rfl
            · rename_i hn
              rw [if_neg hn] at h
              split
              · rfl
              · rename_i hm
                rw [if_neg hm] at h
                exact absurd rfl h
theorem rdone_all (x : Rf) (kind : Int) (s t u : ByteArray) (w : World) (hx : x.ok w) (hfew : x.d.fs.length < 900000) (h1 : 1 ≤ kind) (h2 : kind ≤ 5) (hr : Rises lt x.d.fs) (he : (opS kind s.data.toList t.data.toList (natsOf u) x.d.cap x.d.fs).1 = 0)
    (hfb : ∀ y ∈ x.d.fs, AreBytes y.2.l ∧ y.2.l.length ≤ 1000000000) (hun : u.size ≤ 1000000) :
    Calls Try.prog 56 #[x.v, opV kind s t u] w fun e w' => ∃ r : Rf, e = .returned r.v ∧ r.ok w' ∧ r.d = { x.d with fs := (opS kind s.data.toList t.data.toList (natsOf u) x.d.cap x.d.fs).2 } ∧ Below w.heap.size w w' ∧ (∀ a, r.A = some a → w.heap.size ≤ a.block) := by
  by_cases hk : kind = 1
  · subst hk
    have e2 : (opS 1 s.data.toList t.data.toList (natsOf u) x.d.cap x.d.fs).2 = omap.put lt s.data.toList ⟨[], 0⟩ x.d.fs := by
      simp only [opS, if_true, createS] at he ⊢
      split
      · rename_i h; rw [if_pos h] at he; cases he
      · rename_i h; rw [if_neg h] at he
        split
        · rename_i h; rw [if_pos h] at he; cases he
        · rename_i h; rw [if_neg h] at he
          split
          · rename_i h; rw [if_pos h] at he; cases he
          · rfl
    rw [e2]
    exact rdone1_any x s t u w hx hfew
  · obtain ⟨f, hf, e2⟩ := done_op (by omega) h2 s.data.toList t.data.toList (natsOf u) x.d.cap x.d.fs hr he
    rw [e2]
    have hm := hfb _ (look_mem hf)
    exact rdone_any x kind s t u f w hx hfew hk hf hm.1 hm.2 hun
/-- what a command leaves if the power goes at it -/
def leaveS (kind : Int) (k j : Nm) (l : List Nat) (cap : Nat) : Fs → Int × Fs := if kind = 2 then opS kind k j l cap else idS
/-- a command told to the document's disk -/
def doS (kind : Int) (k j : Nm) (l : List Nat) (d : Dk) : Int × Dk := cmdS (opS kind k j l d.cap) (leaveS kind k j l d.cap) d
set_option maxRecDepth 100000 in
set_option maxHeartbeats 8000000 in
theorem rdo_any (x : Rf) (kind : Int) (s t u : ByteArray) (w : World) (hx : x.ok w) (hfew : x.d.fs.length < 900000) (h1 : 1 ≤ kind) (h2 : kind ≤ 5) (hr : Rises lt x.d.fs) (hfb : ∀ y ∈ x.d.fs, AreBytes y.2.l ∧ y.2.l.length ≤ 1000000000) (hun : u.size ≤ 1000000)
    (hs : s.size ≤ 1000) (ht : t.size ≤ 1000) (hcap : x.d.cap ≤ 67108864) (hroom : tot x.d.fs ≤ x.d.cap) (hst : x.d.p.steps ≤ 4611686018427387904) (hle : x.d.p.left ≤ 9223372036854775807) :
    Calls Try.prog 33 #[x.v, opV kind s t u] w fun e w' => ∃ r : Rf, e = .returned (.tuple #[r.v, .int .i64 (doS kind s.data.toList t.data.toList (natsOf u) x.d).1]) ∧ r.ok w' ∧ r.d = (doS kind s.data.toList t.data.toList (natsOf u) x.d).2 ∧ Below w.heap.size w w' ∧ ((r.A = x.A ∧ r.d.fs = x.d.fs) ∨ ∀ a, r.A = some a → w.heap.size ≤ a.block) := by
  have HX := Lib.hid hx
  have hW := fun (wx : World) (h : x.ok wx) => rwrong_any x kind s t u wx h hs ht hun hcap hroom
  have hD := fun (p2 : Pw) (he : (opS kind s.data.toList t.data.toList (natsOf u) x.d.cap x.d.fs).1 = 0) (wx : World) (h : (⟨x.A, x.c, ⟨p2, x.d.cap, x.d.fs⟩⟩ : Rf).ok wx) => rdone_all ⟨x.A, x.c, ⟨p2, x.d.cap, x.d.fs⟩⟩ kind s t u wx h hfew h1 h2 hr he hfb hun
  have hwo := wrong_op h1 h2 s.data.toList t.data.toList (natsOf u) x.d
  have hsame := op_same (kind := kind) s.data.toList t.data.toList (natsOf u) x.d.cap x.d.fs
  obtain ⟨A, c, d⟩ := x
  obtain ⟨⟨steps, left, down⟩, cap, fs⟩ := d
  simp only at hfew hr hfb hcap hroom hst hle hsame
  unfold doS leaveS
  simp only
  rw [natsOf_length] at hwo
  obtain ⟨X, hX⟩ : ∃ X, X = opS kind s.data.toList t.data.toList (natsOf u) cap fs := ⟨_, rfl⟩
  simp only at hwo hW hD
  rw [hwo] at hW
  rw [← hX] at hW hD hsame
  have hcmd : ∀ r : Int × Dk, r = cmdS (opS kind s.data.toList t.data.toList (natsOf u) cap) (if kind = 2 then opS kind s.data.toList t.data.toList (natsOf u) cap else idS) ⟨⟨steps, left, down⟩, cap, fs⟩ → r = if down = true then (24, ⟨⟨steps, left, down⟩, cap, fs⟩) else if left = 1 then (24, ⟨⟨steps + 1, 0, true⟩, cap, if kind = 2 then X.2 else fs⟩) else (X.1, ⟨⟨steps + 1, left - 1, false⟩, cap, X.2⟩) := by
    rintro r rfl
    rw [hX]
    unfold cmdS
    simp only
    split
    · rfl
    · split
      · by_cases hk : kind = 2
        · rw [if_pos hk, if_pos hk]
        · rw [if_neg hk, if_neg hk]
          rfl
      · rfl
  obtain ⟨R, hR⟩ : ∃ R, R = cmdS (opS kind s.data.toList t.data.toList (natsOf u) cap) (if kind = 2 then opS kind s.data.toList t.data.toList (natsOf u) cap else idS) ⟨⟨steps, left, down⟩, cap, fs⟩ := ⟨_, rfl⟩
  have HR := Lib.hid (hcmd R hR)
  rw [← hR]
  obtain ⟨e0, fsX⟩ := X
  simp only at hW hD hsame HR
  unfold Rf.v opV at hW hD ⊢
  simp only at hW hD ⊢
  have HW := Lib.hid hW
  have HD := Lib.hid hD
  have HSAME := Lib.hid hsame
  have hfl : Hid (fs.length ≤ 1000000) := by show _ ≤ _; omega
  have HROOM := Lib.hid hx.room
  simp only at HROOM
  clear hx hfew hr hfb hun hs ht hcap hroom hwo hcmd hR hX hW hD hsame
  go_enter Try.func33, Try.ntmps33
  go_upto_region 1 with (fail)
  have hBA : Below w.heap.size w (((w.alloc (.cells #[.slice A fs.length c, .int .i64 (cap : Nat), .int .i64 (left : Nat), .int .i64 (steps : Nat), .bool down] 32)).alloc (.cells #[.int .i64 kind, .string s, .string t, .string u] 81)).alloc (.cells #[.slice none 0 0, .int .i64 0, .int .i64 0, .int .i64 0, .bool false] 32)) := (((Below.refl _ _).alloc (Nat.le_refl _) _).alloc (by simp) _).alloc (by simp; omega) _
  have bD : Blk (((w.alloc (.cells #[.slice A fs.length c, .int .i64 (cap : Nat), .int .i64 (left : Nat), .int .i64 (steps : Nat), .bool down] 32)).alloc (.cells #[.int .i64 kind, .string s, .string t, .string u] 81)).alloc (.cells #[.slice none 0 0, .int .i64 0, .int .i64 0, .int .i64 0, .bool false] 32)) w.heap.size [.slice A fs.length c, .int .i64 (cap : Nat), .int .i64 (left : Nat), .int .i64 (steps : Nat), .bool down] := ((blk_new w _ _).stays (heap_alloc_old _ _ (by simp))).stays (heap_alloc_old _ _ (by simp; omega))
  have bO : Blk (((w.alloc (.cells #[.slice A fs.length c, .int .i64 (cap : Nat), .int .i64 (left : Nat), .int .i64 (steps : Nat), .bool down] 32)).alloc (.cells #[.int .i64 kind, .string s, .string t, .string u] 81)).alloc (.cells #[.slice none 0 0, .int .i64 0, .int .i64 0, .int .i64 0, .bool false] 32)) (w.heap.size + 1) [.int .i64 kind, .string s, .string t, .string u] := (blk_new_at (w.alloc _) _ (by simp) _ _).stays (heap_alloc_old _ _ (by simp))
  have bR : Blk (((w.alloc (.cells #[.slice A fs.length c, .int .i64 (cap : Nat), .int .i64 (left : Nat), .int .i64 (steps : Nat), .bool down] 32)).alloc (.cells #[.int .i64 kind, .string s, .string t, .string u] 81)).alloc (.cells #[.slice none 0 0, .int .i64 0, .int .i64 0, .int .i64 0, .bool false] 32)) (w.heap.size + 1 + 1) [.slice none 0 0, .int .i64 0, .int .i64 0, .int .i64 0, .bool false] := blk_new_at ((w.alloc _).alloc _) _ (by simp) _ _
  have hsz : (((w.alloc (.cells #[.slice A fs.length c, .int .i64 (cap : Nat), .int .i64 (left : Nat), .int .i64 (steps : Nat), .bool down] 32)).alloc (.cells #[.int .i64 kind, .string s, .string t, .string u] 81)).alloc (.cells #[.slice none 0 0, .int .i64 0, .int .i64 0, .int .i64 0, .bool false] 32)).heap.size = w.heap.size + 3 := by simp
  generalize (((w.alloc (.cells #[.slice A fs.length c, .int .i64 (cap : Nat), .int .i64 (left : Nat), .int .i64 (steps : Nat), .bool down] 32)).alloc (.cells #[.int .i64 kind, .string s, .string t, .string u] 81)).alloc (.cells #[.slice none 0 0, .int .i64 0, .int .i64 0, .int .i64 0, .bool false] 32)) = wA at *
  have hzA := hBA.size
  have hokA : (⟨A, c, ⟨⟨steps, left, down⟩, cap, fs⟩⟩ : Rf).ok wA := HX.out.below hBA
  have HOKA := Lib.hid hokA
  have HBA := Lib.hid hBA
  clear hBA hokA hzA
  cases down with
  | true =>
    have d0 : wA.cell? ⟨w.heap.size, 0, none⟩ = some (.slice A fs.length c) := bD.cell 0
    have d1 : wA.cell? ⟨w.heap.size, 1, none⟩ = some (.int .i64 (cap : Nat)) := bD.cell 1
    have d2 : wA.cell? ⟨w.heap.size, 2, none⟩ = some (.int .i64 (left : Nat)) := bD.cell 2
    have d3 : wA.cell? ⟨w.heap.size, 3, none⟩ = some (.int .i64 (steps : Nat)) := bD.cell 3
    have d4 : wA.cell? ⟨w.heap.size, 4, none⟩ = some (.bool true) := bD.cell 4
    have y2 : wA.frozen? ⟨w.heap.size, 2, none⟩ = false := bD.free 2
    have y3 : wA.frozen? ⟨w.heap.size, 3, none⟩ = false := bD.free 3
    have y4 : wA.frozen? ⟨w.heap.size, 4, none⟩ = false := bD.free 4
    have o0 : wA.cell? ⟨w.heap.size + 1, 0, none⟩ = some (.int .i64 kind) := bO.cell 0
    have o1 : wA.cell? ⟨w.heap.size + 1, 1, none⟩ = some (.string s) := bO.cell 1
    have o2 : wA.cell? ⟨w.heap.size + 1, 2, none⟩ = some (.string t) := bO.cell 2
    have o3 : wA.cell? ⟨w.heap.size + 1, 3, none⟩ = some (.string u) := bO.cell 3
    have r0 : wA.cell? ⟨w.heap.size + 1 + 1, 0, none⟩ = some (.slice none 0 0) := bR.cell 0
    have r1 : wA.cell? ⟨w.heap.size + 1 + 1, 1, none⟩ = some (.int .i64 0) := bR.cell 1
    have r2 : wA.cell? ⟨w.heap.size + 1 + 1, 2, none⟩ = some (.int .i64 0) := bR.cell 2
    have r3 : wA.cell? ⟨w.heap.size + 1 + 1, 3, none⟩ = some (.int .i64 0) := bR.cell 3
    have r4 : wA.cell? ⟨w.heap.size + 1 + 1, 4, none⟩ = some (.bool false) := bR.cell 4
    have z0 : wA.frozen? ⟨w.heap.size + 1 + 1, 0, none⟩ = false := bR.free 0
    have z1 : wA.frozen? ⟨w.heap.size + 1 + 1, 1, none⟩ = false := bR.free 1
    have z2 : wA.frozen? ⟨w.heap.size + 1 + 1, 2, none⟩ = false := bR.free 2
    have z3 : wA.frozen? ⟨w.heap.size + 1 + 1, 3, none⟩ = false := bR.free 3
    have z4 : wA.frozen? ⟨w.heap.size + 1 + 1, 4, none⟩ = false := bR.free 4
    have hll := laid5 (W := wA) (HBA.out) (by omega) rfl (bR) (.slice A fs.length c) (.int .i64 (cap : Nat)) (.int .i64 (left : Nat)) (.int .i64 (steps : Nat)) (.bool true)
    have HT := Lib.hid hll.1
    have HBZ := Lib.hid hll.2.1
    have HFAR := Lib.hid hll.2.2
    have HRR : Hid (R = (24, ⟨⟨steps, left, true⟩, cap, fs⟩)) := by show _ = _; rw [HR.out]; rfl
    clear hll
    go_wp2_with (fail)
    obtain ⟨T, hT⟩ := HT.out
    refine bodyPost_ret_by (results_cell_slot rfl _ _ (w.heap.size + 1 + 1) T _ _ _ _ (by kernel_rfl) rfl hT Try.underlying32 rfl (by kernel_rfl)) rfl ?_
    rw [HRR.out]
    refine ⟨⟨A, c, ⟨⟨steps, left, true⟩, cap, fs⟩⟩, rfl, ⟨HX.out.row.below HBZ.out, HROOM.out, hfl.out⟩, rfl, HBZ.out, .inl ⟨rfl, rfl⟩⟩
  | false =>
    have d0 : wA.cell? ⟨w.heap.size, 0, none⟩ = some (.slice A fs.length c) := bD.cell 0
    have d1 : wA.cell? ⟨w.heap.size, 1, none⟩ = some (.int .i64 (cap : Nat)) := bD.cell 1
    have d2 : wA.cell? ⟨w.heap.size, 2, none⟩ = some (.int .i64 (left : Nat)) := bD.cell 2
    have d3 : wA.cell? ⟨w.heap.size, 3, none⟩ = some (.int .i64 (steps : Nat)) := bD.cell 3
    have d4 : wA.cell? ⟨w.heap.size, 4, none⟩ = some (.bool false) := bD.cell 4
    have y2 : wA.frozen? ⟨w.heap.size, 2, none⟩ = false := bD.free 2
    have y3 : wA.frozen? ⟨w.heap.size, 3, none⟩ = false := bD.free 3
    have y4 : wA.frozen? ⟨w.heap.size, 4, none⟩ = false := bD.free 4
    have o0 : wA.cell? ⟨w.heap.size + 1, 0, none⟩ = some (.int .i64 kind) := bO.cell 0
    have o1 : wA.cell? ⟨w.heap.size + 1, 1, none⟩ = some (.string s) := bO.cell 1
    have o2 : wA.cell? ⟨w.heap.size + 1, 2, none⟩ = some (.string t) := bO.cell 2
    have o3 : wA.cell? ⟨w.heap.size + 1, 3, none⟩ = some (.string u) := bO.cell 3
    go_upto_region 3 with (fail)
    go_wp2_with (fail)
    refine (HW.out wA HOKA.out).mono ?_
    rintro r w1 ⟨rfl, hb1⟩
    have HB1 : Hid (Below w.heap.size w w1) := HBA.out.trans (hb1.mono HBA.out.size)
    have hz1 := hb1.size
    have bD1 := bD.stays (hb1.block _ (by omega))
    have bO1 := bO.stays (hb1.block _ (by omega))
    have bR1 := bR.stays (hb1.block _ (by omega))
    clear bD bO bR d0 d1 d2 d3 d4 y2 y3 y4 o0 o1 o2 o3 hb1
    have d0 : w1.cell? ⟨w.heap.size, 0, none⟩ = some (.slice A fs.length c) := bD1.cell 0
    have d1 : w1.cell? ⟨w.heap.size, 1, none⟩ = some (.int .i64 (cap : Nat)) := bD1.cell 1
    have d2 : w1.cell? ⟨w.heap.size, 2, none⟩ = some (.int .i64 (left : Nat)) := bD1.cell 2
    have d3 : w1.cell? ⟨w.heap.size, 3, none⟩ = some (.int .i64 (steps : Nat)) := bD1.cell 3
    have d4 : w1.cell? ⟨w.heap.size, 4, none⟩ = some (.bool false) := bD1.cell 4
    have y2 : w1.frozen? ⟨w.heap.size, 2, none⟩ = false := bD1.free 2
    have y3 : w1.frozen? ⟨w.heap.size, 3, none⟩ = false := bD1.free 3
    have y4 : w1.frozen? ⟨w.heap.size, 4, none⟩ = false := bD1.free 4
    have o0 : w1.cell? ⟨w.heap.size + 1, 0, none⟩ = some (.int .i64 kind) := bO1.cell 0
    have o1 : w1.cell? ⟨w.heap.size + 1, 1, none⟩ = some (.string s) := bO1.cell 1
    have o2 : w1.cell? ⟨w.heap.size + 1, 2, none⟩ = some (.string t) := bO1.cell 2
    have o3 : w1.cell? ⟨w.heap.size + 1, 3, none⟩ = some (.string u) := bO1.cell 3
    have r0 : w1.cell? ⟨w.heap.size + 1 + 1, 0, none⟩ = some (.slice none 0 0) := bR1.cell 0
    have r1 : w1.cell? ⟨w.heap.size + 1 + 1, 1, none⟩ = some (.int .i64 0) := bR1.cell 1
    have r2 : w1.cell? ⟨w.heap.size + 1 + 1, 2, none⟩ = some (.int .i64 0) := bR1.cell 2
    have r3 : w1.cell? ⟨w.heap.size + 1 + 1, 3, none⟩ = some (.int .i64 0) := bR1.cell 3
    have r4 : w1.cell? ⟨w.heap.size + 1 + 1, 4, none⟩ = some (.bool false) := bR1.cell 4
    have z0 : w1.frozen? ⟨w.heap.size + 1 + 1, 0, none⟩ = false := bR1.free 0
    have z1 : w1.frozen? ⟨w.heap.size + 1 + 1, 1, none⟩ = false := bR1.free 1
    have z2 : w1.frozen? ⟨w.heap.size + 1 + 1, 2, none⟩ = false := bR1.free 2
    have z3 : w1.frozen? ⟨w.heap.size + 1 + 1, 3, none⟩ = false := bR1.free 3
    have z4 : w1.frozen? ⟨w.heap.size + 1 + 1, 4, none⟩ = false := bR1.free 4
    obtain ⟨s1, hs1⟩ : ∃ s1, s1 = steps + 1 := ⟨_, rfl⟩
    have es : (steps : Int) + 1 = (s1 : Int) := by omega
    have est : (steps : Int) ≤ 4611686018427387904 := by omega
    have ele : (left : Int) ≤ 9223372036854775807 := by omega
    obtain ⟨l1, hl1⟩ : ∃ l1, l1 = left - 1 := ⟨_, rfl⟩
    have HS1 := Lib.hid hs1
    have HL1 := Lib.hid hl1
    clear hst hle hs1
    by_cases hl : left = 1
    · have te : ((left : Int) == 1) = true := by simp; omega
      have tg : decide (0 < left) = true := by simp; omega
      have el : (left : Int) - 1 = (l1 : Int) := by omega
      have HRX : Hid (R = (24, ⟨⟨s1, l1, true⟩, cap, if kind = 2 then fsX else fs⟩)) := by show _ = _; rw [HR.out, HS1.out, HL1.out, hl]; rfl
      clear hl hl1
      by_cases he0 : e0 = 0
      · subst he0
        by_cases hk2 : kind = 2
        · subst hk2
          go_wp2_with (fail)
          have hWB : Below w.heap.size w (((w1.setCell ⟨w.heap.size, 3, none⟩ (.int .i64 (s1 : Nat))).setCell ⟨w.heap.size, 2, none⟩ (.int .i64 (l1 : Nat))).setCell ⟨w.heap.size, 4, none⟩ (.bool true)) := (below_set (below_set (below_set HB1.out (Nat.le_refl _)) (Nat.le_refl _)) (Nat.le_refl _))
          refine (HD.out ⟨s1, l1, true⟩ (by simp) _ ⟨HX.out.row.below hWB, HROOM.out, hfl.out⟩).mono ?_
          rintro r w2 ⟨⟨A2, c2, d2⟩, rfl, hok2, hd2, hb2, hn2⟩
          simp only at hd2 hn2
          subst hd2
          simp only
          have HB2 : Hid (Below w.heap.size w w2) := hWB.trans (hb2.mono hWB.size)
          have hz2 : w1.heap.size ≤ w2.heap.size := by have := hb2.size; simpa [World.setCell] using this
          have bR2 := ((((bR1.stays (heap_setCell_other _ _ _ _ (by simp; omega))).stays (heap_setCell_other _ _ _ _ (by simp; omega))).stays (heap_setCell_other _ _ _ _ (by simp; omega)))).stays (hb2.block _ (by simp [World.setCell]; omega))
          have HN2 : Hid (∀ a, A2 = some a → w.heap.size + 2 < a.block) := fun a ha => by have := hn2 a ha; simp [World.setCell] at this; omega
          have HOK2 := Lib.hid hok2
          have bD2 := ((((bD1.set 3 (.int .i64 (s1 : Nat))).set 2 (.int .i64 (l1 : Nat))).set 4 (.bool true))).stays (hb2.block _ (by simp [World.setCell]; omega))
          have q0 : w2.cell? ⟨w.heap.size, 0, none⟩ = some (.slice A fs.length c) := bD2.cell 0
          have q1 : w2.cell? ⟨w.heap.size, 1, none⟩ = some (.int .i64 (cap : Nat)) := bD2.cell 1
          have q2 : w2.cell? ⟨w.heap.size, 2, none⟩ = some (.int .i64 (l1 : Nat)) := bD2.cell 2
          have q3 : w2.cell? ⟨w.heap.size, 3, none⟩ = some (.int .i64 (s1 : Nat)) := bD2.cell 3
          have q4 : w2.cell? ⟨w.heap.size, 4, none⟩ = some (.bool true) := bD2.cell 4
          have k0 : w2.frozen? ⟨w.heap.size, 0, none⟩ = false := bD2.free 0
          have k1 : w2.frozen? ⟨w.heap.size, 1, none⟩ = false := bD2.free 1
          have k2 : w2.frozen? ⟨w.heap.size, 2, none⟩ = false := bD2.free 2
          have k3 : w2.frozen? ⟨w.heap.size, 3, none⟩ = false := bD2.free 3
          have k4 : w2.frozen? ⟨w.heap.size, 4, none⟩ = false := bD2.free 4
          have r0 : w2.cell? ⟨w.heap.size + 1 + 1, 0, none⟩ = some (.slice none 0 0) := bR2.cell 0
          have r1 : w2.cell? ⟨w.heap.size + 1 + 1, 1, none⟩ = some (.int .i64 0) := bR2.cell 1
          have r2 : w2.cell? ⟨w.heap.size + 1 + 1, 2, none⟩ = some (.int .i64 0) := bR2.cell 2
          have r3 : w2.cell? ⟨w.heap.size + 1 + 1, 3, none⟩ = some (.int .i64 0) := bR2.cell 3
          have r4 : w2.cell? ⟨w.heap.size + 1 + 1, 4, none⟩ = some (.bool false) := bR2.cell 4
          have z0 : w2.frozen? ⟨w.heap.size + 1 + 1, 0, none⟩ = false := bR2.free 0
          have z1 : w2.frozen? ⟨w.heap.size + 1 + 1, 1, none⟩ = false := bR2.free 1
          have z2 : w2.frozen? ⟨w.heap.size + 1 + 1, 2, none⟩ = false := bR2.free 2
          have z3 : w2.frozen? ⟨w.heap.size + 1 + 1, 3, none⟩ = false := bR2.free 3
          have z4 : w2.frozen? ⟨w.heap.size + 1 + 1, 4, none⟩ = false := bR2.free 4
          have hl5 := laid5 HB2.out (Nat.le_refl _) rfl bD2 (.slice A2 fsX.length c2) (.int .i64 (cap : Nat)) (.int .i64 (l1 : Nat)) (.int .i64 (s1 : Nat)) (.bool true)
          have HL5 := Lib.hid hl5
          clear hl5 hok2 hn2 hb2
          have hll := laid5 (HL5.out.2.1) (by omega) rfl (bR2.stays (HL5.out.2.2 _ (by omega))) (.slice A2 fsX.length c2) (.int .i64 (cap : Nat)) (.int .i64 (l1 : Nat)) (.int .i64 (s1 : Nat)) (.bool true)
          have HT := Lib.hid hll.1
          have HBZ := Lib.hid hll.2.1
          have HFAR := Lib.hid hll.2.2
          have HRR : Hid (R = (24, ⟨⟨s1, l1, true⟩, cap, fsX⟩)) := by show _ = _; rw [HRX.out]; simp
          clear hll
          go_wp2_with (fail)
          obtain ⟨T, hT⟩ := HT.out
          refine bodyPost_ret_by (results_cell_slot rfl _ _ (w.heap.size + 1 + 1) T _ _ _ _ (by kernel_rfl) rfl hT Try.underlying32 rfl (by kernel_rfl)) rfl ?_
          rw [HRR.out]
          refine ⟨⟨A2, c2, ⟨⟨s1, l1, true⟩, cap, fsX⟩⟩, rfl, ⟨HOK2.out.row.stays fun hn a ha => (HFAR.out _ (by have := HN2.out a ha; omega)).trans (HL5.out.2.2 _ (by have := HN2.out a ha; omega)), HOK2.out.room, HOK2.out.few⟩, rfl, HBZ.out, .inr fun a ha => by have := HN2.out a ha; omega⟩
        · have tk : (kind == 2) = false := by simpa using hk2
          have hll := laid5 (W := ((w1.setCell ⟨w.heap.size, 3, none⟩ (.int .i64 (s1 : Nat))).setCell ⟨w.heap.size, 2, none⟩ (.int .i64 (l1 : Nat))).setCell ⟨w.heap.size, 4, none⟩ (.bool true)) ((below_set (below_set (below_set HB1.out (Nat.le_refl _)) (Nat.le_refl _)) (Nat.le_refl _))) (by omega) rfl ((((bR1.stays (heap_setCell_other _ _ _ _ (by simp; omega))).stays (heap_setCell_other _ _ _ _ (by simp; omega))).stays (heap_setCell_other _ _ _ _ (by simp; omega)))) (.slice A fs.length c) (.int .i64 (cap : Nat)) (.int .i64 (l1 : Nat)) (.int .i64 (s1 : Nat)) (.bool true)
          have HT := Lib.hid hll.1
          have HBZ := Lib.hid hll.2.1
          have HFAR := Lib.hid hll.2.2
          have HRR : Hid (R = (24, ⟨⟨s1, l1, true⟩, cap, fs⟩)) := by show _ = _; rw [HRX.out, if_neg hk2]
          clear hll
          go_wp2_with (fail)
          obtain ⟨T, hT⟩ := HT.out
          refine bodyPost_ret_by (results_cell_slot rfl _ _ (w.heap.size + 1 + 1) T _ _ _ _ (by kernel_rfl) rfl hT Try.underlying32 rfl (by kernel_rfl)) rfl ?_
          rw [HRR.out]
          refine ⟨⟨A, c, ⟨⟨s1, l1, true⟩, cap, fs⟩⟩, rfl, ⟨HX.out.row.below HBZ.out, HROOM.out, hfl.out⟩, rfl, HBZ.out, .inl ⟨rfl, rfl⟩⟩
      · have te0 : (e0 == 0) = false := by simpa using he0
        have HFSX := Lib.hid (HSAME.out he0)
        clear he0
        have hll := laid5 (W := ((w1.setCell ⟨w.heap.size, 3, none⟩ (.int .i64 (s1 : Nat))).setCell ⟨w.heap.size, 2, none⟩ (.int .i64 (l1 : Nat))).setCell ⟨w.heap.size, 4, none⟩ (.bool true)) ((below_set (below_set (below_set HB1.out (Nat.le_refl _)) (Nat.le_refl _)) (Nat.le_refl _))) (by omega) rfl ((((bR1.stays (heap_setCell_other _ _ _ _ (by simp; omega))).stays (heap_setCell_other _ _ _ _ (by simp; omega))).stays (heap_setCell_other _ _ _ _ (by simp; omega)))) (.slice A fs.length c) (.int .i64 (cap : Nat)) (.int .i64 (l1 : Nat)) (.int .i64 (s1 : Nat)) (.bool true)
        have HT := Lib.hid hll.1
        have HBZ := Lib.hid hll.2.1
        have HFAR := Lib.hid hll.2.2
        have HRR : Hid (R = (24, ⟨⟨s1, l1, true⟩, cap, fs⟩)) := by show _ = _; rw [HRX.out]; split <;> simp [HFSX.out]
        clear hll
        go_wp2_with (fail)
        obtain ⟨T, hT⟩ := HT.out
        refine bodyPost_ret_by (results_cell_slot rfl _ _ (w.heap.size + 1 + 1) T _ _ _ _ (by kernel_rfl) rfl hT Try.underlying32 rfl (by kernel_rfl)) rfl ?_
        rw [HRR.out]
        refine ⟨⟨A, c, ⟨⟨s1, l1, true⟩, cap, fs⟩⟩, rfl, ⟨HX.out.row.below HBZ.out, HROOM.out, hfl.out⟩, rfl, HBZ.out, .inl ⟨rfl, rfl⟩⟩
    · by_cases hl0 : left = 0
      · have te : ((left : Int) == 1) = false := by simp; omega
        have tg : decide (0 < left) = false := by simp; omega
        have HRX : Hid (R = (e0, ⟨⟨s1, left, false⟩, cap, fsX⟩)) := by show _ = _; rw [HR.out, HS1.out, hl0]; rfl
        clear hl hl0 hl1
        by_cases he0 : e0 = 0
        · subst he0
          go_wp2_with (fail)
          have hWB : Below w.heap.size w (w1.setCell ⟨w.heap.size, 3, none⟩ (.int .i64 (s1 : Nat))) := (below_set HB1.out (Nat.le_refl _))
          refine (HD.out ⟨s1, left, false⟩ (by simp) _ ⟨HX.out.row.below hWB, HROOM.out, hfl.out⟩).mono ?_
          rintro r w2 ⟨⟨A2, c2, d2⟩, rfl, hok2, hd2, hb2, hn2⟩
          simp only at hd2 hn2
          subst hd2
          simp only
          have HB2 : Hid (Below w.heap.size w w2) := hWB.trans (hb2.mono hWB.size)
          have hz2 : w1.heap.size ≤ w2.heap.size := by have := hb2.size; simpa [World.setCell] using this
          have bR2 := ((bR1.stays (heap_setCell_other _ _ _ _ (by simp; omega)))).stays (hb2.block _ (by simp [World.setCell]; omega))
          have HN2 : Hid (∀ a, A2 = some a → w.heap.size + 2 < a.block) := fun a ha => by have := hn2 a ha; simp [World.setCell] at this; omega
          have HOK2 := Lib.hid hok2
          have bD2 := ((bD1.set 3 (.int .i64 (s1 : Nat)))).stays (hb2.block _ (by simp [World.setCell]; omega))
          have q0 : w2.cell? ⟨w.heap.size, 0, none⟩ = some (.slice A fs.length c) := bD2.cell 0
          have q1 : w2.cell? ⟨w.heap.size, 1, none⟩ = some (.int .i64 (cap : Nat)) := bD2.cell 1
          have q2 : w2.cell? ⟨w.heap.size, 2, none⟩ = some (.int .i64 (left : Nat)) := bD2.cell 2
          have q3 : w2.cell? ⟨w.heap.size, 3, none⟩ = some (.int .i64 (s1 : Nat)) := bD2.cell 3
          have q4 : w2.cell? ⟨w.heap.size, 4, none⟩ = some (.bool false) := bD2.cell 4
          have k0 : w2.frozen? ⟨w.heap.size, 0, none⟩ = false := bD2.free 0
          have k1 : w2.frozen? ⟨w.heap.size, 1, none⟩ = false := bD2.free 1
          have k2 : w2.frozen? ⟨w.heap.size, 2, none⟩ = false := bD2.free 2
          have k3 : w2.frozen? ⟨w.heap.size, 3, none⟩ = false := bD2.free 3
          have k4 : w2.frozen? ⟨w.heap.size, 4, none⟩ = false := bD2.free 4
          have r0 : w2.cell? ⟨w.heap.size + 1 + 1, 0, none⟩ = some (.slice none 0 0) := bR2.cell 0
          have r1 : w2.cell? ⟨w.heap.size + 1 + 1, 1, none⟩ = some (.int .i64 0) := bR2.cell 1
          have r2 : w2.cell? ⟨w.heap.size + 1 + 1, 2, none⟩ = some (.int .i64 0) := bR2.cell 2
          have r3 : w2.cell? ⟨w.heap.size + 1 + 1, 3, none⟩ = some (.int .i64 0) := bR2.cell 3
          have r4 : w2.cell? ⟨w.heap.size + 1 + 1, 4, none⟩ = some (.bool false) := bR2.cell 4
          have z0 : w2.frozen? ⟨w.heap.size + 1 + 1, 0, none⟩ = false := bR2.free 0
          have z1 : w2.frozen? ⟨w.heap.size + 1 + 1, 1, none⟩ = false := bR2.free 1
          have z2 : w2.frozen? ⟨w.heap.size + 1 + 1, 2, none⟩ = false := bR2.free 2
          have z3 : w2.frozen? ⟨w.heap.size + 1 + 1, 3, none⟩ = false := bR2.free 3
          have z4 : w2.frozen? ⟨w.heap.size + 1 + 1, 4, none⟩ = false := bR2.free 4
          have hl5 := laid5 HB2.out (Nat.le_refl _) rfl bD2 (.slice A2 fsX.length c2) (.int .i64 (cap : Nat)) (.int .i64 (left : Nat)) (.int .i64 (s1 : Nat)) (.bool false)
          have HL5 := Lib.hid hl5
          clear hl5 hok2 hn2 hb2
          have hll := laid5 (HL5.out.2.1) (by omega) rfl (bR2.stays (HL5.out.2.2 _ (by omega))) (.slice A2 fsX.length c2) (.int .i64 (cap : Nat)) (.int .i64 (left : Nat)) (.int .i64 (s1 : Nat)) (.bool false)
          have HT := Lib.hid hll.1
          have HBZ := Lib.hid hll.2.1
          have HFAR := Lib.hid hll.2.2
          have HRR : Hid (R = (0, ⟨⟨s1, left, false⟩, cap, fsX⟩)) := by show _ = _; rw [HRX.out]
          clear hll
          go_wp2_with (fail)
          obtain ⟨T, hT⟩ := HT.out
          refine bodyPost_ret_by (results_cell_slot rfl _ _ (w.heap.size + 1 + 1) T _ _ _ _ (by kernel_rfl) rfl hT Try.underlying32 rfl (by kernel_rfl)) rfl ?_
          rw [HRR.out]
          refine ⟨⟨A2, c2, ⟨⟨s1, left, false⟩, cap, fsX⟩⟩, rfl, ⟨HOK2.out.row.stays fun hn a ha => (HFAR.out _ (by have := HN2.out a ha; omega)).trans (HL5.out.2.2 _ (by have := HN2.out a ha; omega)), HOK2.out.room, HOK2.out.few⟩, rfl, HBZ.out, .inr fun a ha => by have := HN2.out a ha; omega⟩
        · have te0 : (e0 == 0) = false := by simpa using he0
          have HFSX := Lib.hid (HSAME.out he0)
          clear he0
          have hll := laid5 (W := w1.setCell ⟨w.heap.size, 3, none⟩ (.int .i64 (s1 : Nat))) ((below_set HB1.out (Nat.le_refl _))) (by omega) rfl ((bR1.stays (heap_setCell_other _ _ _ _ (by simp; omega)))) (.slice A fs.length c) (.int .i64 (cap : Nat)) (.int .i64 (left : Nat)) (.int .i64 (s1 : Nat)) (.bool false)
          have HT := Lib.hid hll.1
          have HBZ := Lib.hid hll.2.1
          have HFAR := Lib.hid hll.2.2
          have HRR : Hid (R = (e0, ⟨⟨s1, left, false⟩, cap, fs⟩)) := by show _ = _; rw [HRX.out, HFSX.out]
          clear hll
          go_wp2_with (fail)
          obtain ⟨T, hT⟩ := HT.out
          refine bodyPost_ret_by (results_cell_slot rfl _ _ (w.heap.size + 1 + 1) T _ _ _ _ (by kernel_rfl) rfl hT Try.underlying32 rfl (by kernel_rfl)) rfl ?_
          rw [HRR.out]
          refine ⟨⟨A, c, ⟨⟨s1, left, false⟩, cap, fs⟩⟩, rfl, ⟨HX.out.row.below HBZ.out, HROOM.out, hfl.out⟩, rfl, HBZ.out, .inl ⟨rfl, rfl⟩⟩
      · have te : ((left : Int) == 1) = false := by simp; omega
        have tg : decide (0 < left) = true := by simp; omega
        have el : (left : Int) - 1 = (l1 : Int) := by omega
        have HRX : Hid (R = (e0, ⟨⟨s1, l1, false⟩, cap, fsX⟩)) := by show _ = _; rw [HR.out, HS1.out, HL1.out, if_neg (by simp), if_neg (by omega)]
        clear hl hl0 hl1
        by_cases he0 : e0 = 0
        · subst he0
          go_wp2_with (fail)
          have hWB : Below w.heap.size w ((w1.setCell ⟨w.heap.size, 3, none⟩ (.int .i64 (s1 : Nat))).setCell ⟨w.heap.size, 2, none⟩ (.int .i64 (l1 : Nat))) := (below_set (below_set HB1.out (Nat.le_refl _)) (Nat.le_refl _))
          refine (HD.out ⟨s1, l1, false⟩ (by simp) _ ⟨HX.out.row.below hWB, HROOM.out, hfl.out⟩).mono ?_
          rintro r w2 ⟨⟨A2, c2, d2⟩, rfl, hok2, hd2, hb2, hn2⟩
          simp only at hd2 hn2
          subst hd2
          simp only
          have HB2 : Hid (Below w.heap.size w w2) := hWB.trans (hb2.mono hWB.size)
          have hz2 : w1.heap.size ≤ w2.heap.size := by have := hb2.size; simpa [World.setCell] using this
          have bR2 := (((bR1.stays (heap_setCell_other _ _ _ _ (by simp; omega))).stays (heap_setCell_other _ _ _ _ (by simp; omega)))).stays (hb2.block _ (by simp [World.setCell]; omega))
          have HN2 : Hid (∀ a, A2 = some a → w.heap.size + 2 < a.block) := fun a ha => by have := hn2 a ha; simp [World.setCell] at this; omega
          have HOK2 := Lib.hid hok2
          have bD2 := (((bD1.set 3 (.int .i64 (s1 : Nat))).set 2 (.int .i64 (l1 : Nat)))).stays (hb2.block _ (by simp [World.setCell]; omega))
          have q0 : w2.cell? ⟨w.heap.size, 0, none⟩ = some (.slice A fs.length c) := bD2.cell 0
          have q1 : w2.cell? ⟨w.heap.size, 1, none⟩ = some (.int .i64 (cap : Nat)) := bD2.cell 1
          have q2 : w2.cell? ⟨w.heap.size, 2, none⟩ = some (.int .i64 (l1 : Nat)) := bD2.cell 2
          have q3 : w2.cell? ⟨w.heap.size, 3, none⟩ = some (.int .i64 (s1 : Nat)) := bD2.cell 3
          have q4 : w2.cell? ⟨w.heap.size, 4, none⟩ = some (.bool false) := bD2.cell 4
          have k0 : w2.frozen? ⟨w.heap.size, 0, none⟩ = false := bD2.free 0
          have k1 : w2.frozen? ⟨w.heap.size, 1, none⟩ = false := bD2.free 1
          have k2 : w2.frozen? ⟨w.heap.size, 2, none⟩ = false := bD2.free 2
          have k3 : w2.frozen? ⟨w.heap.size, 3, none⟩ = false := bD2.free 3
          have k4 : w2.frozen? ⟨w.heap.size, 4, none⟩ = false := bD2.free 4
          have r0 : w2.cell? ⟨w.heap.size + 1 + 1, 0, none⟩ = some (.slice none 0 0) := bR2.cell 0
          have r1 : w2.cell? ⟨w.heap.size + 1 + 1, 1, none⟩ = some (.int .i64 0) := bR2.cell 1
          have r2 : w2.cell? ⟨w.heap.size + 1 + 1, 2, none⟩ = some (.int .i64 0) := bR2.cell 2
          have r3 : w2.cell? ⟨w.heap.size + 1 + 1, 3, none⟩ = some (.int .i64 0) := bR2.cell 3
          have r4 : w2.cell? ⟨w.heap.size + 1 + 1, 4, none⟩ = some (.bool false) := bR2.cell 4
          have z0 : w2.frozen? ⟨w.heap.size + 1 + 1, 0, none⟩ = false := bR2.free 0
          have z1 : w2.frozen? ⟨w.heap.size + 1 + 1, 1, none⟩ = false := bR2.free 1
          have z2 : w2.frozen? ⟨w.heap.size + 1 + 1, 2, none⟩ = false := bR2.free 2
          have z3 : w2.frozen? ⟨w.heap.size + 1 + 1, 3, none⟩ = false := bR2.free 3
          have z4 : w2.frozen? ⟨w.heap.size + 1 + 1, 4, none⟩ = false := bR2.free 4
          have hl5 := laid5 HB2.out (Nat.le_refl _) rfl bD2 (.slice A2 fsX.length c2) (.int .i64 (cap : Nat)) (.int .i64 (l1 : Nat)) (.int .i64 (s1 : Nat)) (.bool false)
          have HL5 := Lib.hid hl5
          clear hl5 hok2 hn2 hb2
          have hll := laid5 (HL5.out.2.1) (by omega) rfl (bR2.stays (HL5.out.2.2 _ (by omega))) (.slice A2 fsX.length c2) (.int .i64 (cap : Nat)) (.int .i64 (l1 : Nat)) (.int .i64 (s1 : Nat)) (.bool false)
          have HT := Lib.hid hll.1
          have HBZ := Lib.hid hll.2.1
          have HFAR := Lib.hid hll.2.2
          have HRR : Hid (R = (0, ⟨⟨s1, l1, false⟩, cap, fsX⟩)) := by show _ = _; rw [HRX.out]
          clear hll
          go_wp2_with (fail)
          obtain ⟨T, hT⟩ := HT.out
          refine bodyPost_ret_by (results_cell_slot rfl _ _ (w.heap.size + 1 + 1) T _ _ _ _ (by kernel_rfl) rfl hT Try.underlying32 rfl (by kernel_rfl)) rfl ?_
          rw [HRR.out]
          refine ⟨⟨A2, c2, ⟨⟨s1, l1, false⟩, cap, fsX⟩⟩, rfl, ⟨HOK2.out.row.stays fun hn a ha => (HFAR.out _ (by have := HN2.out a ha; omega)).trans (HL5.out.2.2 _ (by have := HN2.out a ha; omega)), HOK2.out.room, HOK2.out.few⟩, rfl, HBZ.out, .inr fun a ha => by have := HN2.out a ha; omega⟩
        · have te0 : (e0 == 0) = false := by simpa using he0
          have HFSX := Lib.hid (HSAME.out he0)
          clear he0
          have hll := laid5 (W := (w1.setCell ⟨w.heap.size, 3, none⟩ (.int .i64 (s1 : Nat))).setCell ⟨w.heap.size, 2, none⟩ (.int .i64 (l1 : Nat))) ((below_set (below_set HB1.out (Nat.le_refl _)) (Nat.le_refl _))) (by omega) rfl (((bR1.stays (heap_setCell_other _ _ _ _ (by simp; omega))).stays (heap_setCell_other _ _ _ _ (by simp; omega)))) (.slice A fs.length c) (.int .i64 (cap : Nat)) (.int .i64 (l1 : Nat)) (.int .i64 (s1 : Nat)) (.bool false)
          have HT := Lib.hid hll.1
          have HBZ := Lib.hid hll.2.1
          have HFAR := Lib.hid hll.2.2
          have HRR : Hid (R = (e0, ⟨⟨s1, l1, false⟩, cap, fs⟩)) := by show _ = _; rw [HRX.out, HFSX.out]
          clear hll
          go_wp2_with (fail)
          obtain ⟨T, hT⟩ := HT.out
          refine bodyPost_ret_by (results_cell_slot rfl _ _ (w.heap.size + 1 + 1) T _ _ _ _ (by kernel_rfl) rfl hT Try.underlying32 rfl (by kernel_rfl)) rfl ?_
          rw [HRR.out]
          refine ⟨⟨A, c, ⟨⟨s1, l1, false⟩, cap, fs⟩⟩, rfl, ⟨HX.out.row.below HBZ.out, HROOM.out, hfl.out⟩, rfl, HBZ.out, .inl ⟨rfl, rfl⟩⟩
end Go.Proofs.Ytpnhgongjfknbaa
