/-
  The contract of a disk's Copy.
-/
import Derived.Test.YtpnhgongjfknbaaDkN
import Derived.Maps.RangeWalk
namespace Go.Proofs.Ytpnhgongjfknbaa
open Go.RowKit omap

theorem ptrTo_of {v : Value} {y : DataW Unit × List MemPlace} (h : ptrElem v = some y) : ∃ c : Option Nat, v = ptrTo c := by
  unfold ptrElem at h
  split at h
  · exact ⟨some _, rfl⟩
  · exact ⟨none, rfl⟩
  · cases h
theorem atKey_any (l : L) (k : Nm) (z : DataW Unit) : (mapOf l).atKey (.string k) z = match omap.look l k with | some g => .lit (.int .i64 (g : Int)) | none => z := by
  induction l with
  | nil => rfl
  | cons x l ih =>
    unfold mapOf DataW.atKey at ih ⊢
    rw [look_cons]
    simp only [List.map_cons, List.find?_cons, sameKey_enc] at ih ⊢
    by_cases h : x.1 = k
    · simp [h, enc1]
    · simp only [h, decide_false, if_false]
      exact ih
/-- an entry that has come is one of the map's -/
theorem came {l : L} {x : Nm} {c : Option Nat} {kl : Lit} {y : DataW Unit × List MemPlace} (hk : keyOf Try.prog 9 (encStr x) = some kl) (hv : ptrElem (ptrTo c) = some y) (hat : ∀ zd, (mapOf l).atKey kl zd = y.1) : kl = .string x ∧ ∃ g, c = some g ∧ omap.look l x = some g := by
  obtain ⟨x', ex, rfl, _⟩ := Maps.keyOf_str Try.underlying9 hk
  obtain rfl := encStr_inj ex
  refine ⟨rfl, ?_⟩
  have h1 := hat .nil
  have h2 := hat (.agg [])
  rw [atKey_any] at h1 h2
  cases hl : omap.look l x with
  | none =>
    rw [hl] at h1 h2
    simp only at h1 h2
    rw [← h1] at h2
    cases h2
  | some g =>
    rw [hl] at h1
    simp only at h1
    refine ⟨g, ?_, rfl⟩
    cases c with
    | none =>
      simp only [ptrTo, ptrElem, Option.some.injEq] at hv
      rw [← hv] at h1
      cases h1
    | some g' =>
      simp only [ptrTo, ptrElem, Option.some.injEq] at hv
      rw [← hv] at h1
      simp only [DataW.lit.injEq, Lit.int.injEq, true_and] at h1
      have e : g' = g := by omega
      rw [e]
theorem MapAt.storeN {w : World} {m : Nat} {l : L} (h : MapAt w m l) {k : Nm} (hs : k.length ≤ maxLen) (g : Nat) (hn : (omap.put lt k g l).length ≤ 1073741824) :
    ∃ w', (Instr.mapUpdate 58 (.map (some m)) (.string ⟨k.toArray⟩) (.pointer (some ⟨g, 0, none⟩))).run Try.prog w = .ok () w' ∧ MapAt w' m (omap.put lt k g l) ∧ w.grownBy w' (some m) := by
  have e : (⟨k.toArray⟩ : ByteArray).data.toList = k := by simp
  have := h.store (s := ⟨k.toArray⟩) (by simpa [ByteArray.size] using hs) g (by rw [e]; exact hn)
  rw [e] at this
  exact this
/-- how the new map stands while a file is copied: 5: its store -/
def CopyJ (B base : Nat) (f : Fl) (x : Nm) (es2 : Es) (L : Nat → Bool) (w : World) : Prop :=
  (L 5 = false → MapAt w B (bl es2)) ∧ (L 5 = true → ∃ e' : Ent, FileAt w e' ∧ e'.f = f ∧ e'.own.Nodup ∧ (∀ g ∈ e'.own, base ≤ g) ∧ MapAt w B (omap.put lt x e'.g (bl es2)))
theorem CopyJ.start {B base : Nat} {f : Fl} {x : Nm} {es2 : Es} {w : World} (h : MapAt w B (bl es2)) : CopyJ B base f x es2 (fun _ => false) w := ⟨fun _ => h, fun h => by cases h⟩
theorem CopyJ.upd {B base : Nat} {f : Fl} {x : Nm} {es2 : Es} {L : Nat → Bool} {w : World} {i : Nat} (h : CopyJ B base f x es2 L w) (hi : Nat.beq 5 i = false) : CopyJ B base f x es2 (regs.upd L i) w := by
  have e : regs.upd L i 5 = L 5 := by unfold regs.upd; rw [hi]; rfl
  exact ⟨fun h' => h.1 (e ▸ h'), fun h' => h.2 (e ▸ h')⟩
theorem CopyJ.later {B base : Nat} {f : Fl} {x : Nm} {es2 : Es} {L : Nat → Bool} {w w' : World} (h : CopyJ B base f x es2 L w) (hb : Below w.heap.size w w') : CopyJ B base f x es2 (regs.upd L 4) w' :=
  CopyJ.upd ⟨fun h' => (h.1 h').stays (hb.block B (h.1 h').inside), fun h' => by
    obtain ⟨e', k1, k2, k3, k4, k5⟩ := h.2 h'
    exact ⟨e', k1.stays fun g hg => hb.block g (k1.inside g hg), k2, k3, k4, k5.stays (hb.block B k5.inside)⟩⟩ (by decide)
theorem CopyJ.done {B base : Nat} {f : Fl} {x : Nm} {es2 : Es} {L : Nat → Bool} {w : World} {e' : Ent} (h1 : FileAt w e') (h2 : e'.f = f) (h3 : e'.own.Nodup) (h4 : ∀ g ∈ e'.own, base ≤ g) (h5 : MapAt w B (omap.put lt x e'.g (bl es2))) : CopyJ B base f x es2 (regs.upd L 5) w := by
  have e : regs.upd L 5 5 = true := by unfold regs.upd; rfl
  exact ⟨fun h' => absurd (h'.symm.trans e) (by simp), fun _ => ⟨e', h1, h2, h3, h4, h5⟩⟩
def sayCopy (B base : Nat) (f : Fl) (hB : B < base) : regs.Say (Rel [B]) := ⟨fun v w => ∃ e' : Ent, v = .pointer (some ⟨e'.g, 0, none⟩) ∧ FileAt w e' ∧ e'.f = f ∧ e'.own.Nodup ∧ ∀ g ∈ e'.own, base ≤ g, fun _ w w' h hb => by
  obtain ⟨e', h1, h2, h3, h4, h5⟩ := h
  exact ⟨e', h1, h2.stays fun g hg => hb.far g (h2.inside g hg) (by have := h5 g hg; simp; omega), h3, h4, h5⟩⟩
theorem Rel.grownBy {B : Nat} {w w' : World} (h : Rel [B] w w') : w.grownBy w' (some B) := ⟨h.os, h.tape, h.output, h.size, fun k hk hn => h.far k hk (by simpa using fun e => hn (by rw [e]))⟩
/-- what has been copied so far -/
def SoFar (es es2 : Es) (left : Lit → Bool) : Prop := ∀ k, omap.look (er es2) k = if left (.string k) = true then none else omap.look (er es) k
theorem SoFar.step {es es2 : Es} {left : Lit → Bool} {x : Nm} {e e' : Ent} (h : SoFar es es2 left) (hk : omap.look es x = some e) (hf : e'.f = e.f) : SoFar es (omap.put lt x e' es2) (fun z => left z && !z.sameKey (.string x)) := fun k => by
  rw [er_put, look_put, h k]
  by_cases hkx : k = x
  · subst hkx
    simp only [Lit.sameKey, beq_self_eq_true, Bool.not_true, Bool.and_false, Bool.false_eq_true, if_false, if_true]
    rw [er_look, hk, hf]
    rfl
  · have : (Lit.string k).sameKey (.string x) = false := by
      simp only [Lit.sameKey]
      exact beq_eq_false_iff_ne.2 hkx
    simp only [if_neg hkx, this, Bool.not_false, Bool.and_true]
theorem SoFar.whole {es es2 : Es} {left : Lit → Bool} (h : SoFar es es2 left) (hl : ∀ kl, left kl = false) (r1 : Rises lt es) (r2 : Rises lt es2) : er es2 = er es := by
  refine omap.ext ord (rises_er.2 r2) (rises_er.2 r1) fun k => ?_
  rw [h k, hl]
  simp
set_option maxRecDepth 100000 in
set_option maxHeartbeats 4000000 in
theorem copy_cmd (b : Nat) (S : List Nat) (d : Dk) (w : World) (h : DiskAt w b S d) :
    Calls Try.prog 17 #[.pointer (some ⟨b, 0, none⟩)] w fun r w' => ∃ b2 S2, r = .returned (.pointer (some ⟨b2, 0, none⟩)) ∧ DiskAt w' b2 S2 d ∧ (∀ g ∈ S2, w.heap.size ≤ g) ∧ Below w.heap.size w w' := by
  have hroom := h.room
  have hcap := h.few
  have hins := h.inside
  obtain ⟨m, es, rfl, hr, hE⟩ := h.at_
  obtain ⟨c0, c1, c2, c3, c4, c5⟩ := hr.cells
  have hbl : b < w.heap.size := hr.blk.inside
  have hwA : Below w.heap.size w (w.alloc (.cells #[.int .i64 (d.p.steps : Nat), .int .i64 (d.p.left : Nat), .bool d.p.down, .int .i64 (d.cap : Nat), .int .i64 (tot d.fs : Nat), .map (some m)] 60)) := (Below.refl _ _).alloc (Nat.le_refl _) _
  have hlen : ∀ ty, (Builtin.len_ #[58] ty #[.map (some m)]).run Try.prog (w.alloc (.cells #[.int .i64 (d.p.steps : Nat), .int .i64 (d.p.left : Nat), .bool d.p.down, .int .i64 (d.cap : Nat), .int .i64 (tot d.fs : Nat), .map (some m)] 60)) = .ok (.int .i64 ((bl es).length : Nat)) _ := fun ty => (hr.below hwA).map.len ty
  have hmm : ∀ (n : Int) (w : World), (Instr.makeMap 58 (some (.int .i64 n))).run Try.prog w = .ok (.map (some w.heap.size)) (w.alloc (.map #[] 0)) := fun n w => by
    simp [Instr.makeMap, run_underlying Try.underlying58, asInt, asIntOf, newObj, Result.andThen]
    rfl
  have HR := Lib.hid hr
  have HE := Lib.hid hE
  have HROOM := Lib.hid hroom
  have HCAP := Lib.hid hcap
  clear hr hE hroom hcap hwA h hins
  go_enter Try.func17, Try.ntmps17
  go_wp2_with (at_range; refine wpList_range_own _ rfl _ 58 rfl 9 83 keyedS Try.underlying58 ptrElem m (bl es).length (mapOf (bl es)) rfl ?_ ?_; exact (HR.out.below (((Below.refl _ _).alloc (Nat.le_refl _) _).alloc (by simp) _)).map.own; intro w0 hrg0 hg0 hs0)
  go_frame
  obtain ⟨WB, hWB⟩ : ∃ WB, WB = ((w.alloc (.cells #[.int .i64 (d.p.steps : Nat), .int .i64 (d.p.left : Nat), .bool d.p.down, .int .i64 (d.cap : Nat), .int .i64 (tot d.fs : Nat), .map (some (w.heap.size + 1))] 60)).alloc (.map #[] 0)) := ⟨_, rfl⟩
  rw [← hWB] at hrg0 hg0 hs0 ⊢
  have hsz : WB.heap.size = w.heap.size + 2 := by rw [hWB]; simp
  have hBB : Below w.heap.size w WB := by rw [hWB]; exact (((Below.refl _ _).alloc (Nat.le_refl _) _).alloc (by simp) _)
  have hnew : Raw WB w.heap.size (w.heap.size + 1) d.p d.cap (tot d.fs) [] := by
    refine ⟨⟨60, ?_⟩, ?_, fun x hx => (by cases hx), ?_⟩
    · rw [hWB]
      exact (Below.heap_alloc _ _ _ (by simp)).trans (heap_alloc_new w _)
    · have := mapAt_made (w.alloc (.cells #[.int .i64 (d.p.steps : Nat), .int .i64 (d.p.left : Nat), .bool d.p.down, .int .i64 (d.cap : Nat), .int .i64 (tot d.fs : Nat), .map (some (w.heap.size + 1))] 60))
      have e1 : (w.alloc (.cells #[.int .i64 (d.p.steps : Nat), .int .i64 (d.p.left : Nat), .bool d.p.down, .int .i64 (d.cap : Nat), .int .i64 (tot d.fs : Nat), .map (some (w.heap.size + 1))] 60)).heap.size = w.heap.size + 1 := by simp
      rw [e1] at this
      rw [hWB]
      exact this
    · simp [foot, owned]
  obtain ⟨r, hrr⟩ : ∃ r, r = WB.heap.size := ⟨_, rfl⟩
  rw [← hrr] at hrg0 hs0 ⊢
  have hB0 : Below w.heap.size w w0 := hBB.trans ⟨hg0.os, hg0.tape, hg0.output, hg0.size, fun k hk => hg0.block k (by omega) (by simp)⟩
  have hnew0 : Raw w0 w.heap.size (w.heap.size + 1) d.p d.cap (tot d.fs) [] := hnew.stays fun g hg => hg0.block g (hnew.inside g hg) (by simp)
  have HB0 := Lib.hid hB0
  have HNEW := Lib.hid hnew0
  have HRG := Lib.hid hrg0
  have HRE : Hid (r = w.heap.size + 2) := hrr.trans hsz
  clear hrg0 hg0 hs0 hsz hBB hnew hrr hB0 hnew0 hWB
  go_loopw [4, 5] (fun _ _ wr => ∃ (left : Lit → Bool) (cnt : Nat) (es2 : Es), Hid (wr.ranges Try.prog 9 ptrElem m r (bl es).length (mapOf (bl es)) left cnt) ∧ Hid (Below w.heap.size w wr) ∧ Hid (Raw wr w.heap.size (w.heap.size + 1) d.p d.cap (tot d.fs) es2) ∧
    Hid (∀ g ∈ owned es2, w.heap.size ≤ g ∧ g ≠ r) ∧ Hid (SoFar es es2 left) ∧ Hid (es2.length + cnt ≤ (bl es).length)) (fun _ _ wr => wr.rangeLeft m r)
  case atStart => exact ⟨_, _, [], HRG.out, HB0.out, HNEW.out, fun g hg => by simp [owned] at hg, fun k => by
    have h1 : omap.look (er ([] : Es)) k = none := rfl
    rw [h1]
    cases hk : omap.look (er es) k with
    | none => simp
    | some f =>
      have : Maps.has (mapOf (bl es)) (.string k) = true := by
        rw [er_look] at hk
        obtain ⟨e, he, _⟩ := Option.map_eq_some_iff.1 hk
        unfold mapOf
        rw [Maps.has_eq, List.any_eq_true]
        refine ⟨enc1 (k, e.g), List.mem_map.2 ⟨(k, e.g), List.mem_map.2 ⟨(k, e), look_mem he, rfl⟩, rfl⟩, ?_⟩
        simp [enc1, Lit.sameKey]
      simp [this], by
    show _ ≤ _
    rw [size_mapOf]
    simp⟩
  case round =>
    obtain ⟨left, cnt, es2, hrg, hbw, hraw, hown, hso, hct⟩ := hrel
    go_wp2_with (at_next; refine wpList_next_ranges _ rfl _ rfl 9 keyedS ptrElem encStr ptrTo (fun key kl hk => by obtain ⟨x, hx, _⟩ := Maps.keyOf_str Try.underlying9 hk; exact ⟨x, hx⟩) (fun v y hv => ptrTo_of hv) m r (bl es).length (mapOf (bl es)) left cnt rfl hrg.out ?_ ?_)
    · intro _ hl0
      have HL0 := Lib.hid hl0
      clear hl0
      go_wp2_with (fail)
      go_ret
      have hE2 := hso.out.whole HL0.out HR.out.rises hraw.out.rises
      refine ⟨_, _, rfl, ⟨⟨_, es2, rfl, hraw.out, hE2.trans HE.out⟩, HROOM.out, HCAP.out⟩, fun g hg => ?_, hbw.out⟩
      rcases List.mem_cons.1 hg with rfl | hg
      · exact Nat.le_refl _
      rcases List.mem_cons.1 hg with rfl | hg
      · omega
      · exact (hown.out g hg).1
    · intro x c kl yd yp w2 cnt1 hkey hlk hv hat hrg1 hlt hg1 hs1 hen
      obtain ⟨rfl, g, rfl, hlb⟩ := came hkey hv hat
      rw [bl_look] at hlb
      obtain ⟨e, hke, heg⟩ := Option.map_eq_some_iff.1 hlb
      subst heg
      simp only [ptrTo] at hen ⊢
      have hsame : ∀ g, g < wr.heap.size → g ≠ r → w2.heap[g]? = wr.heap[g]? := fun g h1 h2 => hg1.block g h1 (fun e1 => h2 (Option.some.inj e1))
      have hraw1 : Raw w2 w.heap.size (w.heap.size + 1) d.p d.cap (tot d.fs) es2 := hraw.out.stays fun g hg => hsame g (hraw.out.inside g hg) (by
        have := HRE.out
        rcases List.mem_cons.1 hg with rfl | hg
        · omega
        rcases List.mem_cons.1 hg with rfl | hg
        · omega
        · exact (hown.out g hg).2)
      have hb1 : Below w.heap.size w w2 := hbw.out.trans ⟨hg1.os, hg1.tape, hg1.output, hg1.size, fun k hk => hsame k (by have := hbw.out.size; omega) (by have := HRE.out; omega)⟩
      have hfe : FileAt w2 e := (HR.out.below hb1).file hke
      have hel : e.f.l.length ≤ 67108864 := by
        have h1 := tot_del (rises_er.2 HR.out.rises) (k := x) (f := e.f) (by rw [er_look, hke]; rfl)
        have h2 := HROOM.out
        have h3 := HCAP.out
        rw [HE.out] at h1
        omega
      have HEN := Lib.hid hen
      have HK := Lib.hid hke
      have HLK := Lib.hid hlk
      have HRG1 := Lib.hid hrg1
      have HLT := Lib.hid hlt
      have HRAW1 := Lib.hid hraw1
      have HB1 := Lib.hid hb1
      have HFE := Lib.hid hfe
      have HSZ := Lib.hid hel
      have HS1 := Lib.hid hs1
      have HM2 := Lib.hid hraw1.map
      have C5 := Lib.hid hraw1.cells.2.2.2.2.2
      have HBL : Hid (w.heap.size + 1 < w2.heap.size) := hraw1.map.inside
      have HB0L : Hid (w.heap.size < w2.heap.size) := hraw1.blk.inside
      have HFW : Hid (∀ g, (omap.put lt x g (bl es2)).length ≤ 1073741824) := fun g => by
        have h1 := length_put_le lt x g (bl es2)
        have h2 := hct.out
        have h3 := HR.out.map.few
        rw [bl_length] at h1
        omega
      have HNL := Lib.hid (name_le HR.out hke)
      have HNE : Hid (∀ g ∈ e.own, g ≠ w.heap.size + 1) := fun g hg e1 => by
        have h1 := HR.out.inside g (foot_owned ((HR.out.split hke).2.2 g hg))
        omega
      clear hkey hlk hv hat hrg1 hlt hg1 hs1 hlb hke hsame hraw1 hb1 hfe hel
      go_wp2_with (fail)
      refine regs.wp_region_put (Rel [w.heap.size + 1]) (CopyJ (w.heap.size + 1) w2.heap.size e.f x es2) [26, 27, 28, 29, 30] (by kernel_rfl) (by kernel_rfl) (fun _ => Rel.refl [w.heap.size + 1] _) (Rel.trans [w.heap.size + 1]) (fun i => (match i with
        | 0 => regs.Say.val _ (.pointer (some ⟨w.heap.size, 5, none⟩))
        | 1 => regs.Say.val _ (.map (some (w.heap.size + 1)))
        | 2 => regs.Say.val _ (.string ⟨x.toArray⟩)
        | 3 => regs.Say.val _ (.pointer (some ⟨e.g, 0, none⟩))
        | 4 => sayCopy (w.heap.size + 1) w2.heap.size e.f HBL.out
        | 5 => regs.Say.any _
        | _ => regs.Say.any _ : regs.Say (Rel [w.heap.size + 1])).p) (fun _ => regs.Say.mono _) (by kernel_rfl) (Rel.drew _ _) (CopyJ.start (MapAt.stays HM2.out rfl)) ⟨?_, ?_, ?_, ?_, ?_, ?_, trivial⟩ ?_
      · refine regs.StepOK.plain rfl fun L a w1 hh => ?_
        have h3 : a.tmps[3]?.getD undef = .pointer (some ⟨w.heap.size, 0, none⟩) := by rw [← Array.getD_eq_getD_getElem?]; exact hh.old 3 rfl
        have hJ := Lib.hid hh.st
        clear hh
        go_simp
        exact ⟨_, rfl, Rel.refl [w.heap.size + 1] _, rfl, CopyJ.upd hJ.out (by decide)⟩
      · refine regs.StepOK.plain rfl fun L a w1 hh => ?_
        have h26 : a.tmps[26]?.getD undef = .pointer (some ⟨w.heap.size, 5, none⟩) := by rw [← Array.getD_eq_getD_getElem?]; exact hh.dep 0 26 (by kernel_rfl) (by kernel_rfl)
        have c5 := (show Rel [w.heap.size + 1] w2 w1 from hh.rel).cell (a := ⟨w.heap.size, 5, none⟩) HB0L.out (by simp) C5.out
        have hJ := Lib.hid hh.st
        clear hh
        go_simp
        exact ⟨_, rfl, Rel.refl [w.heap.size + 1] _, rfl, CopyJ.upd hJ.out (by decide)⟩
      · refine regs.StepOK.plain rfl fun L a w1 hh => ?_
        have h4 : a.tmps[4]?.getD undef = .string ⟨x.toArray⟩ := by rw [← Array.getD_eq_getD_getElem?]; exact hh.old 4 rfl
        have hJ := Lib.hid hh.st
        clear hh
        go_simp
        exact ⟨_, rfl, Rel.refl [w.heap.size + 1] _, rfl, CopyJ.upd hJ.out (by decide)⟩
      · refine regs.StepOK.plain rfl fun L a w1 hh => ?_
        have h5 : a.tmps[5]?.getD undef = .pointer (some ⟨e.g, 0, none⟩) := by rw [← Array.getD_eq_getD_getElem?]; exact hh.old 5 rfl
        have hJ := Lib.hid hh.st
        clear hh
        go_simp
        exact ⟨_, rfl, Rel.refl [w.heap.size + 1] _, rfl, CopyJ.upd hJ.out (by decide)⟩
      · refine regs.StepOK.plain rfl fun L a w1 hh => ?_
        have h29 : a.tmps[29]?.getD undef = .pointer (some ⟨e.g, 0, none⟩) := by rw [← Array.getD_eq_getD_getElem?]; exact hh.dep 3 29 (by kernel_rfl) (by kernel_rfl)
        have hr := (show Rel [w.heap.size + 1] w2 w1 from hh.rel)
        have hle := hr.size
        have hf := FileAt.stays HFE.out (fun g hg => hr.far g (HFE.out.inside g hg) (by simpa using HNE.out g hg))
        have HST := Lib.hid hh.st
        have HUN := Lib.hid hh.un
        clear hh
        go_simp
        refine (copy_any e w1 hf HSZ.out).mono ?_
        rintro r w3 ⟨hb, e', rfl, k1, k2, k3, k4⟩
        exact ⟨_, rfl, (Turn.below hb).rel, ⟨e', rfl, k1, k2, k3, fun g hg => Nat.le_trans hle (k4 g hg)⟩, CopyJ.later HST.out hb⟩
      · refine regs.StepOK.plain rfl fun L a w1 hh => ?_
        have h27 : a.tmps[27]?.getD undef = .map (some (w.heap.size + 1)) := by rw [← Array.getD_eq_getD_getElem?]; exact hh.dep 1 27 (by kernel_rfl) (by kernel_rfl)
        have h28 : a.tmps[28]?.getD undef = .string ⟨x.toArray⟩ := by rw [← Array.getD_eq_getD_getElem?]; exact hh.dep 2 28 (by kernel_rfl) (by kernel_rfl)
        obtain ⟨e', h30, k1, k2, k3, k4⟩ : ∃ e' : Ent, a.tmps[30]?.getD undef = .pointer (some ⟨e'.g, 0, none⟩) ∧ FileAt w1 e' ∧ e'.f = e.f ∧ e'.own.Nodup ∧ ∀ g ∈ e'.own, w2.heap.size ≤ g := by rw [← Array.getD_eq_getD_getElem?]; exact hh.dep 4 30 (by kernel_rfl) (by kernel_rfl)
        obtain ⟨w3, hrun, hm3, hg3⟩ := ((show CopyJ (w.heap.size + 1) w2.heap.size e.f x es2 L w1 from hh.st).1 hh.un).storeN HNL.out e'.g (HFW.out e'.g)
        have hk : FileAt w3 e' := k1.stays (fun g hg => hg3.block g (k1.inside g hg) (fun e1 => by have h1 := k4 g hg; have h2 := Option.some.inj e1; have h3 := HBL.out; omega))
        have HM3 := Lib.hid hm3
        have HG3 := Lib.hid hg3
        have HK := Lib.hid hk
        clear hh hm3 hg3 hk k1
        go_simp
        exact ⟨(Turn.grown (S := [w.heap.size + 1]) HG3.out (fun k hk => by simpa using (Option.some.inj hk).symm)).rel, ⟨undef, trivial⟩, CopyJ.done HK.out k2 k3 k4 HM3.out⟩
      intro L w3 val hL hJ hb2 hf2
      have h5 : L 5 = true := hL 5 (by decide)
      obtain ⟨e', k1, k2, k3, k4, k5⟩ := (show CopyJ (w.heap.size + 1) w2.heap.size e.f x es2 L w3 from hJ).2 h5
      have hrel : Rel [w.heap.size + 1] w2 w3 := hb2
      have hraw3 : Raw w3 w.heap.size (w.heap.size + 1) d.p d.cap (tot d.fs) (omap.put lt x e' es2) := by
        have hfar : ∀ g, g < w2.heap.size → g ≠ w.heap.size + 1 → w3.heap[g]? = w2.heap[g]? := fun g h1 h2 => hrel.far g h1 (by simpa using h2)
        refine HRAW1.out.put (HRAW1.out.blk.stays (hfar _ HRAW1.out.blk.inside (by omega))) (by rw [bl_put]; exact k5) k1 k3 (fun g hg hm => ?_) (fun g hg => ?_)
        · have h1 := k4 g hg
          have h2 : g < w2.heap.size := HRAW1.out.inside g (by
            rcases List.mem_cons.1 hm with e1 | hm
            · exact e1 ▸ foot_mem_b _ _ _
            rcases List.mem_cons.1 hm with e1 | hm
            · exact e1 ▸ foot_mem_m _ _ _
            · exact foot_owned (owned_del_sub _ hm))
          omega
        · have h1 := owned_del_sub _ hg
          exact hfar g (HRAW1.out.inside g (foot_owned h1)) (fun e1 => HRAW1.out.m_owned (e1 ▸ h1))
      have hb3 : Below w.heap.size w w3 := HB1.out.trans ⟨hrel.os, hrel.tape, hrel.output, hrel.size, fun k hk => hrel.far k (by have := HB1.out.size; omega) (by simp; omega)⟩
      have hrg3 := HRG1.out.kept hrel.grownBy (by
        intro e1
        have h1 := Option.some.inj e1
        have h2 := HR.out.map.inside
        omega) (by
        intro e1
        have h1 := Option.some.inj e1
        have h2 := HRE.out
        omega)
      have hown3 : ∀ g ∈ owned (omap.put lt x e' es2), w.heap.size ≤ g ∧ g ≠ r := fun g hg => by
        have hp : (omap.put lt x e' es2).Perm ((x, e') :: omap.del x es2) := ins_perm lt x _ _
        rw [(owned_perm hp).mem_iff, owned_cons] at hg
        rcases List.mem_append.1 hg with hg | hg
        · have h1 := k4 g hg
          have h2 := HRG1.out.lt
          have h3 := HB1.out.size
          omega
        · exact hown.out g (owned_del_sub _ hg)
      have HX : Hid (Raw w3 w.heap.size (w.heap.size + 1) d.p d.cap (tot d.fs) (omap.put lt x e' es2)) := hraw3
      have HX2 := Lib.hid hb3
      have HX3 := Lib.hid hrg3
      have HX4 := Lib.hid hown3
      have HX5 := Lib.hid (hso.out.step HK.out k2)
      have HX6 : Hid ((omap.put lt x e' es2).length + cnt1 ≤ (bl es).length) := by
        show _ ≤ _
        have h1 := length_put_le lt x e' es2
        have h2 := hct.out
        have h3 := HLT.out
        omega
      clear hf2 hJ hb2 hL h5 k1 k2 k3 k4 k5 hrel hraw3 hb3 hrg3 hown3
      simp only [regs.putAll, List.map_cons, List.map_nil]
      go_simp
      go_wp2_with (fail)
      go_roundw
      case rel => exact ⟨_, cnt1, _, HX3.out, HX2.out, HX.out, HX4.out, HX5.out, HX6.out⟩
      case measure =>
        rw [HX3.out.left_eq, hrg.out.left_eq]
        exact HLT.out
end Go.Proofs.Ytpnhgongjfknbaa
