/-
  Layer 12: a walk through a tree's map; Same.
-/
import Derived.Test.YtokochkjjlbnkaaTsJ
namespace Go.Proofs.Ytokochkjjlbnkaa
open Go.RowKit trm itr

theorem ptrTo_of {v : Value} {y : DataW Unit × List MemPlace} (h : ptrElem v = some y) : ∃ c : Option Nat, v = ptrTo c := by
  unfold ptrElem at h
  split at h
  · exact ⟨some _, rfl⟩
  · exact ⟨none, rfl⟩
  · cases h
theorem atKey_any (l : L) (k : Int) (z : DataW Unit) : (mapOf l).atKey (.int .i64 k) z = match omap.look l k with | some g => .lit (.int .i64 (g : Int)) | none => z := by
  induction l with
  | nil => rfl
  | cons x l ih =>
    unfold mapOf DataW.atKey at ih ⊢
    rw [omap.look_cons]
    simp only [List.map_cons, List.find?_cons, sameKey_enc] at ih ⊢
    by_cases h : x.1 = k
    · simp [h, enc1]
    · simp only [h, decide_false, if_false]
      exact ih
/-- an entry that has come is one of the map's -/
theorem came {l : L} {x : Int} {c : Option Nat} {kl : Lit} {y : DataW Unit × List MemPlace} (hk : keyOf Try.prog 3 (.int .i64 x) = some kl) (hv : ptrElem (ptrTo c) = some y) (hat : ∀ zd, (mapOf l).atKey kl zd = y.1) : kl = .int .i64 x ∧ I64 x ∧ ∃ g, c = some g ∧ omap.look l x = some g := by
  obtain ⟨x', ex, rfl, hwf⟩ := Maps.keyOf_int_inv Try.underlying3 hk
  injection ex with _ ex
  subst ex
  simp only [Lit.wf] at hwf
  rw [Bool.and_eq_true, decide_eq_true_eq, decide_eq_true_eq] at hwf
  refine ⟨rfl, hwf, ?_⟩
  have h1 := hat .nil
  have h2 := hat (.agg [])
  rw [atKey_any] at h1 h2
  cases hl : omap.look l x with
  | none =>
    rw [hl] at h1 h2
    simp only at h1 h2
    rw [← h1] at h2
    cases h2
  | some g =>
    rw [hl] at h1
    simp only at h1
    refine ⟨g, ?_, rfl⟩
    cases c with
    | none =>
      simp only [ptrTo, ptrElem, Option.some.injEq] at hv
      rw [← hv] at h1
      cases h1
    | some g' =>
      simp only [ptrTo, ptrElem, Option.some.injEq] at hv
      rw [← hv] at h1
      simp only [DataW.lit.injEq, Lit.int.injEq, true_and] at h1
      have e : g' = g := by omega
      rw [e]
theorem below_grown {w w' : World} (h : Below w.heap.size w w') : w.grownBy w' none := ⟨h.os, h.tape, h.output, h.size, fun k hk _ => h.block k hk⟩
theorem has_map {l : L} {k : Int} {g : Nat} (h : omap.look l k = some g) : Maps.has (mapOf l) (.int .i64 k) = true := by
  unfold mapOf
  rw [Maps.has_eq, List.any_eq_true]
  refine ⟨enc1 (k, g), List.mem_map.2 ⟨(k, g), omap.look_mem h, rfl⟩, ?_⟩
  rw [sameKey_enc]
  simp
theorem same_all {t u : T} (ok : Ok t) (ok' : Ok u) (hl : t.length = u.length) (h : ∀ i, has t i = true → has u i = true ∧ kids t i = kids u i) (q : Int) : kids t q = kids u q := by
  have hsub : ∀ x, x ∈ (0 :: ids u : List Int) → x ∈ (0 :: ids t : List Int) := by
    intro x hx
    by_cases hm : x ∈ (0 :: ids t : List Int)
    · exact hm
    · exfalso
      have n1 : (0 :: ids t).Nodup := List.nodup_cons.2 ⟨fun h => ok.ne0 h rfl, ok.nd⟩
      have h1 := len_of_sub (l := x :: 0 :: ids t) (m := 0 :: ids u) (List.nodup_cons.2 ⟨hm, n1⟩) (fun y hy => by
        rcases List.mem_cons.1 hy with e | e
        · rw [e]; exact hx
        · exact List.mem_cons.2 (has_iff.1 (h y (has_iff.2 (List.mem_cons.1 e))).1))
      unfold ids at h1
      simp at h1
      omega
  by_cases hq : has t q = true
  · exact (h q hq).2
  · rw [kids_none ok hq]
    by_cases hu : has u q = true
    · exact absurd (has_iff.2 (List.mem_cons.1 (hsub q (List.mem_cons.2 (has_iff.1 hu))))) hq
    · exact (kids_none ok' hu).symm
section
variable {w : World} {b b2 : Nat} {s s2 : Sh} {t u : T}
theorem kids_at {W : World} (h : TreeAt W b s t) {i : Int} (hi : has t i = true) : KidsAt W (s.v i) ((kids t i).map s.g) (kids t i) := by
  obtain ⟨A, c, e, -, -, hat⟩ := (h.raw.node i hi).own.at_
  rw [ks_len] at e
  refine ⟨A, c, by rw [e, List.length_map], List.length_map _, fun j hj => ?_⟩
  have hj2 : j < (kids t i).length := by rw [List.length_map] at hj; exact hj
  obtain ⟨g, e2, -, hc⟩ := hat j (by rw [ks_len]; exact hj2)
  rw [ks_get] at hc
  have hk : hasP t (kids t i)[j] := has_iff.2 (.inr (h.ok.kid (List.getElem_mem hj2)).1)
  have hb' := (h.raw.node _ hk).blk
  have e3 : (kids t i).getD j 0 = (kids t i)[j] := by rw [List.getD_eq_getElem?_getD, List.getElem?_eq_getElem hj2, Option.getD_some]
  exact ⟨g, s.g (kids t i)[j], e2, by rw [List.getElem_map], hc, _, _, by rw [e3]; exact hb'⟩
set_option maxRecDepth 100000 in
set_option maxHeartbeats 4000000 in
theorem tsame (h : TreeAt w b s t) (h2 : TreeAt w b2 s2 u) (hn : t.length ≤ 1000) (hn2 : u.length ≤ 1000) :
    Calls Try.prog 21 #[.pointer (some ⟨b, 0, none⟩), .pointer (some ⟨b2, 0, none⟩)] w fun e w' => ∃ r, e = .returned (.bool r) ∧ (r = true ↔ ∀ q, kids t q = kids u q) ∧ Below w.heap.size w w' := by
  obtain ⟨c0, bi⟩ := h.raw.top
  obtain ⟨c2, bi2⟩ := h2.raw.top
  have hl1 := fun ty n => (h.drewN n).maplen ty
  have hl2 := fun ty n => (h2.drewN n).maplen ty
  have HT := Lib.hid h
  have HU := Lib.hid h2
  have HN := Lib.hid (And.intro hn hn2)
  by_cases hl : t.length = u.length
  case neg =>
    have q : (((t.length + 1 : Nat) : Int) != ((u.length + 1 : Nat) : Int)) = true := by simp; omega
    have HL := Lib.hid hl
    clear h h2 hn hn2 hl
    generalize t.length + 1 = n1 at *
    generalize u.length + 1 = n2 at *
    go_enter Try.func21, Try.ntmps21
    go_wp2_with (fail)
    go_quiet (fail)
    go_wp2_with (fail)
    go_ret
    exact ⟨false, rfl, ⟨fun e => (nomatch e), fun e => absurd (alike_len HT.out.ok HU.out.ok e) HL.out⟩, Below.drewN' (Below.refl _ _) _⟩
  have q : (((t.length + 1 : Nat) : Int) != ((u.length + 1 : Nat) : Int)) = false := by simp; omega
  have HL := Lib.hid hl
  obtain ⟨es, hm, hlk⟩ := h.raw.map
  have HM := Lib.hid (And.intro hm hlk)
  clear h h2 hn hn2 hl hm hlk
  generalize t.length + 1 = n1 at *
  generalize u.length + 1 = n2 at *
  go_enter Try.func21, Try.ntmps21
  go_wp2_with (fail)
  go_quiet (fail)
  go_wp2_with (at_range; refine wpList_range_own _ rfl _ 85 rfl 3 81 keyedI Try.underlying85 ptrElem s.m es.length (mapOf es) rfl ?_ ?_; exact (HM.out.1.stays (w' := w.drewN _) rfl).own; intro w0 hrg0 hg0 hs0)
  go_frame
  rw [show ∀ k, (w.drewN k).heap.size = w.heap.size from fun _ => rfl] at hrg0 hs0 ⊢
  have hb0 : Below w.heap.size w w0 := (Below.drewN' (Below.refl _ w) _).trans ⟨hg0.os, hg0.tape, hg0.output, hg0.size, fun k hk => hg0.block k hk (by simp)⟩
  have HB0 := Lib.hid hb0
  have HRG := Lib.hid hrg0
  have HSZ := Lib.hid hs0
  clear hrg0 hg0 hs0 hb0 q
  go_loopw [] (fun wr => ∃ (left : Lit → Bool) (cnt : Nat), Hid (wr.ranges Try.prog 3 ptrElem s.m w.heap.size es.length (mapOf es) left cnt) ∧ Hid (Below w.heap.size w wr) ∧ Hid (∀ i, has t i = true → left (.int .i64 i) = false → has u i = true ∧ kids t i = kids u i)) (fun wr => wr.rangeLeft s.m w.heap.size)
  case atStart =>
    refine ⟨_, _, HRG.out, HB0.out, fun i hi hf => ?_⟩
    have := has_map ((HM.out.2 i (s.g i)).2 ⟨hi, rfl⟩)
    rw [this] at hf
    cases hf
  case round =>
    obtain ⟨left, cnt, hrg, hbw, hso⟩ := hrel
    go_wp2_with (at_next; refine wpList_next_ranges _ rfl _ rfl 3 keyedI ptrElem (Value.int .i64) ptrTo (fun key kl hk => by obtain ⟨x, hx, _⟩ := Maps.keyOf_int_inv Try.underlying3 hk; exact ⟨x, hx⟩) (fun v y hv => ptrTo_of hv) s.m w.heap.size es.length (mapOf es) left cnt rfl hrg.out ?_ ?_)
    · intro _ hl0
      have HL0 := Lib.hid hl0
      clear hl0
      go_wp2_with (fail)
      go_ret
      exact ⟨true, rfl, ⟨fun _ => same_all HT.out.ok HU.out.ok HL.out fun i hi => hso.out i hi (HL0.out _), fun _ => rfl⟩, hbw.out⟩
    · intro x c kl yd yp w2 cnt1 hkey hlk hv hat hrg1 hlt hg1 hs1 hen
      obtain ⟨rfl, hx64, g, rfl, hlb⟩ := came hkey hv hat
      obtain ⟨hx, rfl⟩ := (HM.out.2 x g).1 hlb
      simp only [ptrTo] at hen ⊢
      have hb1 : Below w.heap.size w w2 := hbw.out.trans ⟨hg1.os, hg1.tape, hg1.output, hg1.size, fun k hk => hg1.block k (by have := hbw.out.size; omega) (fun e => by have := Option.some.inj e; omega)⟩
      have HEN := Lib.hid hen
      have HX := Lib.hid hx
      have HB1 := Lib.hid hb1
      have HRG1 := Lib.hid hrg1
      have hme : w2.rangeLeft s.m w.heap.size < wr.rangeLeft s.m w.heap.size := by rw [hrg1.left_eq, hrg.out.left_eq]; exact hlt
      have HME := Lib.hid hme
      have c2' := (hb1.cell (p := ⟨b2, 0, none⟩) bi2).trans c2
      have bi2' := Nat.lt_of_lt_of_le bi2 hb1.size
      by_cases hu : has u x = true
      case neg =>
        have hlk2 := (HU.out.below hb1).raw.look_none hx64 hu
        have HNU := Lib.hid hu
        clear hkey hlk hv hat hrg1 hlt hg1 hs1 hlb hx hb1 hme hu hx64 c0 bi c2 bi2 hl1 hl2
        go_wp2_with (fail)
        go_quiet (fail)
        go_wp2_with (fail)
        go_ret
        exact ⟨false, rfl, ⟨fun e => (nomatch e), fun e => absurd ((alike_has e x).symm.trans HX.out) HNU.out⟩, Below.drewN' HB1.out _⟩
      have hlk2 := (HU.out.below hb1).raw.look_some hx64 hu
      obtain ⟨⟨-, -, n2⟩, -, ni⟩ := HT.out.raw.cells (i := x) hx
      obtain ⟨⟨-, -, m2⟩, -, mi⟩ := HU.out.raw.cells (i := x) hu
      have HK : Hid (∀ W, Below w.heap.size w W → KidsAt W (s.v x) ((kids t x).map s.g) (kids t x) ∧ KidsAt W (s2.v x) ((kids u x).map s2.g) (kids u x)) := fun W hb => ⟨kids_at (HT.out.below hb) hx, kids_at (HU.out.below hb) hu⟩
      have HKL : Hid (((kids t x).map s.g).length ≤ 100000 ∧ ((kids u x).map s2.g).length ≤ 100000) := by
        have h1 := kids_le t x
        have h2 := kids_le u x
        have h3 := HN.out
        constructor <;> (rw [List.length_map]; omega)
      obtain ⟨A1, a1, k1, hv1⟩ := SOwn.shape (HT.out.raw.node x hx).own
      obtain ⟨A2, a2, k2, hv2⟩ := SOwn.shape (HU.out.raw.node x hu).own
      rw [hv1] at n2 HK
      rw [hv2] at m2 HK
      have HC : Hid (∀ W, Below w.heap.size w W → W.cell? ⟨s.g x, 2, none⟩ = some (.slice A1 a1 k1) ∧ s.g x < W.heap.size ∧ W.cell? ⟨s2.g x, 2, none⟩ = some (.slice A2 a2 k2) ∧ s2.g x < W.heap.size) := fun W hb =>
        ⟨(hb.cell (p := ⟨s.g x, 2, none⟩) ni).trans n2, Nat.lt_of_lt_of_le ni hb.size, (hb.cell (p := ⟨s2.g x, 2, none⟩) mi).trans m2, Nat.lt_of_lt_of_le mi hb.size⟩
      have HU2 := Lib.hid hu
      clear hkey hlk hv hat hrg1 hlt hg1 hs1 hlb hx hb1 hme hu hx64 c0 bi c2 bi2 hl1 hl2 n2 m2 ni mi hv1 hv2
      go_wp2_with (fail)
      refine regs.wp_region_put (regs.bl) (regs.noJ) [35, 36, 37, 38, 39, 40, 41, 42, 43, 44, 45, 46, 47, 48] (by kernel_rfl) (by kernel_rfl) (fun _ => regs.bl_refl _) (regs.bl_trans) (fun i => (match i with
        | 0 => regs.Say.val _ (.pointer (some ⟨s2.g x, 0, none⟩))
        | 1 => regs.Say.val _ (.bool false)
        | 2 => regs.Say.val _ (.bool false)
        | 3 => regs.Say.val _ (.pointer (some ⟨s.g x, 0, none⟩))
        | 4 => regs.Say.val _ (.pointer (some ⟨s.g x, 0, none⟩))
        | 5 => regs.Say.val _ (.pointer (some ⟨s.g x, 2, none⟩))
        | 6 => regs.Say.val _ (.slice A1 a1 k1)
        | 7 => regs.Say.val _ (.pointer (some ⟨s2.g x, 0, none⟩))
        | 8 => regs.Say.val _ (.pointer (some ⟨s2.g x, 0, none⟩))
        | 9 => regs.Say.val _ (.pointer (some ⟨s2.g x, 2, none⟩))
        | 10 => regs.Say.val _ (.slice A2 a2 k2)
        | 11 => regs.Say.val _ (.bool (decide (kids t x = kids u x)))
        | 12 => regs.Say.val _ (.bool (!(decide (kids t x = kids u x))))
        | 13 => regs.Say.val _ (.bool (!(decide (kids t x = kids u x))))
        | _ => regs.Say.any _ : regs.Say (regs.bl)).p) (fun _ => regs.Say.mono _) (by kernel_rfl) ((Below.refl _ _).drew) (regs.noJ_ok _ _) ⟨?_, ?_, ?_, ?_, ?_, ?_, ?_, ?_, ?_, ?_, ?_, ?_, ?_, ?_, trivial⟩ ?_
      · refine regs.StepOK.plain rfl fun L a w1 hh => ?_
        have h7 : a.tmps[7]?.getD undef = .pointer (some ⟨s2.g x, 0, none⟩) := by rw [← Array.getD_eq_getD_getElem?]; exact hh.old 7 rfl
        have hJ := Lib.hid hh.st
        clear hh
        go_simp
        exact ⟨_, rfl, regs.bl_refl _, rfl, hJ.out⟩
      · refine regs.StepOK.plain rfl fun L a w1 hh => ?_
        have h35 : a.tmps[35]?.getD undef = .pointer (some ⟨s2.g x, 0, none⟩) := by rw [← Array.getD_eq_getD_getElem?]; exact hh.dep 0 35 (by kernel_rfl) (by kernel_rfl)
        have hJ := Lib.hid hh.st
        clear hh
        go_simp
        exact ⟨_, rfl, regs.bl_refl _, rfl, hJ.out⟩
      · refine regs.StepOK.plain rfl fun L a w1 hh => ?_
        have h36 : a.tmps[36]?.getD undef = .bool false := by rw [← Array.getD_eq_getD_getElem?]; exact hh.dep 1 36 (by kernel_rfl) (by kernel_rfl)
        have hJ := Lib.hid hh.st
        clear hh
        go_simp
        exact ⟨_, rfl, regs.bl_refl _, rfl, hJ.out⟩
      · refine regs.StepOK.yes 2 false 37 rfl rfl (fun L a w1 hh => hh.dep 2 37 (by kernel_rfl) (by kernel_rfl)) fun L a w1 hh => ?_
        have h6 : a.tmps[6]?.getD undef = .pointer (some ⟨s.g x, 0, none⟩) := by rw [← Array.getD_eq_getD_getElem?]; exact hh.old 6 rfl
        have hJ := Lib.hid hh.st
        clear hh
        go_simp
        exact ⟨_, rfl, regs.bl_refl _, rfl, hJ.out⟩
      · refine regs.StepOK.yes 2 false 37 rfl rfl (fun L a w1 hh => hh.dep 2 37 (by kernel_rfl) (by kernel_rfl)) fun L a w1 hh => ?_
        have h38 : a.tmps[38]?.getD undef = .pointer (some ⟨s.g x, 0, none⟩) := by rw [← Array.getD_eq_getD_getElem?]; exact hh.dep 3 38 (by kernel_rfl) (by kernel_rfl)
        obtain ⟨q1, q2, q3, q4⟩ := HC.out _ (HB1.out.trans ((show Below w2.heap.size w2 w1 from hh.rel).mono HB1.out.size))
        have hJ := Lib.hid hh.st
        clear hh
        go_simp
        exact ⟨_, rfl, regs.bl_refl _, rfl, hJ.out⟩
      · refine regs.StepOK.yes 2 false 37 rfl rfl (fun L a w1 hh => hh.dep 2 37 (by kernel_rfl) (by kernel_rfl)) fun L a w1 hh => ?_
        have h39 : a.tmps[39]?.getD undef = .pointer (some ⟨s.g x, 0, none⟩) := by rw [← Array.getD_eq_getD_getElem?]; exact hh.dep 4 39 (by kernel_rfl) (by kernel_rfl)
        have hJ := Lib.hid hh.st
        clear hh
        go_simp
        exact ⟨_, rfl, regs.bl_refl _, rfl, hJ.out⟩
      · refine regs.StepOK.yes 2 false 37 rfl rfl (fun L a w1 hh => hh.dep 2 37 (by kernel_rfl) (by kernel_rfl)) fun L a w1 hh => ?_
        have h40 : a.tmps[40]?.getD undef = .pointer (some ⟨s.g x, 2, none⟩) := by rw [← Array.getD_eq_getD_getElem?]; exact hh.dep 5 40 (by kernel_rfl) (by kernel_rfl)
        obtain ⟨q1, q2, q3, q4⟩ := HC.out _ (HB1.out.trans ((show Below w2.heap.size w2 w1 from hh.rel).mono HB1.out.size))
        have hJ := Lib.hid hh.st
        clear hh
        go_simp
        exact ⟨_, rfl, regs.bl_refl _, rfl, hJ.out⟩
      · refine regs.StepOK.yes 2 false 37 rfl rfl (fun L a w1 hh => hh.dep 2 37 (by kernel_rfl) (by kernel_rfl)) fun L a w1 hh => ?_
        have h7 : a.tmps[7]?.getD undef = .pointer (some ⟨s2.g x, 0, none⟩) := by rw [← Array.getD_eq_getD_getElem?]; exact hh.old 7 rfl
        have hJ := Lib.hid hh.st
        clear hh
        go_simp
        exact ⟨_, rfl, regs.bl_refl _, rfl, hJ.out⟩
      · refine regs.StepOK.yes 2 false 37 rfl rfl (fun L a w1 hh => hh.dep 2 37 (by kernel_rfl) (by kernel_rfl)) fun L a w1 hh => ?_
        have h42 : a.tmps[42]?.getD undef = .pointer (some ⟨s2.g x, 0, none⟩) := by rw [← Array.getD_eq_getD_getElem?]; exact hh.dep 7 42 (by kernel_rfl) (by kernel_rfl)
        obtain ⟨q1, q2, q3, q4⟩ := HC.out _ (HB1.out.trans ((show Below w2.heap.size w2 w1 from hh.rel).mono HB1.out.size))
        have hJ := Lib.hid hh.st
        clear hh
        go_simp
        exact ⟨_, rfl, regs.bl_refl _, rfl, hJ.out⟩
      · refine regs.StepOK.yes 2 false 37 rfl rfl (fun L a w1 hh => hh.dep 2 37 (by kernel_rfl) (by kernel_rfl)) fun L a w1 hh => ?_
        have h43 : a.tmps[43]?.getD undef = .pointer (some ⟨s2.g x, 0, none⟩) := by rw [← Array.getD_eq_getD_getElem?]; exact hh.dep 8 43 (by kernel_rfl) (by kernel_rfl)
        have hJ := Lib.hid hh.st
        clear hh
        go_simp
        exact ⟨_, rfl, regs.bl_refl _, rfl, hJ.out⟩
      · refine regs.StepOK.yes 2 false 37 rfl rfl (fun L a w1 hh => hh.dep 2 37 (by kernel_rfl) (by kernel_rfl)) fun L a w1 hh => ?_
        have h44 : a.tmps[44]?.getD undef = .pointer (some ⟨s2.g x, 2, none⟩) := by rw [← Array.getD_eq_getD_getElem?]; exact hh.dep 9 44 (by kernel_rfl) (by kernel_rfl)
        obtain ⟨q1, q2, q3, q4⟩ := HC.out _ (HB1.out.trans ((show Below w2.heap.size w2 w1 from hh.rel).mono HB1.out.size))
        have hJ := Lib.hid hh.st
        clear hh
        go_simp
        exact ⟨_, rfl, regs.bl_refl _, rfl, hJ.out⟩
      · refine regs.StepOK.yes 2 false 37 rfl rfl (fun L a w1 hh => hh.dep 2 37 (by kernel_rfl) (by kernel_rfl)) fun L a w1 hh => ?_
        have h41 : a.tmps[41]?.getD undef = .slice A1 a1 k1 := by rw [← Array.getD_eq_getD_getElem?]; exact hh.dep 6 41 (by kernel_rfl) (by kernel_rfl)
        have h45 : a.tmps[45]?.getD undef = .slice A2 a2 k2 := by rw [← Array.getD_eq_getD_getElem?]; exact hh.dep 10 45 (by kernel_rfl) (by kernel_rfl)
        have hJ := Lib.hid hh.st
        obtain ⟨r1, r2⟩ := HK.out _ (HB1.out.trans ((show Below w2.heap.size w2 w1 from hh.rel).mono HB1.out.size))
        have HQ := Lib.hid (equal_func r1 r2 HKL.out)
        clear hh r1 r2
        go_simp
        refine HQ.out.mono ?_
        rintro e w9 ⟨rfl, hd9⟩
        exact ⟨_, rfl, hd9.below _, rfl, hJ.out⟩
      · refine regs.StepOK.yes 2 false 37 rfl rfl (fun L a w1 hh => hh.dep 2 37 (by kernel_rfl) (by kernel_rfl)) fun L a w1 hh => ?_
        have h46 : a.tmps[46]?.getD undef = .bool (decide (kids t x = kids u x)) := by rw [← Array.getD_eq_getD_getElem?]; exact hh.dep 11 46 (by kernel_rfl) (by kernel_rfl)
        have hJ := Lib.hid hh.st
        clear hh
        go_simp
        exact ⟨_, rfl, regs.bl_refl _, rfl, hJ.out⟩
      · refine regs.StepOK.plain rfl fun L a w1 hh => ?_
        have h37 : a.tmps[37]?.getD undef = .bool false := by rw [← Array.getD_eq_getD_getElem?]; exact hh.dep 2 37 (by kernel_rfl) (by kernel_rfl)
        have h47 : a.tmps[47]?.getD undef = .bool (!(decide (kids t x = kids u x))) := by rw [← Array.getD_eq_getD_getElem?]; exact hh.dep 12 47 (by kernel_rfl) (by kernel_rfl)
        have hJ := Lib.hid hh.st
        clear hh
        go_simp
        exact ⟨_, rfl, regs.bl_refl _, rfl, hJ.out⟩
      intro L w3 val hL hJ hR hv
      have e48 : val 48 = _ := hv 13 48 rfl
      have HR3 : Hid (Below w.heap.size w w3) := HB1.out.trans ((show Below w2.heap.size w2 w3 from hR).mono HB1.out.size)
      simp only [regs.putAll, List.map_cons, List.map_nil]
      rw [e48]
      simp only [Act.put, List.setIfInBounds_toArray, List.set_cons_zero, List.set_cons_succ]
      have HRG3 : Hid (w3.ranges Try.prog 3 ptrElem s.m w.heap.size es.length (mapOf es) (fun z => left z && !z.sameKey (.int .i64 x)) cnt1) := HRG1.out.kept (below_grown (show Below w2.heap.size w2 w3 from hR)) (by simp) (by simp)
      have HME3 : Hid (w3.rangeLeft s.m w.heap.size < wr.rangeLeft s.m w.heap.size) := by
        show _ < _
        rw [HRG3.out.left_eq, ← HRG1.out.left_eq]
        exact HME.out
      clear hv hL hJ hR e48 HRG1 HME
      generalize val 35 = y35 at *
      generalize val 36 = y36 at *
      generalize val 37 = y37 at *
      generalize val 38 = y38 at *
      generalize val 39 = y39 at *
      generalize val 40 = y40 at *
      generalize val 41 = y41 at *
      generalize val 42 = y42 at *
      generalize val 43 = y43 at *
      generalize val 44 = y44 at *
      generalize val 45 = y45 at *
      generalize val 46 = y46 at *
      generalize val 47 = y47 at *
      by_cases e : kids t x = kids u x
      · have HE := Lib.hid e
        rw [decide_eq_true e]
        clear e
        go_wp2_with (fail)
        go_roundw
        case rel =>
          refine ⟨_, _, HRG3, HR3, fun i hi hf => ?_⟩
          by_cases ei : i = x
          · rw [ei]; exact ⟨HU2.out, HE.out⟩
          · refine hso.out i hi ?_
            have : (Lit.int IntKind.i64 i).sameKey (.int .i64 x) = false := by
              simp only [Lit.sameKey]
              simp [ei]
            rw [this] at hf
            simpa using hf
        case measure => exact HME3.out
      · have HE := Lib.hid e
        rw [decide_eq_false e]
        clear e
        go_wp2_with (fail)
        go_ret
        exact ⟨false, rfl, ⟨fun e => (nomatch e), fun e => absurd (e x) HE.out⟩, HR3.out⟩
end
end Go.Proofs.Ytokochkjjlbnkaa
