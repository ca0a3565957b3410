/-
  Layer 12: TreeBack.
-/
import Derived.Test.YtjnccggfbjkecaaTtOpen
namespace Go.Proofs.Ytjnccggfbjkecaa
open Go.RowKit trm

theorem TreeAt.alike {w : World} {b : Nat} {s : Sh} {t u : T} (h : TreeAt w b s u) (ok : Ok t) (al : ∀ q, kids u q = kids t q) : TreeAt w b s t := by
  have h1 : hasP u = hasP t := funext fun i => by show (has u i = true) = (has t i = true); rw [alike_has al]
  have h3 : kids u = kids t := funext al
  have h2 : upT u = upT t := funext fun i => by unfold upT; rw [alike_par h.ok ok al]
  have hr : Raw w b s (hasP u) (upT u) (kids u) := h.raw
  rw [h1, h2, h3] at hr
  exact ⟨hr, ok⟩
theorem movS_not {t : T} {i p n : Int} (h : (movS t i p n).2 ≠ 0) : (movS t i p n).1 = t := by
  unfold movS at h ⊢
  by_cases h1 : i = 0
  · rw [if_pos h1]
  rw [if_neg h1] at h ⊢
  by_cases h2 : has t i = false
  · rw [if_pos h2]
  rw [if_neg h2] at h ⊢
  by_cases h3 : has t p = false
  · rw [if_pos h3]
  rw [if_neg h3] at h ⊢
  by_cases h4 : p = i ∨ within t p i = true
  · rw [if_pos h4]
  rw [if_neg h4] at h ⊢
  by_cases h5 : n < 0 ∨ (((kids t p).filter fun k => decide (k ≠ i)).length : Int) < n
  · rw [if_pos h5]
  rw [if_neg h5] at h
  exact absurd rfl h
theorem movS_yes {t : T} {i p n : Int} (h : (movS t i p n).2 = 0) : (movS t i p n).1 = trm.move i p n.toNat t ∧ i ∈ ids t ∧ n.toNat ≤ ((kids t p).filter fun k => decide (k ≠ i)).length := by
  unfold movS at h ⊢
  by_cases h1 : i = 0
  · rw [if_pos h1] at h; cases h
  rw [if_neg h1] at h ⊢
  by_cases h2 : has t i = false
  · rw [if_pos h2] at h; cases h
  rw [if_neg h2] at h ⊢
  by_cases h3 : has t p = false
  · rw [if_pos h3] at h; cases h
  rw [if_neg h3] at h ⊢
  by_cases h4 : p = i ∨ within t p i = true
  · rw [if_pos h4] at h; cases h
  rw [if_neg h4] at h ⊢
  by_cases h5 : n < 0 ∨ (((kids t p).filter fun k => decide (k ≠ i)).length : Int) < n
  · rw [if_pos h5] at h; cases h
  rw [if_neg h5]
  exact ⟨rfl, (has_iff.1 (by simpa using h2)).resolve_left h1, by omega⟩
/-- where a node was found, so far -/
def FoundK (K : List Int) (i : Int) (k : Nat) (v : Int) : Prop := (v = -1 ∧ ∀ j (_ : j < K.length), j < k → K[j] ≠ i) ∨ ∃ j, ∃ h : j < K.length, v = (j : Nat) ∧ K[j] = i
theorem FoundK.start (K : List Int) (i : Int) : FoundK K i 0 (-1) := .inl ⟨rfl, fun j _ h => absurd h (by omega)⟩
theorem FoundK.hit {K : List Int} {i : Int} {k : Nat} (h : k < K.length) (e : K[k] = i) : FoundK K i (k + 1) (k : Nat) := .inr ⟨k, h, rfl, e⟩
theorem FoundK.miss {K : List Int} {i : Int} {k : Nat} {v : Int} (hf : FoundK K i k v) (h : k < K.length) (e : K[k] ≠ i) : FoundK K i (k + 1) v := by
  rcases hf with ⟨h1, h2⟩ | h1
  · exact .inl ⟨h1, fun j hj hk => by
      by_cases ej : j = k
      · subst ej; exact e
      · exact h2 j hj (by omega)⟩
  · exact .inr h1
theorem FoundK.last {K : List Int} {i v : Int} (hf : FoundK K i K.length v) (h : i ∈ K) : ∃ j, ∃ h : j < K.length, v = (j : Nat) ∧ K[j] = i := by
  rcases hf with ⟨-, h2⟩ | h1
  · obtain ⟨j, hj, e⟩ := List.mem_iff_getElem.1 h
    exact absurd e (h2 j hj hj)
  · exact h1
theorem par_i64 {t : T} (ok : Ok t) {i : Int} : I64 (par t i) := by
  by_cases h : i ∈ ids t
  · exact has_i64 ok (has_iff.2 (ok.par_ok h))
  · unfold par
    have : t.find? (fun r => decide (r.1 = i)) = none := by
      rw [List.find?_eq_none]
      intro r hr e
      simp only [decide_eq_true_eq] at e
      exact h (e ▸ List.mem_map_of_mem hr)
    rw [this]
    constructor <;> decide
/-- while the way back is told -/
structure BkJ (g b : Nat) (s6 : Sh) (T1 : T) (v0 : Value) (t : T) (d : Bool) (w : World) : Prop where
  no : d = false → TreeAt w b s6 T1
  yes : d = true → ∃ s2, PlayAt w g b s2 v0 t
theorem BkJ.below {g b : Nat} {s6 : Sh} {T1 : T} {v0 : Value} {t : T} {d : Bool} {w w' : World} (h : BkJ g b s6 T1 v0 t d w) (hb : Below w.heap.size w w') : BkJ g b s6 T1 v0 t d w' :=
  ⟨fun e => (h.no e).below hb, fun e => by
    obtain ⟨s2, h2⟩ := h.yes e
    exact ⟨s2, h2.below hb⟩⟩
set_option maxRecDepth 100000 in
set_option maxHeartbeats 4000000 in
theorem back_in (A : Option Addr) (l : List O4) (c : Nat) (x : O4) (w : World) (hr : OpRow w A l) (ho : ∀ o ∈ l, o.ok) (hm : l.length ≤ 9223372036854775807) (hx : x.ok) :
    Calls Try.prog 7 #[.slice A l.length c, x.v] w fun e w' => e = .returned (.bool true) ∧ Below w.heap.size w w' := by
  obtain ⟨ci, cj, cp, cn⟩ := x
  simp only [O4.v]
  obtain ⟨w0, hw0⟩ : ∃ w0, w0 = w.alloc (.cells #[.int .i64 ci, .int .i64 cj, .int .i64 cp, .int .i64 cn] tOp) := ⟨_, rfl⟩
  have hb0 : Below w.heap.size w w0 := by rw [hw0]; exact (Below.refl _ _).alloc (Nat.le_refl _) _
  have hx0 : BlkT w0 w.heap.size [.int .i64 ci, .int .i64 cj, .int .i64 cp, .int .i64 cn] tOp := by rw [hw0]; exact BlkT.new w _ _
  have HB0 := Lib.hid hb0
  have HX0 := Lib.hid hx0
  have HW0 := Lib.hid hw0
  clear hb0 hx0 hw0
  by_cases h60 : 60 < l.length
  · have t0 : decide ((60 : Int) < (l.length : Int)) = true := decide_eq_true (by omega)
    clear hr ho h60 hx
    go_enter Try.func7, Try.ntmps7
    go_wp2_with (fail)
    rw [← HW0.out]
    refine (awake_any w0).mono ?_
    rintro e w1 ⟨rfl, hb⟩
    have HB := Lib.hid hb
    clear hb
    go_wp2_with (fail)
    go_ret
    exact ⟨rfl, HB0.out.trans (HB.out.mono HB0.out.size)⟩
  have t0 : decide ((60 : Int) < (l.length : Int)) = false := decide_eq_false (by omega)
  have HL : Hid (l.length ≤ 60) := Nat.le_of_not_lt h60
  have HR := Lib.hid hr
  have HO := Lib.hid ho
  have HI : Hid (I64 cj ∧ I64 cp) := ⟨hx.i, hx.p⟩
  have HR0 : Hid (OpRow w0 A l) := SRow.below hr HB0.out
  clear hr ho h60 hx HR
  go_enter Try.func7, Try.ntmps7
  go_wp2_with (fail)
  rw [← HW0.out]
  refine (tnew w0).mono ?_
  rintro e w1 ⟨b, s, rfl, hT, hb, hf⟩
  have HM := Lib.hid (MyPlay.made hb hT hf)
  clear hT hb hf
  go_wp2_with (fail)
  clear HW0
  generalize w1.alloc (.cells #[.pointer (some ⟨b, 0, none⟩), .slice none 0 0] tPlay) = w2 at *
  generalize w1.heap.size = g at *
  go_loopw [27] (fun x wr => ∃ k : Nat, k ≤ l.length ∧ x = .int .i64 k ∧ Hid (MyPlay w0 g b (runT [] (l.take k)) wr)) (fun x _ => l.length - (intOf x).toNat)
  case atStart => exact ⟨0, Nat.zero_le _, rfl, HM.out⟩
  case round =>
    obtain ⟨k, hk, rfl, HK⟩ := hrel
    by_cases hlt : k < l.length
    · have t1 : decide (k < l.length) = true := by simpa using hlt
      have HLT := Lib.hid hlt
      have hkb : (k : Int) ≤ 10000 := by have := HL.out; omega
      obtain ⟨b1, o1, rA, k1⟩ := HR0.out.in_ hlt
      subst rA
      obtain ⟨c1, c2, c3, c4⟩ := k1 _ HK.out.bel
      have HOK := Lib.hid (HO.out _ (List.getElem_mem hlt))
      have HS := Lib.hid (runT_snoc [] hlt)
      have HN : Hid ((runT [] (l.take k)).length ≤ 1000) := by
        have h1 := (runT_ok ok_nil (l.take k)).2
        rw [List.length_take, List.length_nil] at h1
        have := HL.out
        show _ ≤ _
        omega
      clear k1
      generalize l[k] = o at *
      generalize runT [] (l.take k) = T0 at *
      obtain ⟨T1, hT1⟩ : ∃ x, runT [] (l.take (k + 1)) = x := ⟨_, rfl⟩
      have HT1 := Lib.hid hT1
      rw [hT1] at HS
      clear hT1
      obtain ⟨ok, oi, op, on⟩ := o
      simp only at c1 c2 c3 c4
      go_wp2_with (fail)
      have hb1 : Below wr.heap.size wr (wr.alloc (.cells #[.int .i64 ok, .int .i64 oi, .int .i64 op, .int .i64 on] tOp)) := (Below.refl _ _).alloc (Nat.le_refl _) _
      refine ((HK.out.below hb1).step HN.out ⟨ok, oi, op, on⟩ HOK.out).mono ?_
      rintro e w3 ⟨rfl, hm3⟩
      rw [← HS.out] at hm3
      have HM3 := Lib.hid hm3
      clear hm3 hb1 c1 c2 c3 c4 HK
      go_wp2_with (fail)
      go_roundw
      case rel => exact ⟨k + 1, HLT.out, by go_num, by rw [HT1.out]; exact HM3⟩
      case measure => have := HLT.out; simp [intOf]; omega
    · obtain rfl : k = l.length := by omega
      have t1 : decide (l.length < l.length) = false := by simp
      generalize wr = wA at *
      have HT0 : Hid ((runT [] (l.take l.length)).length ≤ 60 ∧ Ok (runT [] (l.take l.length))) := by
        have h1 := runT_ok ok_nil (l.take l.length)
        refine ⟨Nat.le_trans h1.2 ?_, h1.1⟩
        rw [List.length_take, List.length_nil]
        have := HL.out
        omega
      generalize runT [] (l.take l.length) = t at *
      obtain ⟨s0, v0, hp, hfoot⟩ := HK.out.ex
      have HP := Lib.hid hp
      have HFT := Lib.hid hfoot
      have HBK := Lib.hid HK.out.bel
      have HXA : Hid (BlkT wA w.heap.size [.int .i64 ci, .int .i64 cj, .int .i64 cp, .int .i64 cn] tOp) := HX0.out.stays (HBK.out.block _ HX0.out.inside)
      have HPC : Hid (∀ W, Below wA.heap.size wA W → DoF W g b w.heap.size v0 ci cj cp cn) := fun W hb => DoF.of (HP.out.below hb).blk (HXA.out.stays (hb.block _ HXA.out.inside))
      obtain ⟨q0, -, qi, -, -, -, -, -⟩ := HPC.out wA (Below.refl _ _)
      have HCL := Lib.hid (tclone hp.tree (by have := HT0.out.1; omega))
      unfold CloneQ at HCL
      have HX0I : Hid (w.heap.size < w0.heap.size) := HX0.out.inside
      clear hp hfoot HK HM HX0
      go_wp2_with (fail)
      refine HCL.out.mono ?_
      rintro e w3 ⟨d, s8, rfl, hC, hcf, hb3⟩
      have HC3 := Lib.hid (And.intro hC hcf)
      have HB3 := Lib.hid hb3
      clear hC hcf hb3 HCL q0 qi
      go_wp2_with (fail)
      have FC : Hid (∀ W, regs.bl w3 W → DoF W g b w.heap.size v0 ci cj cp cn) := fun W hb => HPC.out W (HB3.out.trans (Below.mono hb HB3.out.size))
      have HC1 : Hid (∀ W, regs.bl w3 W → Calls Try.prog 17 #[.pointer (some ⟨b, 0, none⟩), .int .i64 cj] W fun e w' => e = .returned (.int .i64 (par t cj)) ∧ Below W.heap.size W w') := fun W hb => tparent (HP.out.tree.below (HB3.out.trans (Below.mono hb HB3.out.size))) cj HI.out.1
      have HPI : Hid (I64 (par t cj)) := par_i64 HT0.out.2
      obtain ⟨PP, hPP⟩ : ∃ q, par t cj = q := ⟨_, rfl⟩
      rw [hPP] at HC1 HPI
      have HPP := Lib.hid hPP
      clear hPP
      refine regs.wp_region_put (regs.bl) (regs.noJ) [41, 42, 43, 44, 45, 46, 47, 9] (by kernel_rfl) (by kernel_rfl) (fun _ => regs.bl_refl _) (regs.bl_trans) (fun i => (match i with
        | 0 => regs.Say.val _ (.pointer (some ⟨g, 0, none⟩))
        | 1 => regs.Say.val _ (.pointer (some ⟨g, 0, none⟩))
        | 2 => regs.Say.val _ (.pointer (some ⟨g, 0, none⟩))
        | 3 => regs.Say.val _ (.pointer (some ⟨b, 0, none⟩))
        | 4 => regs.Say.val _ (.pointer (some ⟨w.heap.size, 1, none⟩))
        | 5 => regs.Say.val _ (.int .i64 cj)
        | 6 => regs.Say.val _ (.int .i64 PP)
        | 7 => regs.Say.val _ (.int .i64 PP)
        | _ => regs.Say.any _ : regs.Say (regs.bl)).p) (fun _ => regs.Say.mono _) (by kernel_rfl) ((Below.refl _ _).drew) (regs.noJ_ok _ _) ⟨?_, ?_, ?_, ?_, ?_, ?_, ?_, ?_, trivial⟩ ?_
      · refine regs.StepOK.plain rfl fun L a w1 hh => ?_
        have h5 : a.tmps[5]?.getD undef = .pointer (some ⟨g, 0, none⟩) := by rw [← Array.getD_eq_getD_getElem?]; exact hh.old 5 rfl
        have hJ := Lib.hid hh.st
        clear hh
        go_simp
        exact ⟨_, rfl, regs.bl_refl _, rfl, hJ.out⟩
      · refine regs.StepOK.plain rfl fun L a w1 hh => ?_
        have h41 : a.tmps[41]?.getD undef = .pointer (some ⟨g, 0, none⟩) := by rw [← Array.getD_eq_getD_getElem?]; exact hh.dep 0 41 (by kernel_rfl) (by kernel_rfl)
        obtain ⟨p0, p1, pi, o0, o1, o2, o3, oi⟩ := FC.out _ hh.rel
        have hJ := Lib.hid hh.st
        clear hh
        go_simp
        exact ⟨_, rfl, regs.bl_refl _, rfl, hJ.out⟩
      · refine regs.StepOK.plain rfl fun L a w1 hh => ?_
        have h42 : a.tmps[42]?.getD undef = .pointer (some ⟨g, 0, none⟩) := by rw [← Array.getD_eq_getD_getElem?]; exact hh.dep 1 42 (by kernel_rfl) (by kernel_rfl)
        obtain ⟨p0, p1, pi, o0, o1, o2, o3, oi⟩ := FC.out _ hh.rel
        have hJ := Lib.hid hh.st
        clear hh
        go_simp
        exact ⟨_, rfl, regs.bl_refl _, rfl, hJ.out⟩
      · refine regs.StepOK.plain rfl fun L a w1 hh => ?_
        have h43 : a.tmps[43]?.getD undef = .pointer (some ⟨g, 0, none⟩) := by rw [← Array.getD_eq_getD_getElem?]; exact hh.dep 2 43 (by kernel_rfl) (by kernel_rfl)
        obtain ⟨p0, p1, pi, o0, o1, o2, o3, oi⟩ := FC.out _ hh.rel
        have hJ := Lib.hid hh.st
        clear hh
        go_simp
        exact ⟨_, rfl, regs.bl_refl _, rfl, hJ.out⟩
      · refine regs.StepOK.plain rfl fun L a w1 hh => ?_
        have h3 : a.tmps[3]?.getD undef = .pointer (some ⟨w.heap.size, 0, none⟩) := by rw [← Array.getD_eq_getD_getElem?]; exact hh.old 3 rfl
        obtain ⟨p0, p1, pi, o0, o1, o2, o3, oi⟩ := FC.out _ hh.rel
        have hJ := Lib.hid hh.st
        clear hh
        go_simp
        exact ⟨_, rfl, regs.bl_refl _, rfl, hJ.out⟩
      · refine regs.StepOK.plain rfl fun L a w1 hh => ?_
        have h45 : a.tmps[45]?.getD undef = .pointer (some ⟨w.heap.size, 1, none⟩) := by rw [← Array.getD_eq_getD_getElem?]; exact hh.dep 4 45 (by kernel_rfl) (by kernel_rfl)
        obtain ⟨p0, p1, pi, o0, o1, o2, o3, oi⟩ := FC.out _ hh.rel
        have hJ := Lib.hid hh.st
        clear hh
        go_simp
        exact ⟨_, rfl, regs.bl_refl _, rfl, hJ.out⟩
      · refine regs.StepOK.plain rfl fun L a w1 hh => ?_
        have h44 : a.tmps[44]?.getD undef = .pointer (some ⟨b, 0, none⟩) := by rw [← Array.getD_eq_getD_getElem?]; exact hh.dep 3 44 (by kernel_rfl) (by kernel_rfl)
        have h46 : a.tmps[46]?.getD undef = .int .i64 cj := by rw [← Array.getD_eq_getD_getElem?]; exact hh.dep 5 46 (by kernel_rfl) (by kernel_rfl)
        have hC := Lib.hid (HC1.out _ hh.rel)
        have hJ := Lib.hid hh.st
        clear hh
        go_simp
        refine hC.out.mono ?_
        rintro e w9 ⟨rfl, hb9⟩
        exact ⟨_, rfl, hb9, rfl, hJ.out⟩
      · refine regs.StepOK.plain rfl fun L a w1 hh => ?_
        have h47 : a.tmps[47]?.getD undef = .int .i64 PP := by rw [← Array.getD_eq_getD_getElem?]; exact hh.dep 6 47 (by kernel_rfl) (by kernel_rfl)
        have hJ := Lib.hid hh.st
        clear hh
        go_simp
        exact ⟨_, rfl, regs.bl_refl _, rfl, hJ.out⟩
      intro L' w4 val hL hJ hR hv
      have h9 : val 9 = .int .i64 PP := hv 7 9 (by kernel_rfl)
      have HB4 : Hid (Below wA.heap.size wA w4) := HB3.out.trans (Below.mono (show Below w3.heap.size w3 w4 from hR) HB3.out.size)
      have HC4 : Hid (TreeAt w4 d s8 t) := HC3.out.1.below hR
      have HS34 : Hid (w3.heap.size ≤ w4.heap.size) := (show Below w3.heap.size w3 w4 from hR).size
      clear hv hL hJ hR FC HC1
      simp only [regs.putAll, List.map_cons, List.map_nil, h9]
      simp only [Act.put, List.setIfInBounds_toArray, List.set_cons_zero, List.set_cons_succ]
      clear h9
      generalize val 41 = y41 at *
      generalize val 42 = y42 at *
      generalize val 43 = y43 at *
      generalize val 44 = y44 at *
      generalize val 45 = y45 at *
      generalize val 46 = y46 at *
      generalize val 47 = y47 at *
      simp only [Exit.then]
      obtain ⟨q0, -, qi, -, -, -, -, -⟩ := HPC.out w4 HB4.out
      go_wp2_with (fail)
      refine (tkids (HP.out.tree.below HB4.out) (by have := HT0.out.1; omega) PP HPI.out).mono ?_
      rintro e w5 ⟨v5, rfl, ho5, hb5⟩
      obtain ⟨A5, c5, rfl, -, -, hr5⟩ := IOwn.irow ho5
      have HR5 := Lib.hid hr5
      have HB5 : Hid (Below wA.heap.size wA w5) := HB4.out.trans (hb5.mono HB4.out.size)
      have HC5 : Hid (TreeAt w5 d s8 t) := HC4.out.below hb5
      have HKL : Hid ((kids t PP).length ≤ 60) := by show _ ≤ _; have := kids_le t PP; have := HT0.out.1; omega
      have HKI : Hid (∀ y ∈ kids t PP, I64 y) := fun y hy => has_i64 HT0.out.2 (has_iff.2 (.inr (HT0.out.2.kid hy).1))
      obtain ⟨KK, hKK⟩ : ∃ q, kids t PP = q := ⟨_, rfl⟩
      rw [hKK] at HR5 HKL HKI
      rw [hKK]
      have HKK := Lib.hid hKK
      clear hKK ho5 hr5 hb5 q0 qi HC4 HB4 HB3
      go_wp2_with (fail)
      go_loopw [55, 10] (fun x v wr => ∃ (k2 : Nat) (m : Int), k2 ≤ KK.length ∧ x = .int .i64 k2 ∧ v = .int .i64 m ∧ Hid (FoundK KK cj k2 m) ∧ Hid (Below w5.heap.size w5 wr)) (fun x _ _ => KK.length - (intOf x).toNat)
      case atStart => exact ⟨0, -1, Nat.zero_le _, rfl, rfl, FoundK.start _ _, Below.refl _ _⟩
      case round =>
        obtain ⟨k2, m, hk2, rfl, rfl, HF, HB6⟩ := hrel
        generalize wr = wB at *
        by_cases hlt2 : k2 < KK.length
        · have t1 : decide (k2 < KK.length) = true := by simpa using hlt2
          have HLT2 := Lib.hid hlt2
          have hkb : (k2 : Int) ≤ 10000 := by have := HKL.out; omega
          obtain ⟨b5, o5, rA, k1'⟩ := HR5.out.in_ hlt2
          cases rA
          have k1 := k1' _ HB6.out
          unfold eI at k1
          obtain ⟨-, -, -, -, o1', -, -, oi'⟩ := HPC.out wB (HB5.out.trans (HB6.out.mono HB5.out.size))
          clear k1'
          generalize hy : KK[k2] = y at k1
          have HYE := Lib.hid hy
          clear hy
          by_cases he : y = cj
          · have HF2 := Lib.hid (FoundK.hit hlt2 (HYE.out.trans he))
            have te : (y == cj) = true := by simpa using he
            clear HF he HYE
            go_wp2_with (fail)
            go_roundw
            case rel => exact ⟨k2 + 1, k2, HLT2.out, by go_num, rfl, HF2, HB6⟩
            case measure => have := HLT2.out; simp [intOf]; omega
          · have HF2 := Lib.hid (FoundK.miss HF.out hlt2 (fun e => he (HYE.out.symm.trans e)))
            have te : (y == cj) = false := by simpa using he
            clear HF he HYE
            go_wp2_with (fail)
            go_roundw
            case rel => exact ⟨k2 + 1, m, HLT2.out, by go_num, rfl, HF2, HB6⟩
            case measure => have := HLT2.out; simp [intOf]; omega
        · obtain rfl : k2 = KK.length := by omega
          have t1 : decide (KK.length < KK.length) = false := by simp
          have hB7 : Below wA.heap.size wA wB := HB5.out.trans (HB6.out.mono HB5.out.size)
          have HB7 := Lib.hid hB7
          have HC7 : Hid (TreeAt wB d s8 t) := HC5.out.below HB6.out
          have HT7 : Hid (TreeAt wB b s0 t) := HP.out.tree.below hB7
          have HF7 := HF
          have HFA : Hid (∀ q, FootT b s0 t q → q < wA.heap.size) := HP.out.tree.raw.inside
          have HDF : Hid (∀ q, FootT d s8 t q → wA.heap.size ≤ q ∧ q < wB.heap.size) := fun q hq => ⟨HC3.out.2 q hq, HC7.out.raw.inside q hq⟩
          clear HF HB6 hB7 HC5 HB5
          obtain ⟨R, hR⟩ : ∃ q, movS t cj cp cn = q := ⟨_, rfl⟩
          have HRR := Lib.hid hR
          have HCM : Hid (∀ W, TreeAt W b s0 t → Calls Try.prog 25 #[.pointer (some ⟨b, 0, none⟩), .int .i64 cj, .int .i64 cp, .int .i64 cn] W (DoQ b s0 t R W)) := fun W hT => by
            rw [← hR]
            exact tmove hT (by have := HT0.out.1; omega) cj cp cn HI.out.1 HI.out.2
          unfold DoQ at HCM
          clear hR
          have FC : Hid (∀ W, TurnP (FootT b s0 t) (FootT b s0 t) wB W → DoF W g b w.heap.size v0 ci cj cp cn) := fun W hb => by
            have h1 := (HP.out.below HB7.out)
            have h2 := HXA.out.stays (HB7.out.block _ HXA.out.inside)
            exact DoF.of (h1.blk.stays (hb.far _ h1.blk.inside h1.far).2) (h2.stays (hb.far _ h2.inside fun e => by have := HFT.out _ (.inr e); have := HB0.out.size; have := HX0I.out; omega).2)
          by_cases hc : R.2 = 0
          · have tc : (R.2 != 0) = false := by simp [hc]
            have HCZ := Lib.hid hc
            clear hc
            go_wp2_with (fail)
            refine regs.wp_region_put (TurnP (FootT b s0 t) (FootT b s0 t)) (fun L wx => DoJ b s0 t R.1 wB (L 10) wx) [66, 67, 68, 69, 70, 71, 72, 73, 74, 75, 76, 77] (by kernel_rfl) (by kernel_rfl) (fun _ => TurnP.refl _ _) (fun _ _ _ h k => h.trans k) (fun i => (match i with
              | 0 => regs.Say.val _ (.pointer (some ⟨g, 0, none⟩))
              | 1 => regs.Say.val _ (.pointer (some ⟨g, 0, none⟩))
              | 2 => regs.Say.val _ (.pointer (some ⟨g, 0, none⟩))
              | 3 => regs.Say.val _ (.pointer (some ⟨b, 0, none⟩))
              | 4 => regs.Say.val _ (.pointer (some ⟨w.heap.size, 1, none⟩))
              | 5 => regs.Say.val _ (.int .i64 cj)
              | 6 => regs.Say.val _ (.pointer (some ⟨w.heap.size, 2, none⟩))
              | 7 => regs.Say.val _ (.int .i64 cp)
              | 8 => regs.Say.val _ (.pointer (some ⟨w.heap.size, 3, none⟩))
              | 9 => regs.Say.val _ (.int .i64 cn)
              | 10 => regs.Say.val _ (.int .i64 R.2)
              | 11 => regs.Say.val _ (.bool false)
              | _ => regs.Say.any _ : regs.Say (TurnP (FootT b s0 t) (FootT b s0 t))).p) (fun _ => regs.Say.mono _) (by kernel_rfl) (TurnP.below ((Below.refl _ _).drew)) (⟨fun _ => HT7.out.below ((Below.refl _ _).drew), fun e => (nomatch e)⟩) ⟨?_, ?_, ?_, ?_, ?_, ?_, ?_, ?_, ?_, ?_, ?_, ?_, trivial⟩ ?_
            · refine regs.StepOK.plain rfl fun L a w1 hh => ?_
              have h5 : a.tmps[5]?.getD undef = .pointer (some ⟨g, 0, none⟩) := by rw [← Array.getD_eq_getD_getElem?]; exact hh.old 5 rfl
              have hJ := Lib.hid hh.st
              clear hh
              go_simp
              exact ⟨_, rfl, TurnP.refl _ _, rfl, hJ.out⟩
            · refine regs.StepOK.plain rfl fun L a w1 hh => ?_
              have h66 : a.tmps[66]?.getD undef = .pointer (some ⟨g, 0, none⟩) := by rw [← Array.getD_eq_getD_getElem?]; exact hh.dep 0 66 (by kernel_rfl) (by kernel_rfl)
              obtain ⟨p0, p1, pi, o0, o1, o2, o3, oi⟩ := FC.out _ hh.rel
              have hJ := Lib.hid hh.st
              clear hh
              go_simp
              exact ⟨_, rfl, TurnP.refl _ _, rfl, hJ.out⟩
            · refine regs.StepOK.plain rfl fun L a w1 hh => ?_
              have h67 : a.tmps[67]?.getD undef = .pointer (some ⟨g, 0, none⟩) := by rw [← Array.getD_eq_getD_getElem?]; exact hh.dep 1 67 (by kernel_rfl) (by kernel_rfl)
              obtain ⟨p0, p1, pi, o0, o1, o2, o3, oi⟩ := FC.out _ hh.rel
              have hJ := Lib.hid hh.st
              clear hh
              go_simp
              exact ⟨_, rfl, TurnP.refl _ _, rfl, hJ.out⟩
            · refine regs.StepOK.plain rfl fun L a w1 hh => ?_
              have h68 : a.tmps[68]?.getD undef = .pointer (some ⟨g, 0, none⟩) := by rw [← Array.getD_eq_getD_getElem?]; exact hh.dep 2 68 (by kernel_rfl) (by kernel_rfl)
              obtain ⟨p0, p1, pi, o0, o1, o2, o3, oi⟩ := FC.out _ hh.rel
              have hJ := Lib.hid hh.st
              clear hh
              go_simp
              exact ⟨_, rfl, TurnP.refl _ _, rfl, hJ.out⟩
            · refine regs.StepOK.plain rfl fun L a w1 hh => ?_
              have h3 : a.tmps[3]?.getD undef = .pointer (some ⟨w.heap.size, 0, none⟩) := by rw [← Array.getD_eq_getD_getElem?]; exact hh.old 3 rfl
              obtain ⟨p0, p1, pi, o0, o1, o2, o3, oi⟩ := FC.out _ hh.rel
              have hJ := Lib.hid hh.st
              clear hh
              go_simp
              exact ⟨_, rfl, TurnP.refl _ _, rfl, hJ.out⟩
            · refine regs.StepOK.plain rfl fun L a w1 hh => ?_
              have h70 : a.tmps[70]?.getD undef = .pointer (some ⟨w.heap.size, 1, none⟩) := by rw [← Array.getD_eq_getD_getElem?]; exact hh.dep 4 70 (by kernel_rfl) (by kernel_rfl)
              obtain ⟨p0, p1, pi, o0, o1, o2, o3, oi⟩ := FC.out _ hh.rel
              have hJ := Lib.hid hh.st
              clear hh
              go_simp
              exact ⟨_, rfl, TurnP.refl _ _, rfl, hJ.out⟩
            · refine regs.StepOK.plain rfl fun L a w1 hh => ?_
              have h3 : a.tmps[3]?.getD undef = .pointer (some ⟨w.heap.size, 0, none⟩) := by rw [← Array.getD_eq_getD_getElem?]; exact hh.old 3 rfl
              obtain ⟨p0, p1, pi, o0, o1, o2, o3, oi⟩ := FC.out _ hh.rel
              have hJ := Lib.hid hh.st
              clear hh
              go_simp
              exact ⟨_, rfl, TurnP.refl _ _, rfl, hJ.out⟩
            · refine regs.StepOK.plain rfl fun L a w1 hh => ?_
              have h72 : a.tmps[72]?.getD undef = .pointer (some ⟨w.heap.size, 2, none⟩) := by rw [← Array.getD_eq_getD_getElem?]; exact hh.dep 6 72 (by kernel_rfl) (by kernel_rfl)
              obtain ⟨p0, p1, pi, o0, o1, o2, o3, oi⟩ := FC.out _ hh.rel
              have hJ := Lib.hid hh.st
              clear hh
              go_simp
              exact ⟨_, rfl, TurnP.refl _ _, rfl, hJ.out⟩
            · refine regs.StepOK.plain rfl fun L a w1 hh => ?_
              have h3 : a.tmps[3]?.getD undef = .pointer (some ⟨w.heap.size, 0, none⟩) := by rw [← Array.getD_eq_getD_getElem?]; exact hh.old 3 rfl
              obtain ⟨p0, p1, pi, o0, o1, o2, o3, oi⟩ := FC.out _ hh.rel
              have hJ := Lib.hid hh.st
              clear hh
              go_simp
              exact ⟨_, rfl, TurnP.refl _ _, rfl, hJ.out⟩
            · refine regs.StepOK.plain rfl fun L a w1 hh => ?_
              have h74 : a.tmps[74]?.getD undef = .pointer (some ⟨w.heap.size, 3, none⟩) := by rw [← Array.getD_eq_getD_getElem?]; exact hh.dep 8 74 (by kernel_rfl) (by kernel_rfl)
              obtain ⟨p0, p1, pi, o0, o1, o2, o3, oi⟩ := FC.out _ hh.rel
              have hJ := Lib.hid hh.st
              clear hh
              go_simp
              exact ⟨_, rfl, TurnP.refl _ _, rfl, hJ.out⟩
            · refine regs.StepOK.plain rfl fun L a w1 hh => ?_
              have h69 : a.tmps[69]?.getD undef = .pointer (some ⟨b, 0, none⟩) := by rw [← Array.getD_eq_getD_getElem?]; exact hh.dep 3 69 (by kernel_rfl) (by kernel_rfl)
              have h71 : a.tmps[71]?.getD undef = .int .i64 cj := by rw [← Array.getD_eq_getD_getElem?]; exact hh.dep 5 71 (by kernel_rfl) (by kernel_rfl)
              have h73 : a.tmps[73]?.getD undef = .int .i64 cp := by rw [← Array.getD_eq_getD_getElem?]; exact hh.dep 7 73 (by kernel_rfl) (by kernel_rfl)
              have h75 : a.tmps[75]?.getD undef = .int .i64 cn := by rw [← Array.getD_eq_getD_getElem?]; exact hh.dep 9 75 (by kernel_rfl) (by kernel_rfl)
              have hT := hh.st.no hh.un
              have hC := Lib.hid (HCM.out _ hT)
              have HRel := Lib.hid hh.rel
              clear hT
              have hJ := Lib.hid hh.st
              clear hh
              go_simp
              refine hC.out.mono ?_
              rintro e w9 ⟨s9, rfl, ht9, hp9⟩
              exact ⟨_, rfl, hp9.wide (fun _ h => h), rfl, ⟨fun e => absurd e (by simp [regs.upd]), fun _ => ⟨s9, ht9, HRel.out.trans hp9⟩⟩⟩
            · refine regs.StepOK.plain rfl fun L a w1 hh => ?_
              have h76 : a.tmps[76]?.getD undef = .int .i64 R.2 := by rw [← Array.getD_eq_getD_getElem?]; exact hh.dep 10 76 (by kernel_rfl) (by kernel_rfl)
              have hJ := Lib.hid hh.st
              clear hh
              go_simp
              exact ⟨_, rfl, TurnP.refl _ _, rfl, hJ.out⟩
            intro L' w6 val hL hJ hR hv
            have h77 : val 77 = .bool false := hv 11 77 (by kernel_rfl)
            obtain ⟨s6, hT6, hp6⟩ := hJ.yes (hL 10 (by decide))
            have HT6 := Lib.hid (And.intro hT6 hp6)
            clear hv hL hJ hR hT6 hp6 FC HCM
            simp only [regs.putAll, List.map_cons, List.map_nil, h77]
            simp only [Act.put, List.setIfInBounds_toArray, List.set_cons_zero, List.set_cons_succ]
            clear h77
            generalize val 66 = z66 at *
            generalize val 67 = z67 at *
            generalize val 68 = z68 at *
            generalize val 69 = z69 at *
            generalize val 70 = z70 at *
            generalize val 71 = z71 at *
            generalize val 72 = z72 at *
            generalize val 73 = z73 at *
            generalize val 74 = z74 at *
            generalize val 75 = z75 at *
            generalize val 76 = z76 at *
            simp only [Exit.then]
            have HC6 : Hid (TreeAt w6 d s8 t) := HC7.out.stays fun q hq => (HT6.out.2.far q (HDF.out q hq).2 fun e => by have := HFA.out q e; have := (HDF.out q hq).1; omega).2
            have HG6 : Hid (BlkT w6 g [.pointer (some ⟨b, 0, none⟩), v0] tPlay) := (HP.out.below HB7.out).blk.stays (HT6.out.2.far _ (HP.out.below HB7.out).blk.inside HP.out.far).2
            have HBW : Hid (Below w0.heap.size w0 w6) := (HBK.out.trans (HB7.out.mono HBK.out.size)).trans (HT6.out.2.to_below (Nat.le_trans HBK.out.size HB7.out.size) fun q hq => HFT.out q (.inr hq))
            have q0 := HG6.out.blk.cell 0
            have qi := HG6.out.inside
            have hyes := movS_yes (HRR.out.symm ▸ HCZ.out)
            rw [HRR.out] at hyes
            obtain ⟨hT1, hci, hnl⟩ := hyes
            obtain ⟨j0, hj0, hm0, hk0⟩ := HF7.out.last (by rw [← HKK.out, ← HPP.out]; exact kid_of hci)
            have HPA : Hid (∃ j0, ∃ h : j0 < (kids t (par t cj)).length, m = (j0 : Nat) ∧ (kids t (par t cj))[j0] = cj) := by
              show ∃ _, _
              rw [HPP.out, HKK.out]
              exact ⟨j0, hj0, hm0, hk0⟩
            obtain ⟨j1, hj1, hm1, hk1⟩ := HPA.out
            have hok2 := HT6.out.1.ok
            rw [hT1] at hok2
            have hback := move_back HT0.out.2 hci hnl hj1 hk1 hok2
            rw [← hm1, HPP.out, ← hT1] at hback
            have hlen6 : R.1.length ≤ 1000 := by
              have h1 := (movS_ok HT0.out.2 cj cp cn).2
              rw [HRR.out] at h1
              have := HT0.out.1
              omega
            have hgf : ¬ FootT b s6 R.1 g := (HT6.out.2.far g (HP.out.below HB7.out).blk.inside HP.out.far).1
            have HGF := Lib.hid hgf
            have hof : ∀ q, FootT b s6 R.1 q → w0.heap.size ≤ q := fun q hq => Nat.le_of_not_lt fun hlt => (HT6.out.2.far q (Nat.lt_of_lt_of_le hlt (Nat.le_trans HBK.out.size HB7.out.size)) fun e => by have := HFT.out q (.inr e); omega).1 hq
            have HOF := Lib.hid hof
            have hdf : ∀ q, FootT d s8 t q → ¬ FootT b s6 R.1 q := fun q hq => (HT6.out.2.far q (HDF.out q hq).2 fun e => by have := HFA.out q e; have := (HDF.out q hq).1; omega).1
            have HX6 : Hid (BlkT w6 w.heap.size [.int .i64 ci, .int .i64 cj, .int .i64 cp, .int .i64 cn] tOp) := (HXA.out.stays (HB7.out.block _ HXA.out.inside)).stays (HT6.out.2.far _ (HXA.out.stays (HB7.out.block _ HXA.out.inside)).inside fun e => by have := HFT.out _ (.inr e); have := HX0I.out; omega).2
            have HD6 : Hid (DTree w6 v0 t) := (HP.out.below HB7.out).doc.stays fun A c a e hy ea => by
              obtain ⟨cs, fz, h2⟩ := hy a ea
              exact (HT6.out.2.far _ (lt_of_block h2) (hy.apart HT7.out.raw ea)).2
            have FC : Hid (∀ W, TurnP (FootT b s6 R.1) (FootT b s6 R.1) w6 W → DoF W g b w.heap.size v0 ci cj cp cn) := fun W hb =>
              DoF.of (HG6.out.stays (hb.far _ HG6.out.inside hgf).2) (HX6.out.stays (hb.far _ HX6.out.inside fun e => by have := hof _ e; have := HX0I.out; omega).2)
            have HCB : Hid (∀ W, TurnP (FootT b s6 R.1) (FootT b s6 R.1) w6 W → TreeAt W b s6 R.1 → Calls Try.prog 25 #[.pointer (some ⟨b, 0, none⟩), .int .i64 cj, .int .i64 PP, .int .i64 m] W fun e w' => e = .returned (.int .i64 0) ∧ (∃ s2, PlayAt w' g b s2 v0 t) ∧ TurnP (FootT b s6 R.1) (FootT b s6 R.1) W w') := fun W hb hT => by
              have h := tmove hT hlen6 cj PP m HI.out.1 HPI.out
              rw [hback.1] at h
              refine h.mono ?_
              rintro e w' ⟨s2, rfl, h2, h3⟩
              have h4 := h2.alike HT0.out.2 hback.2
              have hh : hasP (trm.move cj PP j1 R.1) = hasP t := funext fun i => by show (has _ i = true) = (has t i = true); rw [alike_has hback.2]
              have h5 : TurnP (FootT b s6 R.1) (FootT b s2 t) W w' := by
                have h6 := h3
                show TurnP _ (Foot b s2 (hasP t)) _ _
                rw [← hh]
                exact h6
              exact ⟨rfl, ⟨s2, PlayAt.turn (HG6.out.stays (hb.far _ HG6.out.inside hgf).2) hT hgf (HD6.out.stays fun A c a e hy ea => by
                obtain ⟨cs, fz, h7⟩ := hy a ea
                exact (hb.far _ (lt_of_block h7) (hy.apart HT6.out.1.raw ea)).2) h4 h5⟩, h3.wide fun _ h => h⟩
            have HCS : Hid (∀ W, TurnP (FootT b s6 R.1) (FootT b s6 R.1) w6 W → (∃ s2, PlayAt W g b s2 v0 t) → Calls Try.prog 20 #[.pointer (some ⟨b, 0, none⟩), .pointer (some ⟨d, 0, none⟩)] W fun e w' => e = .returned (.bool true) ∧ Below W.heap.size W w') := fun W hb hpl => by
              obtain ⟨s2, hpl⟩ := hpl
              have hd := HC6.out.stays fun q hq => (hb.far q (HC6.out.raw.inside q hq) (hdf q hq)).2
              refine (tsame hpl.tree hd (by have := HT0.out.1; omega) (by have := HT0.out.1; omega)).mono ?_
              rintro e w' ⟨r, rfl, hr, hb7⟩
              obtain rfl : r = true := hr.2 fun _ => rfl
              exact ⟨rfl, hb7⟩
            have HCI : Hid (∀ W, (∃ s2, PlayAt W g b s2 v0 t) → Calls Try.prog 11 #[.pointer (some ⟨g, 0, none⟩)] W fun e w' => e = .returned (.bool true) ∧ Below W.heap.size W w') := fun W hpl => by
              obtain ⟨s2, hpl⟩ := hpl
              exact is_any hpl (by have := HT0.out.1; omega)
            have HT66 := Lib.hid HT6.out.1
            clear hT1 hci hnl hj0 hm0 hk0 hj1 hm1 hk1 hok2 hback hlen6 hgf hof hdf q0 qi
            go_wp2_with (fail)
            refine regs.wp_region_put (TurnP (FootT b s6 R.1) (FootT b s6 R.1)) (fun L wx => BkJ g b s6 R.1 v0 t (L 8) wx ∧ (L 9 = true → L 8 = true) ∧ (L 10 = true → L 9 = true) ∧ (L 13 = true → L 10 = true) ∧ (L 14 = true → L 13 = true) ∧ (L 20 = true → L 14 = true) ∧ (L 21 = true → L 20 = true) ∧ (L 22 = true → L 21 = true)) [91, 92, 93, 94, 95, 96, 97, 98, 99, 100, 101, 102, 103, 104, 105, 106, 107, 108, 109, 110, 111, 112, 113, 114, 115, 116, 117, 118, 119, 4] (by kernel_rfl) (by kernel_rfl) (fun _ => TurnP.refl _ _) (fun _ _ _ h k => h.trans k) (fun i => (match i with
              | 0 => regs.Say.val _ (.pointer (some ⟨g, 0, none⟩))
              | 1 => regs.Say.val _ (.pointer (some ⟨g, 0, none⟩))
              | 2 => regs.Say.val _ (.pointer (some ⟨g, 0, none⟩))
              | 3 => regs.Say.val _ (.pointer (some ⟨b, 0, none⟩))
              | 4 => regs.Say.val _ (.pointer (some ⟨w.heap.size, 1, none⟩))
              | 5 => regs.Say.val _ (.int .i64 cj)
              | 6 => regs.Say.val _ (.int .i64 PP)
              | 7 => regs.Say.val _ (.int .i64 m)
              | 8 => regs.Say.val _ (.int .i64 0)
              | 9 => regs.Say.val _ (.bool true)
              | 10 => regs.Say.val _ (.bool true)
              | 11 => regs.Say.val _ (.pointer (some ⟨d, 0, none⟩))
              | 12 => regs.Say.val _ (.bool true)
              | 13 => regs.Say.val _ (.bool true)
              | 14 => regs.Say.val _ (.bool true)
              | 15 => regs.Say.val _ (.pointer (some ⟨g, 0, none⟩))
              | 16 => regs.Say.val _ (.pointer (some ⟨g, 0, none⟩))
              | 17 => regs.Say.val _ (.pointer (some ⟨g, 0, none⟩))
              | 18 => regs.Say.val _ (.pointer (some ⟨b, 0, none⟩))
              | 19 => regs.Say.val _ (.pointer (some ⟨d, 0, none⟩))
              | 20 => regs.Say.val _ (.bool true)
              | 21 => regs.Say.val _ (.bool true)
              | 22 => regs.Say.val _ (.bool true)
              | 23 => regs.Say.val _ (.pointer (some ⟨g, 0, none⟩))
              | 24 => regs.Say.val _ (.bool true)
              | 25 => regs.Say.val _ (.bool true)
              | 26 => regs.Say.val _ (.bool true)
              | 27 => regs.Say.val _ (.bool true)
              | 28 => regs.Say.val _ (.bool true)
              | 29 => regs.Say.val _ (.bool true)
              | _ => regs.Say.any _ : regs.Say (TurnP (FootT b s6 R.1) (FootT b s6 R.1))).p) (fun _ => regs.Say.mono _) (by kernel_rfl) (TurnP.below ((Below.refl _ _).drew)) (⟨⟨fun _ => HT66.out.below ((Below.refl _ _).drew), fun e => (nomatch e)⟩, fun e => (nomatch e), fun e => (nomatch e), fun e => (nomatch e), fun e => (nomatch e), fun e => (nomatch e), fun e => (nomatch e), fun e => (nomatch e)⟩) ⟨?_, ?_, ?_, ?_, ?_, ?_, ?_, ?_, ?_, ?_, ?_, ?_, ?_, ?_, ?_, ?_, ?_, ?_, ?_, ?_, ?_, ?_, ?_, ?_, ?_, ?_, ?_, ?_, ?_, ?_, trivial⟩ ?_
            · refine regs.StepOK.plain rfl fun L a w1 hh => ?_
              have h5 : a.tmps[5]?.getD undef = .pointer (some ⟨g, 0, none⟩) := by rw [← Array.getD_eq_getD_getElem?]; exact hh.old 5 rfl
              have hJ := Lib.hid hh.st
              clear hh
              go_simp
              exact ⟨_, rfl, TurnP.refl _ _, rfl, hJ.out.1, ord_upd hJ.out.2.1 (.inl (by decide)), ord_upd hJ.out.2.2.1 (.inl (by decide)), ord_upd hJ.out.2.2.2.1 (.inl (by decide)), ord_upd hJ.out.2.2.2.2.1 (.inl (by decide)), ord_upd hJ.out.2.2.2.2.2.1 (.inl (by decide)), ord_upd hJ.out.2.2.2.2.2.2.1 (.inl (by decide)), ord_upd hJ.out.2.2.2.2.2.2.2 (.inl (by decide))⟩
            · refine regs.StepOK.plain rfl fun L a w1 hh => ?_
              have h91 : a.tmps[91]?.getD undef = .pointer (some ⟨g, 0, none⟩) := by rw [← Array.getD_eq_getD_getElem?]; exact hh.dep 0 91 (by kernel_rfl) (by kernel_rfl)
              obtain ⟨p0, p1, pi, o0, o1, o2, o3, oi⟩ := FC.out _ hh.rel
              have hJ := Lib.hid hh.st
              clear hh
              go_simp
              exact ⟨_, rfl, TurnP.refl _ _, rfl, hJ.out.1, ord_upd hJ.out.2.1 (.inl (by decide)), ord_upd hJ.out.2.2.1 (.inl (by decide)), ord_upd hJ.out.2.2.2.1 (.inl (by decide)), ord_upd hJ.out.2.2.2.2.1 (.inl (by decide)), ord_upd hJ.out.2.2.2.2.2.1 (.inl (by decide)), ord_upd hJ.out.2.2.2.2.2.2.1 (.inl (by decide)), ord_upd hJ.out.2.2.2.2.2.2.2 (.inl (by decide))⟩
            · refine regs.StepOK.plain rfl fun L a w1 hh => ?_
              have h92 : a.tmps[92]?.getD undef = .pointer (some ⟨g, 0, none⟩) := by rw [← Array.getD_eq_getD_getElem?]; exact hh.dep 1 92 (by kernel_rfl) (by kernel_rfl)
              obtain ⟨p0, p1, pi, o0, o1, o2, o3, oi⟩ := FC.out _ hh.rel
              have hJ := Lib.hid hh.st
              clear hh
              go_simp
              exact ⟨_, rfl, TurnP.refl _ _, rfl, hJ.out.1, ord_upd hJ.out.2.1 (.inl (by decide)), ord_upd hJ.out.2.2.1 (.inl (by decide)), ord_upd hJ.out.2.2.2.1 (.inl (by decide)), ord_upd hJ.out.2.2.2.2.1 (.inl (by decide)), ord_upd hJ.out.2.2.2.2.2.1 (.inl (by decide)), ord_upd hJ.out.2.2.2.2.2.2.1 (.inl (by decide)), ord_upd hJ.out.2.2.2.2.2.2.2 (.inl (by decide))⟩
            · refine regs.StepOK.plain rfl fun L a w1 hh => ?_
              have h93 : a.tmps[93]?.getD undef = .pointer (some ⟨g, 0, none⟩) := by rw [← Array.getD_eq_getD_getElem?]; exact hh.dep 2 93 (by kernel_rfl) (by kernel_rfl)
              obtain ⟨p0, p1, pi, o0, o1, o2, o3, oi⟩ := FC.out _ hh.rel
              have hJ := Lib.hid hh.st
              clear hh
              go_simp
              exact ⟨_, rfl, TurnP.refl _ _, rfl, hJ.out.1, ord_upd hJ.out.2.1 (.inl (by decide)), ord_upd hJ.out.2.2.1 (.inl (by decide)), ord_upd hJ.out.2.2.2.1 (.inl (by decide)), ord_upd hJ.out.2.2.2.2.1 (.inl (by decide)), ord_upd hJ.out.2.2.2.2.2.1 (.inl (by decide)), ord_upd hJ.out.2.2.2.2.2.2.1 (.inl (by decide)), ord_upd hJ.out.2.2.2.2.2.2.2 (.inl (by decide))⟩
            · refine regs.StepOK.plain rfl fun L a w1 hh => ?_
              have h3 : a.tmps[3]?.getD undef = .pointer (some ⟨w.heap.size, 0, none⟩) := by rw [← Array.getD_eq_getD_getElem?]; exact hh.old 3 rfl
              obtain ⟨p0, p1, pi, o0, o1, o2, o3, oi⟩ := FC.out _ hh.rel
              have hJ := Lib.hid hh.st
              clear hh
              go_simp
              exact ⟨_, rfl, TurnP.refl _ _, rfl, hJ.out.1, ord_upd hJ.out.2.1 (.inl (by decide)), ord_upd hJ.out.2.2.1 (.inl (by decide)), ord_upd hJ.out.2.2.2.1 (.inl (by decide)), ord_upd hJ.out.2.2.2.2.1 (.inl (by decide)), ord_upd hJ.out.2.2.2.2.2.1 (.inl (by decide)), ord_upd hJ.out.2.2.2.2.2.2.1 (.inl (by decide)), ord_upd hJ.out.2.2.2.2.2.2.2 (.inl (by decide))⟩
            · refine regs.StepOK.plain rfl fun L a w1 hh => ?_
              have h95 : a.tmps[95]?.getD undef = .pointer (some ⟨w.heap.size, 1, none⟩) := by rw [← Array.getD_eq_getD_getElem?]; exact hh.dep 4 95 (by kernel_rfl) (by kernel_rfl)
              obtain ⟨p0, p1, pi, o0, o1, o2, o3, oi⟩ := FC.out _ hh.rel
              have hJ := Lib.hid hh.st
              clear hh
              go_simp
              exact ⟨_, rfl, TurnP.refl _ _, rfl, hJ.out.1, ord_upd hJ.out.2.1 (.inl (by decide)), ord_upd hJ.out.2.2.1 (.inl (by decide)), ord_upd hJ.out.2.2.2.1 (.inl (by decide)), ord_upd hJ.out.2.2.2.2.1 (.inl (by decide)), ord_upd hJ.out.2.2.2.2.2.1 (.inl (by decide)), ord_upd hJ.out.2.2.2.2.2.2.1 (.inl (by decide)), ord_upd hJ.out.2.2.2.2.2.2.2 (.inl (by decide))⟩
            · refine regs.StepOK.plain rfl fun L a w1 hh => ?_
              have h9 : a.tmps[9]?.getD undef = .int .i64 PP := by rw [← Array.getD_eq_getD_getElem?]; exact hh.old 9 rfl
              have hJ := Lib.hid hh.st
              clear hh
              go_simp
              exact ⟨_, rfl, TurnP.refl _ _, rfl, hJ.out.1, ord_upd hJ.out.2.1 (.inl (by decide)), ord_upd hJ.out.2.2.1 (.inl (by decide)), ord_upd hJ.out.2.2.2.1 (.inl (by decide)), ord_upd hJ.out.2.2.2.2.1 (.inl (by decide)), ord_upd hJ.out.2.2.2.2.2.1 (.inl (by decide)), ord_upd hJ.out.2.2.2.2.2.2.1 (.inl (by decide)), ord_upd hJ.out.2.2.2.2.2.2.2 (.inl (by decide))⟩
            · refine regs.StepOK.plain rfl fun L a w1 hh => ?_
              have h10 : a.tmps[10]?.getD undef = .int .i64 m := by rw [← Array.getD_eq_getD_getElem?]; exact hh.old 10 rfl
              have hJ := Lib.hid hh.st
              clear hh
              go_simp
              exact ⟨_, rfl, TurnP.refl _ _, rfl, hJ.out.1, ord_upd hJ.out.2.1 (.inl (by decide)), ord_upd hJ.out.2.2.1 (.inl (by decide)), ord_upd hJ.out.2.2.2.1 (.inl (by decide)), ord_upd hJ.out.2.2.2.2.1 (.inl (by decide)), ord_upd hJ.out.2.2.2.2.2.1 (.inl (by decide)), ord_upd hJ.out.2.2.2.2.2.2.1 (.inl (by decide)), ord_upd hJ.out.2.2.2.2.2.2.2 (.inl (by decide))⟩
            · refine regs.StepOK.plain rfl fun L a w1 hh => ?_
              have h94 : a.tmps[94]?.getD undef = .pointer (some ⟨b, 0, none⟩) := by rw [← Array.getD_eq_getD_getElem?]; exact hh.dep 3 94 (by kernel_rfl) (by kernel_rfl)
              have h96 : a.tmps[96]?.getD undef = .int .i64 cj := by rw [← Array.getD_eq_getD_getElem?]; exact hh.dep 5 96 (by kernel_rfl) (by kernel_rfl)
              have h97 : a.tmps[97]?.getD undef = .int .i64 PP := by rw [← Array.getD_eq_getD_getElem?]; exact hh.dep 6 97 (by kernel_rfl) (by kernel_rfl)
              have h98 : a.tmps[98]?.getD undef = .int .i64 m := by rw [← Array.getD_eq_getD_getElem?]; exact hh.dep 7 98 (by kernel_rfl) (by kernel_rfl)
              have hT := hh.st.1.no hh.un
              have hC := Lib.hid (HCB.out _ hh.rel hT)
              clear hT
              have hJ := Lib.hid hh.st
              clear hh
              go_simp
              refine hC.out.mono ?_
              rintro e w9 ⟨rfl, hpl9, hp9⟩
              exact ⟨_, rfl, hp9, rfl, ⟨fun e => absurd e (by simp [regs.upd]), fun _ => hpl9⟩, ord_upd hJ.out.2.1 (.inl (by decide)), ord_upd hJ.out.2.2.1 (.inl (by decide)), ord_upd hJ.out.2.2.2.1 (.inl (by decide)), ord_upd hJ.out.2.2.2.2.1 (.inl (by decide)), ord_upd hJ.out.2.2.2.2.2.1 (.inl (by decide)), ord_upd hJ.out.2.2.2.2.2.2.1 (.inl (by decide)), ord_upd hJ.out.2.2.2.2.2.2.2 (.inl (by decide))⟩
            · refine regs.StepOK.plain rfl fun L a w1 hh => ?_
              have h99 : a.tmps[99]?.getD undef = .int .i64 0 := by rw [← Array.getD_eq_getD_getElem?]; exact hh.dep 8 99 (by kernel_rfl) (by kernel_rfl)
              have hJ := Lib.hid hh.st
              have hU := Lib.hid (hh.up 8 (by kernel_rfl))
              clear hh
              go_simp
              exact ⟨_, rfl, TurnP.refl _ _, rfl, hJ.out.1, ord_upd hJ.out.2.1 (.inr hU.out), ord_upd hJ.out.2.2.1 (.inl (by decide)), ord_upd hJ.out.2.2.2.1 (.inl (by decide)), ord_upd hJ.out.2.2.2.2.1 (.inl (by decide)), ord_upd hJ.out.2.2.2.2.2.1 (.inl (by decide)), ord_upd hJ.out.2.2.2.2.2.2.1 (.inl (by decide)), ord_upd hJ.out.2.2.2.2.2.2.2 (.inl (by decide))⟩
            · refine regs.StepOK.plain rfl fun L a w1 hh => ?_
              have h100 : a.tmps[100]?.getD undef = .bool true := by rw [← Array.getD_eq_getD_getElem?]; exact hh.dep 9 100 (by kernel_rfl) (by kernel_rfl)
              have hJ := Lib.hid hh.st
              have hU := Lib.hid (hh.up 9 (by kernel_rfl))
              clear hh
              go_simp
              exact ⟨_, rfl, TurnP.refl _ _, rfl, hJ.out.1, ord_upd hJ.out.2.1 (.inl (by decide)), ord_upd hJ.out.2.2.1 (.inr hU.out), ord_upd hJ.out.2.2.2.1 (.inl (by decide)), ord_upd hJ.out.2.2.2.2.1 (.inl (by decide)), ord_upd hJ.out.2.2.2.2.2.1 (.inl (by decide)), ord_upd hJ.out.2.2.2.2.2.2.1 (.inl (by decide)), ord_upd hJ.out.2.2.2.2.2.2.2 (.inl (by decide))⟩
            · refine regs.StepOK.yes 10 true 101 rfl rfl (fun L a w1 hh => hh.dep 10 101 (by kernel_rfl) (by kernel_rfl)) fun L a w1 hh => ?_
              have h8 : a.tmps[8]?.getD undef = .pointer (some ⟨d, 0, none⟩) := by rw [← Array.getD_eq_getD_getElem?]; exact hh.old 8 rfl
              have hJ := Lib.hid hh.st
              clear hh
              go_simp
              exact ⟨_, rfl, TurnP.refl _ _, rfl, hJ.out.1, ord_upd hJ.out.2.1 (.inl (by decide)), ord_upd hJ.out.2.2.1 (.inl (by decide)), ord_upd hJ.out.2.2.2.1 (.inl (by decide)), ord_upd hJ.out.2.2.2.2.1 (.inl (by decide)), ord_upd hJ.out.2.2.2.2.2.1 (.inl (by decide)), ord_upd hJ.out.2.2.2.2.2.2.1 (.inl (by decide)), ord_upd hJ.out.2.2.2.2.2.2.2 (.inl (by decide))⟩
            · refine regs.StepOK.yes 10 true 101 rfl rfl (fun L a w1 hh => hh.dep 10 101 (by kernel_rfl) (by kernel_rfl)) fun L a w1 hh => ?_
              have h102 : a.tmps[102]?.getD undef = .pointer (some ⟨d, 0, none⟩) := by rw [← Array.getD_eq_getD_getElem?]; exact hh.dep 11 102 (by kernel_rfl) (by kernel_rfl)
              have hJ := Lib.hid hh.st
              clear hh
              go_simp
              exact ⟨_, rfl, TurnP.refl _ _, rfl, hJ.out.1, ord_upd hJ.out.2.1 (.inl (by decide)), ord_upd hJ.out.2.2.1 (.inl (by decide)), ord_upd hJ.out.2.2.2.1 (.inl (by decide)), ord_upd hJ.out.2.2.2.2.1 (.inl (by decide)), ord_upd hJ.out.2.2.2.2.2.1 (.inl (by decide)), ord_upd hJ.out.2.2.2.2.2.2.1 (.inl (by decide)), ord_upd hJ.out.2.2.2.2.2.2.2 (.inl (by decide))⟩
            · refine regs.StepOK.plain rfl fun L a w1 hh => ?_
              have h101 : a.tmps[101]?.getD undef = .bool true := by rw [← Array.getD_eq_getD_getElem?]; exact hh.dep 10 101 (by kernel_rfl) (by kernel_rfl)
              have h103 : a.tmps[103]?.getD undef = .bool true := by rw [← Array.getD_eq_getD_getElem?]; exact hh.dep 12 103 (by kernel_rfl) (by kernel_rfl)
              have hJ := Lib.hid hh.st
              have hU := Lib.hid (hh.up 10 (by kernel_rfl))
              clear hh
              go_simp
              exact ⟨_, rfl, TurnP.refl _ _, rfl, hJ.out.1, ord_upd hJ.out.2.1 (.inl (by decide)), ord_upd hJ.out.2.2.1 (.inl (by decide)), ord_upd hJ.out.2.2.2.1 (.inr hU.out), ord_upd hJ.out.2.2.2.2.1 (.inl (by decide)), ord_upd hJ.out.2.2.2.2.2.1 (.inl (by decide)), ord_upd hJ.out.2.2.2.2.2.2.1 (.inl (by decide)), ord_upd hJ.out.2.2.2.2.2.2.2 (.inl (by decide))⟩
            · refine regs.StepOK.plain rfl fun L a w1 hh => ?_
              have h104 : a.tmps[104]?.getD undef = .bool true := by rw [← Array.getD_eq_getD_getElem?]; exact hh.dep 13 104 (by kernel_rfl) (by kernel_rfl)
              have hJ := Lib.hid hh.st
              have hU := Lib.hid (hh.up 13 (by kernel_rfl))
              clear hh
              go_simp
              exact ⟨_, rfl, TurnP.refl _ _, rfl, hJ.out.1, ord_upd hJ.out.2.1 (.inl (by decide)), ord_upd hJ.out.2.2.1 (.inl (by decide)), ord_upd hJ.out.2.2.2.1 (.inl (by decide)), ord_upd hJ.out.2.2.2.2.1 (.inr hU.out), ord_upd hJ.out.2.2.2.2.2.1 (.inl (by decide)), ord_upd hJ.out.2.2.2.2.2.2.1 (.inl (by decide)), ord_upd hJ.out.2.2.2.2.2.2.2 (.inl (by decide))⟩
            · refine regs.StepOK.yes 14 true 105 rfl rfl (fun L a w1 hh => hh.dep 14 105 (by kernel_rfl) (by kernel_rfl)) fun L a w1 hh => ?_
              have h5 : a.tmps[5]?.getD undef = .pointer (some ⟨g, 0, none⟩) := by rw [← Array.getD_eq_getD_getElem?]; exact hh.old 5 rfl
              have hJ := Lib.hid hh.st
              clear hh
              go_simp
              exact ⟨_, rfl, TurnP.refl _ _, rfl, hJ.out.1, ord_upd hJ.out.2.1 (.inl (by decide)), ord_upd hJ.out.2.2.1 (.inl (by decide)), ord_upd hJ.out.2.2.2.1 (.inl (by decide)), ord_upd hJ.out.2.2.2.2.1 (.inl (by decide)), ord_upd hJ.out.2.2.2.2.2.1 (.inl (by decide)), ord_upd hJ.out.2.2.2.2.2.2.1 (.inl (by decide)), ord_upd hJ.out.2.2.2.2.2.2.2 (.inl (by decide))⟩
            · refine regs.StepOK.yes 14 true 105 rfl rfl (fun L a w1 hh => hh.dep 14 105 (by kernel_rfl) (by kernel_rfl)) fun L a w1 hh => ?_
              have h106 : a.tmps[106]?.getD undef = .pointer (some ⟨g, 0, none⟩) := by rw [← Array.getD_eq_getD_getElem?]; exact hh.dep 15 106 (by kernel_rfl) (by kernel_rfl)
              obtain ⟨p0, p1, pi, o0, o1, o2, o3, oi⟩ := FC.out _ hh.rel
              have hJ := Lib.hid hh.st
              clear hh
              go_simp
              exact ⟨_, rfl, TurnP.refl _ _, rfl, hJ.out.1, ord_upd hJ.out.2.1 (.inl (by decide)), ord_upd hJ.out.2.2.1 (.inl (by decide)), ord_upd hJ.out.2.2.2.1 (.inl (by decide)), ord_upd hJ.out.2.2.2.2.1 (.inl (by decide)), ord_upd hJ.out.2.2.2.2.2.1 (.inl (by decide)), ord_upd hJ.out.2.2.2.2.2.2.1 (.inl (by decide)), ord_upd hJ.out.2.2.2.2.2.2.2 (.inl (by decide))⟩
            · refine regs.StepOK.yes 14 true 105 rfl rfl (fun L a w1 hh => hh.dep 14 105 (by kernel_rfl) (by kernel_rfl)) fun L a w1 hh => ?_
              have h107 : a.tmps[107]?.getD undef = .pointer (some ⟨g, 0, none⟩) := by rw [← Array.getD_eq_getD_getElem?]; exact hh.dep 16 107 (by kernel_rfl) (by kernel_rfl)
              obtain ⟨p0, p1, pi, o0, o1, o2, o3, oi⟩ := FC.out _ hh.rel
              have hJ := Lib.hid hh.st
              clear hh
              go_simp
              exact ⟨_, rfl, TurnP.refl _ _, rfl, hJ.out.1, ord_upd hJ.out.2.1 (.inl (by decide)), ord_upd hJ.out.2.2.1 (.inl (by decide)), ord_upd hJ.out.2.2.2.1 (.inl (by decide)), ord_upd hJ.out.2.2.2.2.1 (.inl (by decide)), ord_upd hJ.out.2.2.2.2.2.1 (.inl (by decide)), ord_upd hJ.out.2.2.2.2.2.2.1 (.inl (by decide)), ord_upd hJ.out.2.2.2.2.2.2.2 (.inl (by decide))⟩
            · refine regs.StepOK.yes 14 true 105 rfl rfl (fun L a w1 hh => hh.dep 14 105 (by kernel_rfl) (by kernel_rfl)) fun L a w1 hh => ?_
              have h108 : a.tmps[108]?.getD undef = .pointer (some ⟨g, 0, none⟩) := by rw [← Array.getD_eq_getD_getElem?]; exact hh.dep 17 108 (by kernel_rfl) (by kernel_rfl)
              obtain ⟨p0, p1, pi, o0, o1, o2, o3, oi⟩ := FC.out _ hh.rel
              have hJ := Lib.hid hh.st
              clear hh
              go_simp
              exact ⟨_, rfl, TurnP.refl _ _, rfl, hJ.out.1, ord_upd hJ.out.2.1 (.inl (by decide)), ord_upd hJ.out.2.2.1 (.inl (by decide)), ord_upd hJ.out.2.2.2.1 (.inl (by decide)), ord_upd hJ.out.2.2.2.2.1 (.inl (by decide)), ord_upd hJ.out.2.2.2.2.2.1 (.inl (by decide)), ord_upd hJ.out.2.2.2.2.2.2.1 (.inl (by decide)), ord_upd hJ.out.2.2.2.2.2.2.2 (.inl (by decide))⟩
            · refine regs.StepOK.yes 14 true 105 rfl rfl (fun L a w1 hh => hh.dep 14 105 (by kernel_rfl) (by kernel_rfl)) fun L a w1 hh => ?_
              have h8 : a.tmps[8]?.getD undef = .pointer (some ⟨d, 0, none⟩) := by rw [← Array.getD_eq_getD_getElem?]; exact hh.old 8 rfl
              have hJ := Lib.hid hh.st
              clear hh
              go_simp
              exact ⟨_, rfl, TurnP.refl _ _, rfl, hJ.out.1, ord_upd hJ.out.2.1 (.inl (by decide)), ord_upd hJ.out.2.2.1 (.inl (by decide)), ord_upd hJ.out.2.2.2.1 (.inl (by decide)), ord_upd hJ.out.2.2.2.2.1 (.inl (by decide)), ord_upd hJ.out.2.2.2.2.2.1 (.inl (by decide)), ord_upd hJ.out.2.2.2.2.2.2.1 (.inl (by decide)), ord_upd hJ.out.2.2.2.2.2.2.2 (.inl (by decide))⟩
            · refine regs.StepOK.yes 14 true 105 rfl rfl (fun L a w1 hh => hh.dep 14 105 (by kernel_rfl) (by kernel_rfl)) fun L a w1 hh => ?_
              have h109 : a.tmps[109]?.getD undef = .pointer (some ⟨b, 0, none⟩) := by rw [← Array.getD_eq_getD_getElem?]; exact hh.dep 18 109 (by kernel_rfl) (by kernel_rfl)
              have h110 : a.tmps[110]?.getD undef = .pointer (some ⟨d, 0, none⟩) := by rw [← Array.getD_eq_getD_getElem?]; exact hh.dep 19 110 (by kernel_rfl) (by kernel_rfl)
              have hY := hh.st.1.yes (hh.st.2.1 (hh.st.2.2.1 (hh.st.2.2.2.1 (hh.st.2.2.2.2.1 (hh.up 14 (by kernel_rfl))))))
              have hC := Lib.hid (HCS.out _ hh.rel hY)
              clear hY
              have hJ := Lib.hid hh.st
              have hU := Lib.hid (hh.up 14 (by kernel_rfl))
              clear hh
              go_simp
              refine hC.out.mono ?_
              rintro e w9 ⟨rfl, hb9⟩
              exact ⟨_, rfl, TurnP.below hb9, rfl, hJ.out.1.below hb9, ord_upd hJ.out.2.1 (.inl (by decide)), ord_upd hJ.out.2.2.1 (.inl (by decide)), ord_upd hJ.out.2.2.2.1 (.inl (by decide)), ord_upd hJ.out.2.2.2.2.1 (.inl (by decide)), ord_upd hJ.out.2.2.2.2.2.1 (.inr hU.out), ord_upd hJ.out.2.2.2.2.2.2.1 (.inl (by decide)), ord_upd hJ.out.2.2.2.2.2.2.2 (.inl (by decide))⟩
            · refine regs.StepOK.plain rfl fun L a w1 hh => ?_
              have h105 : a.tmps[105]?.getD undef = .bool true := by rw [← Array.getD_eq_getD_getElem?]; exact hh.dep 14 105 (by kernel_rfl) (by kernel_rfl)
              have h111 : a.tmps[111]?.getD undef = .bool true := by rw [← Array.getD_eq_getD_getElem?]; exact hh.dep 20 111 (by kernel_rfl) (by kernel_rfl)
              have hJ := Lib.hid hh.st
              have hU := Lib.hid (hh.up 20 (by kernel_rfl))
              clear hh
              go_simp
              exact ⟨_, rfl, TurnP.refl _ _, rfl, hJ.out.1, ord_upd hJ.out.2.1 (.inl (by decide)), ord_upd hJ.out.2.2.1 (.inl (by decide)), ord_upd hJ.out.2.2.2.1 (.inl (by decide)), ord_upd hJ.out.2.2.2.2.1 (.inl (by decide)), ord_upd hJ.out.2.2.2.2.2.1 (.inl (by decide)), ord_upd hJ.out.2.2.2.2.2.2.1 (.inr hU.out), ord_upd hJ.out.2.2.2.2.2.2.2 (.inl (by decide))⟩
            · refine regs.StepOK.plain rfl fun L a w1 hh => ?_
              have h112 : a.tmps[112]?.getD undef = .bool true := by rw [← Array.getD_eq_getD_getElem?]; exact hh.dep 21 112 (by kernel_rfl) (by kernel_rfl)
              have hJ := Lib.hid hh.st
              have hU := Lib.hid (hh.up 21 (by kernel_rfl))
              clear hh
              go_simp
              exact ⟨_, rfl, TurnP.refl _ _, rfl, hJ.out.1, ord_upd hJ.out.2.1 (.inl (by decide)), ord_upd hJ.out.2.2.1 (.inl (by decide)), ord_upd hJ.out.2.2.2.1 (.inl (by decide)), ord_upd hJ.out.2.2.2.2.1 (.inl (by decide)), ord_upd hJ.out.2.2.2.2.2.1 (.inl (by decide)), ord_upd hJ.out.2.2.2.2.2.2.1 (.inl (by decide)), ord_upd hJ.out.2.2.2.2.2.2.2 (.inr hU.out)⟩
            · refine regs.StepOK.yes 22 true 113 rfl rfl (fun L a w1 hh => hh.dep 22 113 (by kernel_rfl) (by kernel_rfl)) fun L a w1 hh => ?_
              have h5 : a.tmps[5]?.getD undef = .pointer (some ⟨g, 0, none⟩) := by rw [← Array.getD_eq_getD_getElem?]; exact hh.old 5 rfl
              have hJ := Lib.hid hh.st
              clear hh
              go_simp
              exact ⟨_, rfl, TurnP.refl _ _, rfl, hJ.out.1, ord_upd hJ.out.2.1 (.inl (by decide)), ord_upd hJ.out.2.2.1 (.inl (by decide)), ord_upd hJ.out.2.2.2.1 (.inl (by decide)), ord_upd hJ.out.2.2.2.2.1 (.inl (by decide)), ord_upd hJ.out.2.2.2.2.2.1 (.inl (by decide)), ord_upd hJ.out.2.2.2.2.2.2.1 (.inl (by decide)), ord_upd hJ.out.2.2.2.2.2.2.2 (.inl (by decide))⟩
            · refine regs.StepOK.yes 22 true 113 rfl rfl (fun L a w1 hh => hh.dep 22 113 (by kernel_rfl) (by kernel_rfl)) fun L a w1 hh => ?_
              have h114 : a.tmps[114]?.getD undef = .pointer (some ⟨g, 0, none⟩) := by rw [← Array.getD_eq_getD_getElem?]; exact hh.dep 23 114 (by kernel_rfl) (by kernel_rfl)
              have hY := hh.st.1.yes (hh.st.2.1 (hh.st.2.2.1 (hh.st.2.2.2.1 (hh.st.2.2.2.2.1 (hh.st.2.2.2.2.2.1 (hh.st.2.2.2.2.2.2.1 (hh.st.2.2.2.2.2.2.2 (hh.up 22 (by kernel_rfl)))))))))
              have hC := Lib.hid (HCI.out _ hY)
              clear hY
              have hJ := Lib.hid hh.st
              clear hh
              go_simp
              refine hC.out.mono ?_
              rintro e w9 ⟨rfl, hb9⟩
              exact ⟨_, rfl, TurnP.below hb9, rfl, hJ.out.1.below hb9, ord_upd hJ.out.2.1 (.inl (by decide)), ord_upd hJ.out.2.2.1 (.inl (by decide)), ord_upd hJ.out.2.2.2.1 (.inl (by decide)), ord_upd hJ.out.2.2.2.2.1 (.inl (by decide)), ord_upd hJ.out.2.2.2.2.2.1 (.inl (by decide)), ord_upd hJ.out.2.2.2.2.2.2.1 (.inl (by decide)), ord_upd hJ.out.2.2.2.2.2.2.2 (.inl (by decide))⟩
            · refine regs.StepOK.plain rfl fun L a w1 hh => ?_
              have h113 : a.tmps[113]?.getD undef = .bool true := by rw [← Array.getD_eq_getD_getElem?]; exact hh.dep 22 113 (by kernel_rfl) (by kernel_rfl)
              have h115 : a.tmps[115]?.getD undef = .bool true := by rw [← Array.getD_eq_getD_getElem?]; exact hh.dep 24 115 (by kernel_rfl) (by kernel_rfl)
              have hJ := Lib.hid hh.st
              clear hh
              go_simp
              exact ⟨_, rfl, TurnP.refl _ _, rfl, hJ.out.1, ord_upd hJ.out.2.1 (.inl (by decide)), ord_upd hJ.out.2.2.1 (.inl (by decide)), ord_upd hJ.out.2.2.2.1 (.inl (by decide)), ord_upd hJ.out.2.2.2.2.1 (.inl (by decide)), ord_upd hJ.out.2.2.2.2.2.1 (.inl (by decide)), ord_upd hJ.out.2.2.2.2.2.2.1 (.inl (by decide)), ord_upd hJ.out.2.2.2.2.2.2.2 (.inl (by decide))⟩
            · refine regs.StepOK.plain rfl fun L a w1 hh => ?_
              have h116 : a.tmps[116]?.getD undef = .bool true := by rw [← Array.getD_eq_getD_getElem?]; exact hh.dep 25 116 (by kernel_rfl) (by kernel_rfl)
              have hJ := Lib.hid hh.st
              clear hh
              go_simp
              exact ⟨_, rfl, TurnP.refl _ _, rfl, hJ.out.1, ord_upd hJ.out.2.1 (.inl (by decide)), ord_upd hJ.out.2.2.1 (.inl (by decide)), ord_upd hJ.out.2.2.2.1 (.inl (by decide)), ord_upd hJ.out.2.2.2.2.1 (.inl (by decide)), ord_upd hJ.out.2.2.2.2.2.1 (.inl (by decide)), ord_upd hJ.out.2.2.2.2.2.2.1 (.inl (by decide)), ord_upd hJ.out.2.2.2.2.2.2.2 (.inl (by decide))⟩
            · refine regs.StepOK.yes 26 true 117 rfl rfl (fun L a w1 hh => hh.dep 26 117 (by kernel_rfl) (by kernel_rfl)) fun L a w1 hh => ?_
              have hC := Lib.hid (awake_any w1)
              have hJ := Lib.hid hh.st
              clear hh
              go_simp
              refine hC.out.mono ?_
              rintro e w9 ⟨rfl, hb9⟩
              exact ⟨_, rfl, TurnP.below hb9, rfl, hJ.out.1.below hb9, ord_upd hJ.out.2.1 (.inl (by decide)), ord_upd hJ.out.2.2.1 (.inl (by decide)), ord_upd hJ.out.2.2.2.1 (.inl (by decide)), ord_upd hJ.out.2.2.2.2.1 (.inl (by decide)), ord_upd hJ.out.2.2.2.2.2.1 (.inl (by decide)), ord_upd hJ.out.2.2.2.2.2.2.1 (.inl (by decide)), ord_upd hJ.out.2.2.2.2.2.2.2 (.inl (by decide))⟩
            · refine regs.StepOK.plain rfl fun L a w1 hh => ?_
              have h117 : a.tmps[117]?.getD undef = .bool true := by rw [← Array.getD_eq_getD_getElem?]; exact hh.dep 26 117 (by kernel_rfl) (by kernel_rfl)
              have h118 : a.tmps[118]?.getD undef = .bool true := by rw [← Array.getD_eq_getD_getElem?]; exact hh.dep 27 118 (by kernel_rfl) (by kernel_rfl)
              have hJ := Lib.hid hh.st
              clear hh
              go_simp
              exact ⟨_, rfl, TurnP.refl _ _, rfl, hJ.out.1, ord_upd hJ.out.2.1 (.inl (by decide)), ord_upd hJ.out.2.2.1 (.inl (by decide)), ord_upd hJ.out.2.2.2.1 (.inl (by decide)), ord_upd hJ.out.2.2.2.2.1 (.inl (by decide)), ord_upd hJ.out.2.2.2.2.2.1 (.inl (by decide)), ord_upd hJ.out.2.2.2.2.2.2.1 (.inl (by decide)), ord_upd hJ.out.2.2.2.2.2.2.2 (.inl (by decide))⟩
            · refine regs.StepOK.plain rfl fun L a w1 hh => ?_
              have h119 : a.tmps[119]?.getD undef = .bool true := by rw [← Array.getD_eq_getD_getElem?]; exact hh.dep 28 119 (by kernel_rfl) (by kernel_rfl)
              have hJ := Lib.hid hh.st
              clear hh
              go_simp
              exact ⟨_, rfl, TurnP.refl _ _, rfl, hJ.out.1, ord_upd hJ.out.2.1 (.inl (by decide)), ord_upd hJ.out.2.2.1 (.inl (by decide)), ord_upd hJ.out.2.2.2.1 (.inl (by decide)), ord_upd hJ.out.2.2.2.2.1 (.inl (by decide)), ord_upd hJ.out.2.2.2.2.2.1 (.inl (by decide)), ord_upd hJ.out.2.2.2.2.2.2.1 (.inl (by decide)), ord_upd hJ.out.2.2.2.2.2.2.2 (.inl (by decide))⟩
            intro L' w8 val hL hJ hR hv
            have h4 : val 4 = .bool true := hv 29 4 (by kernel_rfl)
            have HB8 : Hid (Below w0.heap.size w0 w8) := HBW.out.trans (TurnP.to_below hR HBW.out.size HOF.out)
            clear hv hL hJ hR FC HCB HCS HCI
            simp only [regs.putAll, List.map_cons, List.map_nil, h4]
            simp only [Act.put, List.setIfInBounds_toArray, List.set_cons_zero, List.set_cons_succ]
            clear h4
            generalize val 91 = u91 at *
            generalize val 92 = u92 at *
            generalize val 93 = u93 at *
            generalize val 94 = u94 at *
            generalize val 95 = u95 at *
            generalize val 96 = u96 at *
            generalize val 97 = u97 at *
            generalize val 98 = u98 at *
            generalize val 99 = u99 at *
            generalize val 100 = u100 at *
            generalize val 101 = u101 at *
            generalize val 102 = u102 at *
            generalize val 103 = u103 at *
            generalize val 104 = u104 at *
            generalize val 105 = u105 at *
            generalize val 106 = u106 at *
            generalize val 107 = u107 at *
            generalize val 108 = u108 at *
            generalize val 109 = u109 at *
            generalize val 110 = u110 at *
            generalize val 111 = u111 at *
            generalize val 112 = u112 at *
            generalize val 113 = u113 at *
            generalize val 114 = u114 at *
            generalize val 115 = u115 at *
            generalize val 116 = u116 at *
            generalize val 117 = u117 at *
            generalize val 118 = u118 at *
            generalize val 119 = u119 at *
            simp only [Exit.then]
            go_wp2_with (fail)
            go_ret
            exact ⟨rfl, HB0.out.trans (HB8.out.mono HB0.out.size)⟩
          · have tc : (R.2 != 0) = true := by simp [hc]
            have HRE : Hid (R.1 = t) := by
              show _ = _
              rw [← HRR.out] at hc ⊢
              exact movS_not hc
            clear hc
            go_wp2_with (fail)
            refine regs.wp_region_put (TurnP (FootT b s0 t) (FootT b s0 t)) (fun L wx => DoJ b s0 t R.1 wB (L 10) wx) [66, 67, 68, 69, 70, 71, 72, 73, 74, 75, 76, 77] (by kernel_rfl) (by kernel_rfl) (fun _ => TurnP.refl _ _) (fun _ _ _ h k => h.trans k) (fun i => (match i with
              | 0 => regs.Say.val _ (.pointer (some ⟨g, 0, none⟩))
              | 1 => regs.Say.val _ (.pointer (some ⟨g, 0, none⟩))
              | 2 => regs.Say.val _ (.pointer (some ⟨g, 0, none⟩))
              | 3 => regs.Say.val _ (.pointer (some ⟨b, 0, none⟩))
              | 4 => regs.Say.val _ (.pointer (some ⟨w.heap.size, 1, none⟩))
              | 5 => regs.Say.val _ (.int .i64 cj)
              | 6 => regs.Say.val _ (.pointer (some ⟨w.heap.size, 2, none⟩))
              | 7 => regs.Say.val _ (.int .i64 cp)
              | 8 => regs.Say.val _ (.pointer (some ⟨w.heap.size, 3, none⟩))
              | 9 => regs.Say.val _ (.int .i64 cn)
              | 10 => regs.Say.val _ (.int .i64 R.2)
              | 11 => regs.Say.val _ (.bool true)
              | _ => regs.Say.any _ : regs.Say (TurnP (FootT b s0 t) (FootT b s0 t))).p) (fun _ => regs.Say.mono _) (by kernel_rfl) (TurnP.below ((Below.refl _ _).drew)) (⟨fun _ => HT7.out.below ((Below.refl _ _).drew), fun e => (nomatch e)⟩) ⟨?_, ?_, ?_, ?_, ?_, ?_, ?_, ?_, ?_, ?_, ?_, ?_, trivial⟩ ?_
            · refine regs.StepOK.plain rfl fun L a w1 hh => ?_
              have h5 : a.tmps[5]?.getD undef = .pointer (some ⟨g, 0, none⟩) := by rw [← Array.getD_eq_getD_getElem?]; exact hh.old 5 rfl
              have hJ := Lib.hid hh.st
              clear hh
              go_simp
              exact ⟨_, rfl, TurnP.refl _ _, rfl, hJ.out⟩
            · refine regs.StepOK.plain rfl fun L a w1 hh => ?_
              have h66 : a.tmps[66]?.getD undef = .pointer (some ⟨g, 0, none⟩) := by rw [← Array.getD_eq_getD_getElem?]; exact hh.dep 0 66 (by kernel_rfl) (by kernel_rfl)
              obtain ⟨p0, p1, pi, o0, o1, o2, o3, oi⟩ := FC.out _ hh.rel
              have hJ := Lib.hid hh.st
              clear hh
              go_simp
              exact ⟨_, rfl, TurnP.refl _ _, rfl, hJ.out⟩
            · refine regs.StepOK.plain rfl fun L a w1 hh => ?_
              have h67 : a.tmps[67]?.getD undef = .pointer (some ⟨g, 0, none⟩) := by rw [← Array.getD_eq_getD_getElem?]; exact hh.dep 1 67 (by kernel_rfl) (by kernel_rfl)
              obtain ⟨p0, p1, pi, o0, o1, o2, o3, oi⟩ := FC.out _ hh.rel
              have hJ := Lib.hid hh.st
              clear hh
              go_simp
              exact ⟨_, rfl, TurnP.refl _ _, rfl, hJ.out⟩
            · refine regs.StepOK.plain rfl fun L a w1 hh => ?_
              have h68 : a.tmps[68]?.getD undef = .pointer (some ⟨g, 0, none⟩) := by rw [← Array.getD_eq_getD_getElem?]; exact hh.dep 2 68 (by kernel_rfl) (by kernel_rfl)
              obtain ⟨p0, p1, pi, o0, o1, o2, o3, oi⟩ := FC.out _ hh.rel
              have hJ := Lib.hid hh.st
              clear hh
              go_simp
              exact ⟨_, rfl, TurnP.refl _ _, rfl, hJ.out⟩
            · refine regs.StepOK.plain rfl fun L a w1 hh => ?_
              have h3 : a.tmps[3]?.getD undef = .pointer (some ⟨w.heap.size, 0, none⟩) := by rw [← Array.getD_eq_getD_getElem?]; exact hh.old 3 rfl
              obtain ⟨p0, p1, pi, o0, o1, o2, o3, oi⟩ := FC.out _ hh.rel
              have hJ := Lib.hid hh.st
              clear hh
              go_simp
              exact ⟨_, rfl, TurnP.refl _ _, rfl, hJ.out⟩
            · refine regs.StepOK.plain rfl fun L a w1 hh => ?_
              have h70 : a.tmps[70]?.getD undef = .pointer (some ⟨w.heap.size, 1, none⟩) := by rw [← Array.getD_eq_getD_getElem?]; exact hh.dep 4 70 (by kernel_rfl) (by kernel_rfl)
              obtain ⟨p0, p1, pi, o0, o1, o2, o3, oi⟩ := FC.out _ hh.rel
              have hJ := Lib.hid hh.st
              clear hh
              go_simp
              exact ⟨_, rfl, TurnP.refl _ _, rfl, hJ.out⟩
            · refine regs.StepOK.plain rfl fun L a w1 hh => ?_
              have h3 : a.tmps[3]?.getD undef = .pointer (some ⟨w.heap.size, 0, none⟩) := by rw [← Array.getD_eq_getD_getElem?]; exact hh.old 3 rfl
              obtain ⟨p0, p1, pi, o0, o1, o2, o3, oi⟩ := FC.out _ hh.rel
              have hJ := Lib.hid hh.st
              clear hh
              go_simp
              exact ⟨_, rfl, TurnP.refl _ _, rfl, hJ.out⟩
            · refine regs.StepOK.plain rfl fun L a w1 hh => ?_
              have h72 : a.tmps[72]?.getD undef = .pointer (some ⟨w.heap.size, 2, none⟩) := by rw [← Array.getD_eq_getD_getElem?]; exact hh.dep 6 72 (by kernel_rfl) (by kernel_rfl)
              obtain ⟨p0, p1, pi, o0, o1, o2, o3, oi⟩ := FC.out _ hh.rel
              have hJ := Lib.hid hh.st
              clear hh
              go_simp
              exact ⟨_, rfl, TurnP.refl _ _, rfl, hJ.out⟩
            · refine regs.StepOK.plain rfl fun L a w1 hh => ?_
              have h3 : a.tmps[3]?.getD undef = .pointer (some ⟨w.heap.size, 0, none⟩) := by rw [← Array.getD_eq_getD_getElem?]; exact hh.old 3 rfl
              obtain ⟨p0, p1, pi, o0, o1, o2, o3, oi⟩ := FC.out _ hh.rel
              have hJ := Lib.hid hh.st
              clear hh
              go_simp
              exact ⟨_, rfl, TurnP.refl _ _, rfl, hJ.out⟩
            · refine regs.StepOK.plain rfl fun L a w1 hh => ?_
              have h74 : a.tmps[74]?.getD undef = .pointer (some ⟨w.heap.size, 3, none⟩) := by rw [← Array.getD_eq_getD_getElem?]; exact hh.dep 8 74 (by kernel_rfl) (by kernel_rfl)
              obtain ⟨p0, p1, pi, o0, o1, o2, o3, oi⟩ := FC.out _ hh.rel
              have hJ := Lib.hid hh.st
              clear hh
              go_simp
              exact ⟨_, rfl, TurnP.refl _ _, rfl, hJ.out⟩
            · refine regs.StepOK.plain rfl fun L a w1 hh => ?_
              have h69 : a.tmps[69]?.getD undef = .pointer (some ⟨b, 0, none⟩) := by rw [← Array.getD_eq_getD_getElem?]; exact hh.dep 3 69 (by kernel_rfl) (by kernel_rfl)
              have h71 : a.tmps[71]?.getD undef = .int .i64 cj := by rw [← Array.getD_eq_getD_getElem?]; exact hh.dep 5 71 (by kernel_rfl) (by kernel_rfl)
              have h73 : a.tmps[73]?.getD undef = .int .i64 cp := by rw [← Array.getD_eq_getD_getElem?]; exact hh.dep 7 73 (by kernel_rfl) (by kernel_rfl)
              have h75 : a.tmps[75]?.getD undef = .int .i64 cn := by rw [← Array.getD_eq_getD_getElem?]; exact hh.dep 9 75 (by kernel_rfl) (by kernel_rfl)
              have hT := hh.st.no hh.un
              have hC := Lib.hid (HCM.out _ hT)
              have HRel := Lib.hid hh.rel
              clear hT
              have hJ := Lib.hid hh.st
              clear hh
              go_simp
              refine hC.out.mono ?_
              rintro e w9 ⟨s9, rfl, ht9, hp9⟩
              exact ⟨_, rfl, hp9.wide (fun _ h => h), rfl, ⟨fun e => absurd e (by simp [regs.upd]), fun _ => ⟨s9, ht9, HRel.out.trans hp9⟩⟩⟩
            · refine regs.StepOK.plain rfl fun L a w1 hh => ?_
              have h76 : a.tmps[76]?.getD undef = .int .i64 R.2 := by rw [← Array.getD_eq_getD_getElem?]; exact hh.dep 10 76 (by kernel_rfl) (by kernel_rfl)
              have hJ := Lib.hid hh.st
              clear hh
              go_simp
              exact ⟨_, rfl, TurnP.refl _ _, rfl, hJ.out⟩
            intro L' w6 val hL hJ hR hv
            have h77 : val 77 = .bool true := hv 11 77 (by kernel_rfl)
            obtain ⟨s6, hT6, hp6⟩ := hJ.yes (hL 10 (by decide))
            have HT6 := Lib.hid (And.intro hT6 hp6)
            clear hv hL hJ hR hT6 hp6 FC HCM
            simp only [regs.putAll, List.map_cons, List.map_nil, h77]
            simp only [Act.put, List.setIfInBounds_toArray, List.set_cons_zero, List.set_cons_succ]
            clear h77
            generalize val 66 = z66 at *
            generalize val 67 = z67 at *
            generalize val 68 = z68 at *
            generalize val 69 = z69 at *
            generalize val 70 = z70 at *
            generalize val 71 = z71 at *
            generalize val 72 = z72 at *
            generalize val 73 = z73 at *
            generalize val 74 = z74 at *
            generalize val 75 = z75 at *
            generalize val 76 = z76 at *
            simp only [Exit.then]
            have HC6 : Hid (TreeAt w6 d s8 t) := HC7.out.stays fun q hq => (HT6.out.2.far q (HDF.out q hq).2 fun e => by have := HFA.out q e; have := (HDF.out q hq).1; omega).2
            have HG6 : Hid (BlkT w6 g [.pointer (some ⟨b, 0, none⟩), v0] tPlay) := (HP.out.below HB7.out).blk.stays (HT6.out.2.far _ (HP.out.below HB7.out).blk.inside HP.out.far).2
            have HBW : Hid (Below w0.heap.size w0 w6) := (HBK.out.trans (HB7.out.mono HBK.out.size)).trans (HT6.out.2.to_below (Nat.le_trans HBK.out.size HB7.out.size) fun q hq => HFT.out q (.inr hq))
            have q0 := HG6.out.blk.cell 0
            have qi := HG6.out.inside
            have hT6 := HT6.out.1
            rw [HRE.out] at hT6
            have HT8 := Lib.hid hT6
            clear hT6
            go_wp2_with (fail)
            refine (tsame HT8.out HC6.out (by have := HT0.out.1; omega) (by have := HT0.out.1; omega)).mono ?_
            rintro e w7 ⟨r, rfl, hr, hb7⟩
            obtain rfl : r = true := hr.2 fun _ => rfl
            have HB8 := Lib.hid (HBW.out.trans (hb7.mono HBW.out.size))
            clear hb7 hr q0 qi
            go_wp2_with (fail)
            refine (awake_any w7).mono ?_
            rintro e w8 ⟨rfl, hb8⟩
            have HB9 := Lib.hid (HB8.out.trans (hb8.mono HB8.out.size))
            clear hb8
            go_wp2_with (fail)
            go_ret
            exact ⟨rfl, HB0.out.trans (HB9.out.mono HB0.out.size)⟩
end Go.Proofs.Ytjnccggfbjkecaa
