/-
  Layer 12: what only asks a tree: Len, kid, others, within, Within.
-/
import Derived.Test.YtokochkjjlbnkaaTrP
import Derived.LaidEqlPtr
namespace Go.Proofs.Ytokochkjjlbnkaa
open Go.RowKit trm

section
variable {w : World} {b : Nat} {s : Sh} {t : T}
theorem info_node : (Try.prog.info? 84).map (fun i => (i.zero, i.size, i.bytes)) = some (some (.agg #[.int .i64 0, .pointer none, .slice none 0 0]), 3, 40) := by kernel_rfl
theorem ptr_same (w : World) (a : Nat) : (binOp .eql 81 (.pointer (some ⟨a, 0, none⟩)) (.pointer (some ⟨a, 0, none⟩))).run Try.prog w = .ok (.bool true) w := by
  obtain ⟨i, hi, hz, hsize, hby⟩ := info_parts info_node
  exact run_eql_ptr_same w _ Try.underlying81 hi
theorem ptr_other {w : World} {a b : Nat} {ca cb : List Value} {ta tb : TypeId} (ha : BlkT w a ca ta) (hb : BlkT w b cb tb) (hne : a ≠ b) : (binOp .eql 81 (.pointer (some ⟨a, 0, none⟩)) (.pointer (some ⟨b, 0, none⟩))).run Try.prog w = .ok (.bool false) w := by
  obtain ⟨i, hi, hz, hsize, hby⟩ := info_parts info_node
  exact run_eql_ptr_other w Try.underlying81 hi (by rw [hsize]; decide) (fun e => hne (by injection e)) ha hb
theorem es_len {es : L} (hr : omap.Rises lt es) (ok : Ok t) (hl : ∀ i g, omap.look es i = some g ↔ hasP t i ∧ s.g i = g) : es.length = t.length + 1 := by
  have n1 : (es.map (·.1)).Nodup := by
    rw [List.Nodup, List.pairwise_map]
    exact hr.imp fun h e => by
      simp only [decide_eq_true_eq] at h
      omega
  have n2 : (0 :: ids t).Nodup := List.nodup_cons.2 ⟨fun h => ok.ne0 h rfl, ok.nd⟩
  have m1 : ∀ x ∈ es.map (·.1), x ∈ (0 :: ids t : List Int) := by
    intro x hx
    obtain ⟨⟨a, g⟩, hm, rfl⟩ := List.mem_map.1 hx
    have := (hl a g).1 (omap.Rises.look_of_mem ord hr hm)
    exact List.mem_cons.2 (has_iff.1 this.1)
  have m2 : ∀ x ∈ (0 :: ids t : List Int), x ∈ es.map (·.1) := by
    intro x hx
    have := (hl x (s.g x)).2 ⟨has_iff.2 (List.mem_cons.1 hx), rfl⟩
    exact List.mem_map.2 ⟨_, omap.look_mem this, rfl⟩
  have h1 := len_of_sub n1 m1
  have h2 := len_of_sub n2 m2
  rw [List.length_map] at h1 h2
  unfold ids at h1 h2
  rw [List.length_cons, List.length_map] at h1 h2
  omega
theorem TreeAt.maplen (h : TreeAt w b s t) (ty : TypeId) : (Builtin.len_ #[85] ty #[.map (some s.m)]).run Try.prog w = .ok (.int .i64 ((t.length + 1 : Nat) : Int)) w := by
  obtain ⟨es, hm, hl⟩ := h.raw.map
  rw [hm.len ty, es_len hm.rises h.ok hl]
theorem tlen (h : TreeAt w b s t) : Calls Try.prog 33 #[.pointer (some ⟨b, 0, none⟩)] w fun e w' => e = .returned (.int .i64 ((t.length + 1 : Nat) : Int)) ∧ Below w.heap.size w w' := by
  obtain ⟨c0, bi⟩ := h.raw.top
  have hl := h.maplen
  clear h
  generalize t.length + 1 = n at *
  go_enter Try.func33, Try.ntmps33
  go_wp2_with (fail)
  go_ret
  exact ⟨rfl, Below.refl _ _⟩
def kidC (t : T) (i : Int) : Int := if i = 0 then 33 else if has t i = false then 30 else 0
def kidV (s : Sh) (t : T) (i : Int) : Value := if kidC t i = 0 then .pointer (some ⟨s.g i, 0, none⟩) else .pointer none
set_option maxRecDepth 100000 in
theorem tkid (h : TreeAt w b s t) (i : Int) (hi : I64 i) :
    Calls Try.prog 44 #[.pointer (some ⟨b, 0, none⟩), .int .i64 i] w fun e w' => e = .returned (.tuple #[kidV s t i, .int .i64 (kidC t i)]) ∧ w' = w := by
  obtain ⟨c0, bi⟩ := h.raw.top
  obtain ⟨V, hV⟩ : ∃ V, kidV s t i = V := ⟨_, rfl⟩
  obtain ⟨C, hC⟩ : ∃ C, kidC t i = C := ⟨_, rfl⟩
  have HV := Lib.hid hV
  rw [hV, hC]
  clear hV
  unfold kidV at HV
  rw [hC] at HV
  unfold kidC at hC
  by_cases h0 : i = 0
  · rw [if_pos h0] at hC
    subst hC
    have HQ := Lib.hid (HV.out.symm.trans (if_neg (by decide)))
    have t1 : (i == 0) = true := by simpa using h0
    clear h hi h0 HV
    go_enter Try.func44, Try.ntmps44
    go_wp2_with (fail)
    go_ret2
    rw [HQ.out]
    exact ⟨rfl, rfl⟩
  have t1 : (i == 0) = false := by simpa using h0
  rw [if_neg h0] at hC
  by_cases hx : has t i = true
  · have hlk := h.raw.look_some hi hx
    rw [if_neg (by simp [hx])] at hC
    subst hC
    have HQ := Lib.hid (HV.out.symm.trans (if_pos rfl))
    clear h hi h0 hx HV
    go_enter Try.func44, Try.ntmps44
    go_wp2_with (fail)
    go_ret2
    rw [HQ.out]
    exact ⟨rfl, rfl⟩
  · have hlk := h.raw.look_none hi hx
    rw [if_pos (by simpa using hx)] at hC
    subst hC
    have HQ := Lib.hid (HV.out.symm.trans (if_neg (by decide)))
    clear h hi h0 hx HV
    go_enter Try.func44, Try.ntmps44
    go_wp2_with (fail)
    go_ret2
    rw [HQ.out]
    exact ⟨rfl, rfl⟩
end
section
variable {w : World} {b : Nat} {s : Sh} {t : T}
set_option maxRecDepth 100000 in
set_option maxHeartbeats 1000000 in
/-- how many kids a node has that aren't another one -/
theorem nothers (h : TreeAt w b s t) (hn : t.length ≤ 10000) {i p : Int} (hi : i ∈ ids t) (hp : has t p = true) :
    Calls Try.prog 45 #[.pointer (some ⟨s.g p, 0, none⟩), .pointer (some ⟨s.g i, 0, none⟩)] w fun e w' => e = .returned (.int .i64 (((kids t p).filter fun k => decide (k ≠ i)).length : Nat)) ∧ w' = w := by
  have h0 := h.ok.ne0 hi
  obtain ⟨⟨-, n1, -⟩, -, ni⟩ := h.raw.cells (i := i) (has_iff.2 (.inr hi))
  obtain ⟨⟨-, -, p2⟩, -, pi⟩ := h.raw.cells (i := p) hp
  obtain ⟨A, c, hv, hc1, hc2, hat⟩ := (h.raw.node p hp).own.at_
  rw [ks_len] at hv
  rw [hv] at p2
  have hlen : (kids t p).length ≤ 10000 := Nat.le_trans (kids_le t p) hn
  have hpi := has_iff.2 (h.ok.par_ok hi)
  have hnd := kids_nodup h.ok.nd p
  rw [upT_some h0] at n1
  simp only [Option.map_some, ptrTo] at n1
  by_cases e : par t i = p
  · subst e
    have hm := kid_of hi
    have hl : ((kids t (par t i)).filter fun k => decide (k ≠ i)).length + 1 = (kids t (par t i)).length := by
      have := List.length_erase_of_mem hm
      rw [hnd.erase_eq_filter] at this
      have h2 := List.length_pos_of_mem hm
      have e : (kids t (par t i)).filter (fun k => decide (k ≠ i)) = (kids t (par t i)).filter (fun k => k != i) := List.filter_congr fun x _ => by by_cases h : x = i <;> simp [h]
      rw [e]
      omega
    generalize ((kids t (par t i)).filter fun k => decide (k ≠ i)).length = m at *
    generalize (kids t (par t i)).length = n at *
    obtain rfl := hl
    clear h hi h0 hc1 hc2 hat hv hn hm hnd hpi
    have hpe := ptr_same w (s.g (par t i))
    have hq : wrap64 (((m + 1 : Nat) : Int) - 1) = (m : Nat) := by rw [IntWalk.wrap64_in _ (by omega)]; omega
    go_enter Try.func45, Try.ntmps45
    go_wp2_with (fail)
    go_ret
    exact ⟨rfl, rfl⟩
  · have hni : i ∉ kids t p := fun h' => e (h.ok.kid h').2
    have hl : ((kids t p).filter fun k => decide (k ≠ i)) = kids t p := List.filter_eq_self.2 fun x hx => by
      rw [decide_eq_true_eq]
      rintro rfl
      exact hni hx
    rw [hl]
    have hne : ¬ s.g (par t i) = s.g p := fun h' => e (h.raw.inj _ _ hpi hp h')
    have hpe := ptr_other (h.raw.node _ hpi).blk (h.raw.node _ hp).blk hne
    generalize (kids t p).length = n at *
    generalize s.g (par t i) = ga at *
    generalize s.g p = gp at *
    generalize s.g i = gi at *
    clear h hi h0 hc1 hc2 hat hv hn hnd hpi hl hni e hlen hp
    go_enter Try.func45, Try.ntmps45
    go_wp2_with (fail)
    go_ret
    exact ⟨rfl, rfl⟩
/-- from a node up: does it lie within another one? -/
def upB (t : T) (o : Int) : Option Int → Bool
  | none => false
  | some j => decide (j = o) || within t j o
def upN (t : T) : Option Int → Nat
  | none => 0
  | some j => depth t j + 1
theorem within_upT (ok : Ok t) {i o : Int} (hi : has t i = true) (ho : has t o = true) : within t i o = upB t o (upT t i) := by
  rw [within_step ok]
  by_cases h0 : i = 0
  · subst h0
    rw [if_neg (by simp), upT_zero]
    rfl
  · rw [if_pos ⟨hi, ho, h0⟩, upT_some h0]
    rfl
theorem upN_lt (ok : Ok t) {i : Int} (hi : has t i = true) : upN t (upT t i) < upN t (some i) := by
  by_cases h0 : i = 0
  · subst h0
    rw [upT_zero]
    show 0 < _ + 1
    omega
  · rw [upT_some h0]
    show depth t (par t i) + 1 < depth t i + 1
    have := depth_step ok ((has_iff.1 hi).resolve_left h0)
    omega
theorem upT_has (ok : Ok t) {i j : Int} (hi : has t i = true) (h : upT t i = some j) : has t j = true := by
  by_cases h0 : i = 0
  · subst h0
    cases h
  · rw [upT_some h0] at h
    injection h with h
    subst h
    exact has_iff.2 (ok.par_ok ((has_iff.1 hi).resolve_left h0))
/-- how far up a node is, told by its block -/
def upM (s : Sh) (t : T) : Value → Nat
  | .pointer (some a) => match (0 :: ids t).find? fun j => decide (s.g j = a.block) with
    | some j => depth t j + 1
    | none => 0
  | _ => 0
theorem upM_some (h : TreeAt w b s t) {j : Int} (hj : has t j = true) : upM s t (.pointer (some ⟨s.g j, 0, none⟩)) = upN t (some j) := by
  unfold upM
  simp only
  cases hf : (0 :: ids t).find? fun k => decide (s.g k = s.g j) with
  | none =>
    have := List.find?_eq_none.1 hf j (List.mem_cons.2 (has_iff.1 hj))
    simp at this
  | some k =>
    have h1 := List.find?_some hf
    have h2 := List.mem_of_find?_eq_some hf
    simp only [decide_eq_true_eq] at h1
    rw [h.raw.inj k j (has_iff.2 (List.mem_cons.1 h2)) hj h1]
    rfl
theorem upM_any (h : TreeAt w b s t) {u : Option Int} (hu : ∀ j, u = some j → has t j = true) : upM s t (ptrTo (u.map s.g)) = upN t u := by
  cases u with
  | none => rfl
  | some j => exact upM_some h (hu j rfl)
set_option maxRecDepth 100000 in
set_option maxHeartbeats 1000000 in
theorem nwithin (h : TreeAt w b s t) {i o : Int} (hi : has t i = true) (ho : has t o = true) :
    Calls Try.prog 39 #[.pointer (some ⟨s.g i, 0, none⟩), .pointer (some ⟨s.g o, 0, none⟩)] w fun e w' => e = .returned (.bool (within t i o)) ∧ w' = w := by
  obtain ⟨⟨-, n1, -⟩, -, ni⟩ := h.raw.cells (i := i) hi
  have HT := Lib.hid h
  have HO := Lib.hid ho
  have HUP := Lib.hid (fun j => upT_has (j := j) h.ok hi)
  rw [within_upT h.ok hi ho]
  clear h hi ho
  generalize upT t i = u at *
  obtain ⟨pv, hpv⟩ : ∃ pv, ptrTo (u.map s.g) = pv := ⟨_, rfl⟩
  have HPV := Lib.hid hpv
  rw [hpv] at n1
  clear hpv
  obtain ⟨R, hR⟩ : ∃ R, upB t o u = R := ⟨_, rfl⟩
  have HQ := Lib.hid hR
  rw [hR]
  clear hR
  go_enter Try.func39, Try.ntmps39
  go_wp2_with (fail)
  go_loopw [5] (fun x wr => ∃ u : Option Int, x = ptrTo (u.map s.g) ∧ Hid (upB t o u = R) ∧ Hid (∀ j, u = some j → has t j = true) ∧ Hid (wr = w)) (fun x _ => upM s t x)
  case atStart => exact ⟨u, HPV.out.symm, HQ, fun j e => HUP.out j e, rfl⟩
  case round =>
    obtain ⟨u1, rfl, HB, HH, HW⟩ := hrel
    obtain rfl := HW.out
    cases u1 with
    | none =>
      have HF : Hid (R = false) := HB.out.symm
      simp only [Option.map_none, ptrTo]
      go_wp2_with (fail)
      go_ret
      exact ⟨ret_bool HF.out.symm, rfl⟩
    | some j =>
      have hj := HH.out j rfl
      obtain ⟨⟨-, j1, -⟩, -, ji⟩ := HT.out.raw.cells (i := j) hj
      simp only [Option.map_some, ptrTo]
      by_cases e : j = o
      · subst e
        have hpe := ptr_same wr (s.g j)
        have HF : Hid (R = true) := by rw [← HB.out]; show _ = _; simp [upB]
        clear hj
        go_wp2_with (fail)
        go_ret
        exact ⟨ret_bool HF.out.symm, rfl⟩
      · have hpe := ptr_other (HT.out.raw.node _ hj).blk (HT.out.raw.node _ HO.out).blk (fun h' => e (HT.out.raw.inj _ _ hj HO.out h'))
        have HB2 : Hid (upB t o (upT t j) = R) := by
          rw [← HB.out]
          show _ = (decide (j = o) || within t j o)
          rw [decide_eq_false e, Bool.false_or]
          exact (within_upT HT.out.ok hj HO.out).symm
        have HH2 := Lib.hid (fun k => upT_has (j := k) HT.out.ok hj)
        have HME : Hid (upM s t (ptrTo ((upT t j).map s.g)) < upM s t (.pointer (some ⟨s.g j, 0, none⟩))) := by
          show _ < _
          rw [upM_some HT.out hj, upM_any HT.out (fun k => upT_has (j := k) HT.out.ok hj)]
          exact upN_lt HT.out.ok hj
        clear hj e HB HH
        generalize upT t j = u2 at *
        obtain ⟨pw, hpw⟩ : ∃ pw, ptrTo (u2.map s.g) = pw := ⟨_, rfl⟩
        have HPW := Lib.hid hpw
        rw [hpw] at j1 HME
        clear hpw
        go_wp2_with (fail)
        go_roundw
        case rel => exact ⟨u2, HPW.out.symm, HB2, HH2, by trivial⟩
        case measure => exact HME.out
end
end Go.Proofs.Ytokochkjjlbnkaa
