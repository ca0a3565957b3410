/-
  The contracts of rec's leaves: the bytes ahead of a record's data, the sum's bytes, what is wrong, equal bytes, a size.
-/
import Derived.Test.YtoipokjoklhfjaaDoorCoL
import Derived.Test.YtoipokjoklhfjaaDoorScG
import Derived.Test.YtoipokjoklhfjaaDoorRegs
namespace Go.Proofs.YtoipokjoklhfjaaDoor
open Go.RowKit numb

abbrev TabAt (w : World) : Prop := crcs.TabAt w
theorem tab_below {w w' : World} (h : TabAt w) (hb : Below w.heap.size w w') : TabAt w' := crcs.TabAt.below h hb
/-- a row of bytes that the call has built -/
theorem own_built (w : World) (base : Nat) (l : List Nat) (n : Nat) (hn : n = l.length) (hm : n ≤ maxLen) (cs : Array Value) (hcs : cs = (l.map e8).toArray) (hb : base ≤ w.heap.size) : Own (w.alloc (.cells cs 5)) base (.slice (some ⟨w.heap.size, 0, none⟩) n n) l := by
  subst hn hcs
  refine ⟨by simp, .inr ⟨w.heap.size, l.length, (l.map e8).toArray, rfl, hb, heap_alloc_new w _, Nat.le_refl _, hm, by simp, ?_⟩⟩
  rw [Nat.mul_one, List.take_of_length_le (by simp)]
  rfl
/-- the sum of bytes -/
abbrev sumN (l : List Nat) : Nat := crcs.sum l
theorem sumN_lt {l : List Nat} (h : AreBytes l) : sumN l < 4294967296 := crcs.sum_lt h
/-- one part, laid in a row of parts -/
theorem crc_one (q : Part) (w : World) (hq : q.ok w) (ht : TabAt w) :
    Calls Tryd.prog 39 #[.slice (some ⟨w.heap.size, 0, none⟩) 1 1] (w.alloc (.cells #[q.v] 25)) fun e w' => e = .returned (.int .u32 (sumN q.l : Nat)) ∧ Below w.heap.size w w' := by
  have h := crcs.sum_built w [⟨q.a, q.l, q.c⟩] _ rfl 1 1 rfl (by simp [maxLen]) (fun p hp => by
    obtain rfl := List.mem_singleton.1 hp
    exact ⟨hq.room, hq.max, hq.at_, hq.bytes⟩) ht (0, 0)
  have e : crcs.bytesOf [⟨q.a, q.l, q.c⟩] = q.l := by simp [crcs.bytesOf]
  rw [e] at h
  exact h
/-- four bytes of a number, the lowest one first -/
def le4 (n : Nat) : List Nat := [n % 256, n / 256 % 256, n / 65536 % 256, n / 16777216 % 256]
def sumB (l : List Nat) : List Nat := le4 (sumN l)
theorem sumB_length (l : List Nat) : (sumB l).length = 4 := rfl
theorem le4_are (n : Nat) : AreBytes (le4 n) := fun z hz => by
  simp only [le4, List.mem_cons, List.not_mem_nil, or_false] at hz
  omega
theorem sumB_are (l : List Nat) : AreBytes (sumB l) := le4_are _
set_option maxHeartbeats 1000000 in
theorem sumOf_any (q : Part) (w : World) (hq : q.ok w) (ht : TabAt w) :
    Calls Tryd.prog 29 #[q.v] w fun e w' => ∃ v', e = .returned v' ∧ Own w' w.heap.size v' (sumB q.l) ∧ Below w.heap.size w w' := by
  have hc := crc_one q w hq ht
  have hlt := sumN_lt hq.bytes
  obtain ⟨a, l, c⟩ := q
  unfold Part.v at hc ⊢
  simp only at hc hlt ⊢
  unfold sumB
  generalize sumN l = n at *
  have HC := Lib.hid hc
  clear hc hq ht
  go_enter Tryd.func29, Tryd.ntmps29
  go_wp2_with (fail)
  refine HC.out.mono ?_
  rintro r w1 ⟨rfl, hb⟩
  have HB := Lib.hid hb
  have HBZ : Hid (w.heap.size ≤ w1.heap.size) := hb.size
  clear hb HC
  go_wp2_with (fail)
  go_ret
  refine ⟨_, rfl, own_built w1 _ (le4 n) 4 rfl (by simp [maxLen]) _ ?_ HBZ.out, HB.out.alloc HBZ.out _⟩
  simp [le4, e8]
  omega

/-- the bytes ahead of a record's data -/
def headB (kind n : Nat) : List Nat := uint n ++ [kind]
theorem headB_are {kind n : Nat} (hk : kind < 256) : AreBytes (headB kind n) := by
  refine AreBytes.append (uint_bytes n) fun z hz => ?_
  obtain rfl := List.mem_singleton.1 hz
  exact hk
theorem headB_le {kind n : Nat} (hn : U64 n) : (headB kind n).length ≤ 11 := by
  unfold headB
  rw [List.length_append]
  have := uint_length_le (v := n) (k := 10) (by omega) (Nat.lt_of_lt_of_le hn.lt (by decide))
  simp
  omega
set_option maxHeartbeats 2000000 in
theorem headOf_any (kind n : Nat) (w : World) (hk : kind < 256) (hn : n ≤ 1099511627776) :
    Calls Tryd.prog 25 #[.int .i64 (kind : Nat), .int .i64 (n : Nat)] w fun e w' => ∃ v', e = .returned v' ∧ Own w' w.heap.size v' (headB kind n) ∧ Below w.heap.size w w' := by
  have hU : U64 n := by unfold U64; omega
  have hul := headB_le (kind := kind) hU
  have HK : Hid (kind < 256) := hk
  have HUL := Lib.hid hul
  have HU := Lib.hid hU
  clear hul hU
  go_enter Tryd.func25, Tryd.ntmps25
  go_wp2_with (fail)
  have hB0 : Below w.heap.size w (w.alloc (.cells #[.slice none 0 0] 70)) := (Below.refl _ _).alloc (Nat.le_refl _) _
  refine (out_uint_laid' w.heap.size (.slice none 0 0) [] [n] _ rfl (0, 0) 1 1 rfl _ _ (by simp) (out_new w) (by simpa using HU.out) (by simp) (by simp)).mono ?_
  rintro r w1 ⟨rfl, v1, ho, hs⟩
  rw [show [] ++ [n].flatMap uint = uint n by simp] at ho
  have HO := Lib.hid ho
  have HB : Hid (Below w.heap.size w w1) := hB0.trans (hs.to_below (by simp) (Nat.le_refl _) (fun g hg => by simp [Value.ownBlock] at hg))
  have HV : Hid (∀ g, v1.ownBlock = some g → w.heap.size ≤ g) := fun g hg => by
    by_cases hlt : w.heap.size ≤ g
    · exact hlt
    · exact absurd hg (hs.far g (by simp; omega) (by omega) (by simp [Value.ownBlock])).1
  clear ho hs hB0
  go_wp2_with (fail)
  refine (out_raw_one w.heap.size v1 _ kind w1 HO.out (by have := HUL.out; unfold headB at this; rw [List.length_append] at this; simp at this; omega)).mono ?_
  rintro r w2 ⟨rfl, v2, ho2, hs2⟩
  have HO2 := Lib.hid ho2
  have HB2 : Hid (Below w.heap.size w w2) := HB.out.trans (hs2.to_below HB.out.size (Nat.le_refl _) HV.out)
  clear ho2 hs2 HO HB HV
  go_wp2_with (fail)
  refine (out_bytes_any w.heap.size v2 _ w2 HO2.out (headB_are HK.out) (by have := HUL.out; unfold headB at this; omega)).mono ?_
  rintro r w3 ⟨v3, rfl, own, hb3⟩
  have HOWN := Lib.hid own
  have HB3 : Hid (Below w.heap.size w w3) := HB2.out.trans (hb3.mono HB2.out.size)
  have HZ := HB2.out.size
  obtain ⟨a', n', c', rfl⟩ := own.val
  clear own hb3 HB2 HO2
  go_wp2_with (fail)
  go_ret
  exact ⟨_, rfl, HOWN.out.mono HZ, HB3.out⟩
set_option maxHeartbeats 1000000 in
/-- the same bytes in new memory -/
theorem rfresh_any (a : Option Addr) (l : List Nat) (c : Nat) (w : World) (hm : Bs w a l) (hsz : l.length ≤ 1099511627776) :
    Calls Tryd.prog 30 #[.slice a l.length c] w fun e w' => ∃ v', e = .returned v' ∧ Own w' w.heap.size v' l ∧ Below w.heap.size w w' := by
  obtain ⟨v', w', run, own, hg, _⟩ := app_row w w.heap.size (.slice none 0 0) [] (own_nil _ _) a l c hm (by simpa using hsz) (Nat.le_refl _)
  rw [List.nil_append] at own
  have hb : Below w.heap.size w w' := (Below.refl _ _).grown hg (Nat.le_refl _) (fun k hk => by simp [Value.ownBlock] at hk)
  clear hg hsz hm
  go_enter Tryd.func30, Tryd.ntmps30
  go_wp2_with (at_builtin; refine wpList_append_run rfl _ _ 25 25 25 rfl rfl _ _ _ _ rfl rfl run ?_)
  go_ret
  exact ⟨v', rfl, own, hb⟩
/-- a record that is told -/
structure Rc where
  k : Int
  p : Part
def Rc.v (r : Rc) : Value := .agg #[.int .i64 r.k, r.p.v]
/-- is a record right? -/
def rightI (k : Int) (n : Nat) : Int := if k < 0 ∨ 255 < k then 11 else if 1048576 < n then 17 else 0
set_option maxHeartbeats 1000000 in
theorem wrong_any (r : Rc) (w : World) (hn : r.p.l.length ≤ maxLen) : Calls Tryd.prog 22 #[r.v] w fun e w' => e = .returned (.int .i64 (rightI r.k r.p.l.length)) ∧ Below w.heap.size w w' := by
  obtain ⟨k, a, l, c⟩ := r
  unfold Rc.v Part.v rightI
  simp only at hn ⊢
  unfold maxLen at hn
  have hB : Hid (Below w.heap.size w (w.alloc (.cells #[.int .i64 k, .slice a l.length c] 27))) := (Below.refl _ _).alloc (Nat.le_refl _) _
  generalize l.length = n at *
  go_enter Tryd.func22, Tryd.ntmps22
  go_wp2_with (fail)
  all_goals go_ret
  all_goals refine ⟨ret_num ?_, hB.out⟩
  all_goals clear hB
  all_goals simp_all
  all_goals try omega
  all_goals trace_state
set_option maxHeartbeats 1000000 in
theorem right_any (k : Int) (s : ByteArray) (w : World) (hn : s.size ≤ maxLen) : Calls Tryd.prog 10 #[.agg #[.int .i64 k, .string s]] w fun e w' => e = .returned (.int .i64 (rightI k s.size)) ∧ Below w.heap.size w w' := by
  unfold rightI
  unfold maxLen at hn
  have hB : Hid (Below w.heap.size w (w.alloc (.cells #[.int .i64 k, .string s] 30))) := (Below.refl _ _).alloc (Nat.le_refl _) _
  go_enter Tryd.func10, Tryd.ntmps10
  go_wp2_with (fail)
  all_goals go_ret
  all_goals refine ⟨ret_num ?_, hB.out⟩
  all_goals clear hB
  all_goals simp_all
  all_goals try omega
  all_goals trace_state
theorem str_eqN {l m : List Nat} (hl : AreBytes l) (hm : AreBytes m) : ((strOf l).toList == (strOf m).toList) = decide (l = m) := by
  rw [ByteArray.toList_eq, ByteArray.toList_eq]
  refine Bool.eq_iff_iff.2 ?_
  rw [beq_iff_eq, decide_eq_true_iff]
  refine ⟨fun h => ?_, fun h => by rw [h]⟩
  have h2 : natsOf (strOf l) = natsOf (strOf m) := by unfold natsOf; rw [h]
  rwa [natsOf_strOf hl, natsOf_strOf hm] at h2
set_option maxHeartbeats 1000000 in
theorem bequal_any (p q : Part) (w : World) (hp : p.ok w) (hq : q.ok w) : Calls Tryd.prog 24 #[p.v, q.v] w fun e w' => e = .returned (.bool (decide (p.l = q.l))) ∧ w = w' := by
  have h1 := conv_str w p.a p.l p.c hp.at_
  have h2 := conv_str w q.a q.l q.c hq.at_
  have he := str_eqN hp.bytes hq.bytes
  obtain ⟨a, l, c⟩ := p
  obtain ⟨a2, l2, c2⟩ := q
  unfold Part.v
  simp only at h1 h2 he ⊢
  clear hp hq
  go_enter Tryd.func24, Tryd.ntmps24
  go_wp2_with (fail)
  go_ret
  exact ⟨rfl, rfl⟩
end Go.Proofs.YtoipokjoklhfjaaDoor
