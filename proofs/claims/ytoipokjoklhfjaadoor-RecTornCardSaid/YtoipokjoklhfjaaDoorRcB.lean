/-
  The contracts of rec: a size, a record put behind bytes.
-/
import Derived.Test.YtoipokjoklhfjaaDoorRcA
namespace Go.Proofs.YtoipokjoklhfjaaDoor
open Go.RowKit numb

/-- how many bytes a record has -/
def sizeI (n : Int) : Int := if n < 0 ∨ 1048576 < n then 0 else ((uint n.toNat).length : Int) + 1 + n + 4
set_option maxHeartbeats 1000000 in
theorem size_any (n : Int) (w : World) (h1 : -9223372036854775808 ≤ n) (h2 : n ≤ 9223372036854775807) : Calls Tryd.prog 16 #[.int .i64 n] w fun e w' => e = .returned (.int .i64 (sizeI n)) ∧ Below w.heap.size w w' := by
  by_cases hr : n < 0 ∨ 1048576 < n
  · have he : sizeI n = 0 := by unfold sizeI; rw [if_pos hr]
    rw [he]
    clear he
    by_cases h0 : n < 0
    · have t0 : decide (n < 0) = true := by simpa using h0
      clear hr h0
      go_enter Tryd.func16, Tryd.ntmps16
      go_wp2_with (fail)
      go_ret
      exact ⟨rfl, Below.refl _ _⟩
    · have h3 : 1048576 < n := hr.resolve_left h0
      have t0 : decide (n < 0) = false := by simpa using h0
      have t1 : decide (1048576 < n) = true := by simpa using h3
      clear hr h0 h3
      go_enter Tryd.func16, Tryd.ntmps16
      go_wp2_with (fail)
      go_ret
      exact ⟨rfl, Below.refl _ _⟩
  · have hh : 0 ≤ n ∧ n ≤ 1048576 := by omega
    obtain ⟨m, rfl⟩ := Int.eq_ofNat_of_zero_le hh.1
    have hm : m ≤ 1048576 := by omega
    have he : sizeI (m : Int) = ((uint m).length : Int) + 1 + m + 4 := by unfold sizeI; rw [if_neg hr]; rfl
    have HE := Lib.hid he
    have t0 : decide ((m : Int) < 0) = false := by simp
    have t1 : decide ((1048576 : Int) < (m : Int)) = false := by simp; omega
    have HC := Lib.hid (headOf_any 0 m w (by omega) (by omega))
    have hul : (headB 0 m).length ≤ 11 := headB_le (by unfold U64; omega)
    have hhl : (headB 0 m).length = (uint m).length + 1 := by simp [headB]
    rw [hhl] at hul
    have hmb : (m : Int) ≤ 1048576 := by omega
    clear hr he hh h1 h2
    go_enter Tryd.func16, Tryd.ntmps16
    go_wp2_with (fail)
    refine HC.out.mono ?_
    rintro r w1 ⟨v, rfl, own, hb⟩
    obtain ⟨a, c, rfl, -, -, -⟩ := own.part (headB_are (by omega))
    rw [hhl]
    have HB := Lib.hid hb
    generalize (uint m).length = y at *
    clear own hb HC hhl hm
    go_wp2_with (fail)
    go_ret
    rw [HE.out]
    exact ⟨rfl, HB.out⟩
/-- the bytes of a record -/
def recB (k : Nat) (l : List Nat) : List Nat := headB k l.length ++ l ++ sumB (headB k l.length ++ l)
theorem recB_are {k : Nat} (hk : k < 256) {l : List Nat} (hl : AreBytes l) : AreBytes (recB k l) := ((headB_are hk).append hl).append (sumB_are _)
theorem recB_length (k : Nat) (l : List Nat) : (recB k l).length = (uint l.length).length + 1 + l.length + 4 := by
  unfold recB headB
  simp only [List.length_append, sumB_length, List.length_cons, List.length_nil]
theorem recB_size {k : Nat} {l : List Nat} (h : l.length ≤ 1048576) : sizeI (l.length : Nat) = ((recB k l).length : Int) := by
  unfold sizeI
  rw [if_neg (by omega), recB_length]
  simp only [Int.toNat_natCast]
  omega
/-- a block known whole -/
def Blk2 (w : World) (g : Nat) (cs : List Value) : Prop := ∃ T, w.heap[g]? = some (.cells cs.toArray T (0, 0))
theorem Blk2.cell2 {w : World} {g : Nat} {cs : List Value} (h : Blk2 w g cs) (i : Nat) : w.cell? ⟨g, i, none⟩ = cs[i]? := by
  obtain ⟨T, h⟩ := h
  rw [cell_of_row _ _ i _ _ _ h]
  simp
theorem Blk2.trans' {w w' : World} {g : Nat} {cs : List Value} (h : Blk2 w g cs) (hb : w'.heap[g]? = w.heap[g]?) : Blk2 w' g cs := by
  obtain ⟨T, h⟩ := h
  exact ⟨T, hb.trans h⟩
theorem blk2_new (w : World) (cs : List Value) (T : TypeId) : Blk2 (w.alloc (.cells cs.toArray T)) w.heap.size cs := ⟨T, heap_alloc_new w _⟩
/-- behind a row b of the call's own more bytes are laid -/
theorem grow_row {w0 w : World} {v : Value} {l : List Nat} (hb : Below w0.heap.size w0 w) (ho : Own w w0.heap.size v l) (a : Option Addr) (m : List Nat) (c : Nat) (hm : Bs w a m) (hsz : l.length + m.length ≤ 1099511627776) :
    ∃ v' w', (Builtin.append_ #[25, 25] 25 #[v, .slice a m.length c]).run Tryd.prog w = .ok v' w' ∧ Own w' w0.heap.size v' (l ++ m) ∧ Below w0.heap.size w0 w' ∧ (∀ g, g < w.heap.size → v.ownBlock ≠ some g → w'.heap[g]? = w.heap[g]?) ∧ (∀ g, v'.ownBlock = some g → v.ownBlock = some g ∨ w.heap.size ≤ g) ∧ w.heap.size ≤ w'.heap.size := by
  obtain ⟨v', w', run, own, hg, hn⟩ := app_row w w0.heap.size v l ho a m c hm hsz hb.size
  exact ⟨v', w', run, own, hb.grown hg hb.size (fun k hk => (ho.block hk).1), fun g hlt hne => hg.block g hlt (fun e => hne e.symm), hn, hg.size⟩
set_option maxRecDepth 100000 in
set_option maxHeartbeats 4000000 in
theorem put_any (w0 : World) (k : Nat) (q : Part) (v : Value) (l : List Nat) (w : World) (hk : k < 256) (hq : q.ok w0) (hb : Below w0.heap.size w0 w) (ht : TabAt w0) (ho : Own w w0.heap.size v l) (hl : AreBytes l) (hn : q.l.length ≤ 1048576) (hsz : l.length ≤ 549755813888) :
    Calls Tryd.prog 23 #[v, .agg #[.int .i64 (k : Nat), q.v]] w fun e w' => ∃ v', e = .returned v' ∧ Own w' w0.heap.size v' (l ++ recB k q.l) ∧ Below w0.heap.size w0 w' := by
  have HQ := Lib.hid hq
  have HT := Lib.hid ht
  have HL := Lib.hid hl
  have HHA : Hid (AreBytes (headB k q.l.length)) := headB_are hk
  have HU : Hid ((headB k q.l.length).length ≤ 11) := headB_le (by unfold U64; omega)
  have HHD := Lib.hid (headOf_any k q.l.length (w.alloc (.cells #[.int .i64 (k : Nat), q.v] 27)) hk (by omega))
  have HB0 := Lib.hid hb
  have HO0 := Lib.hid ho
  obtain ⟨a0, c0, rfl, hp0, -, -⟩ := ho.part hl
  have HP0 := Lib.hid hp0
  have HREC : Hid (∀ y, y = headB k q.l.length → recB k q.l = y ++ q.l ++ sumB (y ++ q.l)) := fun y hy => by rw [hy]; rfl
  obtain ⟨qa, ql, qc⟩ := q
  unfold Part.v at HHD ⊢
  simp only at hn HU HHA HHD HREC ⊢
  obtain ⟨R, hR⟩ : ∃ R, R = recB k ql := ⟨_, rfl⟩
  rw [← hR] at HREC ⊢
  obtain ⟨y, hy⟩ : ∃ y, y = headB k ql.length := ⟨_, rfl⟩
  rw [← hy] at HHD HU HHA
  have HR := Lib.hid (HREC.out y hy)
  have hy2 : 0 < y.length := by rw [hy]; simp [headB]
  have HY2 := Lib.hid hy2
  have HN : Hid (ql.length ≤ 1048576) := hn
  have HSZ : Hid (l.length ≤ 549755813888) := hsz
  have hql := HQ.out.room
  have hqc := HQ.out.max
  simp only at hql hqc
  have hlc := HP0.out.room
  have hlm := HP0.out.max
  simp only at hlc hlm
  unfold maxLen at hqc hlm
  clear hq ht hl hk hb ho hp0 hR HREC hy hy2
  go_enter Tryd.func23, Tryd.ntmps23
  go_wp2_with (fail)
  have HBX : Hid (Below w0.heap.size w0 (w.alloc (.cells #[.int .i64 (k : Nat), .slice qa ql.length qc] 27))) := HB0.out.alloc HB0.out.size _
  refine HHD.out.mono ?_
  rintro r w2 ⟨h, rfl, hown, hb2⟩
  have HB2 : Hid (Below w0.heap.size w0 w2) := HBX.out.trans (hb2.mono HBX.out.size)
  obtain ⟨ha, hc, rfl, hhp, -, -⟩ := hown.part HHA.out
  have HO2 : Hid (Own w2 w0.heap.size (.slice a0 l.length c0) l) := (HO0.out.below ((Below.refl _ _).alloc (Nat.le_refl _) _)).below hb2
  have hbox2 : Blk2 w2 w.heap.size [.int .i64 (k : Nat), .slice qa ql.length qc] := (blk2_new w _ _).trans' (hb2.block _ (by simp))
  obtain ⟨v3, w3, run3, own3, hb3, hk3, hn3, hs3⟩ := grow_row HB2.out HO2.out ha y hc hhp.at_ (by have := HU.out; have := HSZ.out; omega)
  have hw2 : w.heap.size < w2.heap.size := by have := hb2.size; simp at this; omega
  have hnb : (Value.slice a0 l.length c0).ownBlock ≠ some w.heap.size := fun e => by have := (HO0.out.block e).2; omega
  have hbox3 : Blk2 w3 w.heap.size [.int .i64 (k : Nat), .slice qa ql.length qc] := hbox2.trans' (hk3 _ hw2 hnb)
  obtain ⟨v4, w4, run4, own4, hb4, hk4, hn4, hs4⟩ := grow_row hb3 own3 qa ql qc ((HQ.out.below hb3).at_) (by rw [List.length_append]; have := HU.out; have := HSZ.out; have := HN.out; omega)
  have c3 : w3.cell? ⟨w.heap.size, 1, none⟩ = some (.slice qa ql.length qc) := hbox3.cell2 1
  have HL4 : Hid (AreBytes (l ++ y ++ ql)) := (HL.out.append HHA.out).append HQ.out.bytes
  have hlen4 : (l ++ y ++ ql).length = l.length + y.length + ql.length := by simp only [List.length_append]
  have hd : (l ++ y ++ ql).drop l.length = y ++ ql := by rw [List.append_assoc, List.drop_left]
  obtain ⟨L4, hL4⟩ : ∃ L, L = l ++ y ++ ql := ⟨_, rfl⟩
  rw [← hL4] at own4 HL4 hlen4 hd
  obtain ⟨a4, c4, rfl, hp4, -, -⟩ := own4.part HL4.out
  obtain ⟨a3, n3, c33, rfl⟩ := own3.val
  obtain ⟨g4, o4, ra4, hcell4⟩ := hp4.at_ (by have := HY2.out; simp only; omega)
  simp only at ra4
  subst ra4
  have hc4 := hp4.room
  have hm4 := hp4.max
  simp only at hc4 hm4
  have hq4 : (⟨some ⟨g4, o4 + l.length, none⟩, L4.drop l.length, c4 - l.length⟩ : Part).ok w4 :=
    ⟨by simp only [List.length_drop]; omega, by simp only; omega, (show Row e8 w4 (some ⟨g4, o4, none⟩) L4 from hp4.at_).drop l.length, HL4.out.drop _⟩
  have HS := Lib.hid (sumOf_any _ w4 hq4 (tab_below HT.out hb4))
  unfold Part.v at HS
  simp only [List.length_drop] at HS
  rw [hd] at HS
  have hlt4 : (l.length : Int) < (c4 : Int) := by have := HY2.out; omega
  have hle4 : (l.length : Int) ≤ (L4.length : Int) := by omega
  have HSZ4 : Hid (L4.length ≤ 1000000000000) := by show _ ≤ _; have := HU.out; have := HSZ.out; have := HN.out; omega
  unfold maxLen at hm4
  have HFIN : Hid (l ++ R = L4 ++ sumB (y ++ ql)) := by show _ = _; rw [HR.out, hL4]; simp
  have HOWN4 := Lib.hid own4
  have HB4 := Lib.hid hb4
  clear hcell4 hd hq4 hown hb2 hhp HO2 hbox2 own3 hb3 hk3 hn3 hs3 hw2 hnb hbox3 own4 hb4 hk4 hn4 hs4 hp4 HO0 HP0 hL4 hlen4 HR
  go_wp2_with (at_builtin; first | refine wpList_append_run rfl _ _ 25 25 25 rfl rfl _ _ _ _ rfl rfl run3 ?_ | refine wpList_append_run rfl _ _ 25 25 25 rfl rfl _ _ _ _ rfl rfl run4 ?_)
  refine HS.out.mono ?_
  rintro r w5 ⟨v5, rfl, own5, hb5⟩
  obtain ⟨s5, hs5⟩ : ∃ s5, s5 = sumB (y ++ ql) := ⟨_, rfl⟩
  have hs5a : AreBytes s5 := by rw [hs5]; exact sumB_are _
  have hs5l : s5.length = 4 := by rw [hs5]; rfl
  rw [← hs5] at own5 HFIN
  obtain ⟨a5, c5, rfl, hp5, -, -⟩ := own5.part hs5a
  have HB5 : Hid (Below w0.heap.size w0 w5) := HB4.out.trans (hb5.mono HB4.out.size)
  obtain ⟨v6, w6, run6, own6, hb6, -⟩ := grow_row HB5.out (HOWN4.out.below hb5) a5 s5 c5 hp5.at_ (by have := HSZ4.out; omega)
  rw [← HFIN.out] at own6
  have HF := Lib.hid own6
  have HB6 := Lib.hid hb6
  obtain ⟨a6, n6, c6, rfl⟩ := own6.val
  clear own5 hb5 hp5 own6 hb6 HS hs5 hs5a hs5l run3 run4
  go_wp2_with (at_builtin; refine wpList_append_run rfl _ _ 25 25 25 rfl rfl _ _ _ _ rfl rfl run6 ?_)
  go_ret
  exact ⟨_, rfl, HF.out, HB6.out⟩
end Go.Proofs.YtoipokjoklhfjaaDoor
