/-
  The document's own: all records of a text, up to the first that isn't there.
-/
import Derived.Test.YtoipokjoklhfjaaDoorRcJ
namespace Go.Proofs.YtoipokjoklhfjaaDoor
open Go.RowKit numb

def dcells (y : Nat × List Nat) : List Value := [.int .i64 (y.1 : Nat), .string (strOf y.2)]
/-- the slice's address leads to these records of the document's -/
def DRow (w : World) (A : Option Addr) (l : List (Nat × List Nat)) : Prop :=
  0 < l.length → ∃ b off, A = some ⟨b, off, none⟩ ∧ ∀ j (h : j < l.length), w.cell? ⟨b, off + j * 2, none⟩ = some (.int .i64 (l[j].1 : Nat)) ∧ w.cell? ⟨b, off + j * 2 + 1, none⟩ = some (.string (strOf l[j].2))
theorem DRow.below {w w' : World} {A : Option Addr} {l : List (Nat × List Nat)} (h : DRow w A l) (hb : Below w.heap.size w w') : DRow w' A l := fun hn => by
  obtain ⟨b, off, e, hc⟩ := h hn
  have hlt : b < w.heap.size := World.block_lt_of_cell? w _ (hc 0 hn).1
  exact ⟨b, off, e, fun j hj => ⟨(hb.cell (p := ⟨b, _, none⟩) hlt).trans (hc j hj).1, (hb.cell (p := ⟨b, _, none⟩) hlt).trans (hc j hj).2⟩⟩
def DOwn (w : World) (base : Nat) (v : Value) (l : List (Nat × List Nat)) : Prop := w.ownsRow base 30 2 v l.length (l.flatMap dcells)
theorem dcells_at {l : List (Nat × List Nat)} {j : Nat} (h : j < l.length) : (l.flatMap dcells)[j * 2]? = some (.int .i64 (l[j].1 : Nat)) ∧ (l.flatMap dcells)[j * 2 + 1]? = some (.string (strOf l[j].2)) := by
  induction l generalizing j with
  | nil => simp at h
  | cons x l ih =>
    rw [List.flatMap_cons]
    cases j with
    | zero => simp [dcells]
    | succ j =>
      have hj : j < l.length := by simpa using h
      have e0 : (j + 1) * 2 = j * 2 + 2 := by omega
      have hl : (dcells x).length = 2 := rfl
      obtain ⟨h0, h1⟩ := ih hj
      rw [e0, List.getElem?_append_right (by omega), List.getElem?_append_right (by omega), hl, show j * 2 + 2 - 2 = j * 2 by omega, show j * 2 + 2 + 1 - 2 = j * 2 + 1 by omega]
      exact ⟨h0, h1⟩
section
variable {w w' : World} {base : Nat} {v : Value} {l : List (Nat × List Nat)}
theorem DOwn.nil (w : World) (base : Nat) : DOwn w base (.slice none 0 0) [] := World.ownsRow_nil w base _ 2
theorem DOwn.block (h : DOwn w base v l) {g : Nat} (hg : v.ownBlock = some g) : base ≤ g ∧ g < w.heap.size := World.ownsRow.lt h g hg
theorem DOwn.below (h : DOwn w base v l) (hb : Below w.heap.size w w') : DOwn w' base v l := by
  refine ⟨h.1, ?_⟩
  rcases h.2 with hn | ⟨g, cap, cur, rfl, hg, hbb, rest⟩
  · exact .inl hn
  · exact .inr ⟨g, cap, cur, rfl, hg, (hb.block g (h.block rfl).2).trans hbb, rest⟩
theorem DOwn.row (h : DOwn w base v l) : ∃ A c, v = .slice A l.length c ∧ l.length ≤ c ∧ DRow w A l := by
  rcases h.2 with ⟨rfl, h0⟩ | ⟨g, cap, cur, rfl, hg, hb, hc, rest⟩
  · refine ⟨none, 0, by rw [h0], by omega, fun hn => by omega⟩
  · refine ⟨some ⟨g, 0, none⟩, cap, rfl, hc, fun _ => ⟨g, 0, rfl, fun j hj => ?_⟩⟩
    have hcell := World.ownsRow.cells h (g := g) rfl
    obtain ⟨h0, h1⟩ := dcells_at hj
    have e : ∀ i, (⟨g, 0, none⟩ : Addr).add i = ⟨g, 0 + i, none⟩ := fun i => by unfold Addr.add; split <;> simp_all
    exact ⟨by rw [← e]; exact hcell _ _ h0, by have := hcell _ _ h1; rw [e] at this; rw [Nat.add_assoc]; exact this⟩
end
theorem info_drec : (Tryd.prog.info? 30).map (fun i => (i.zero, i.size, i.bytes)) = some (some (.agg #[.int .i64 0, .string ⟨#[]⟩]), 2, 24) := by kernel_rfl
theorem app_drec (w : World) (base : Nat) (v : Value) (l : List (Nat × List Nat)) (h : DOwn w base v l) (g c : Nat) (x : Nat × List Nat) (h0 : w.cell? ⟨g, 0, none⟩ = some (.int .i64 (x.1 : Nat))) (h1 : w.cell? ⟨g, 1, none⟩ = some (.string (strOf x.2))) (hn : l.length ≤ 1000000000) (hbase : base ≤ w.heap.size) :
    ∃ v' w', (Builtin.append_ #[45, 45] 45 #[v, .slice (some ⟨g, 0, none⟩) 1 c]).run Tryd.prog w = .ok v' w' ∧ DOwn w' base v' (l ++ [x]) ∧ w.grownBy w' v.ownBlock := by
  obtain ⟨i, hi, hz, hsize, hby⟩ := info_parts info_drec
  obtain ⟨v', w', hrun, ho, hg, -, hat⟩ := run_append_own_at (P := Tryd.prog) w base 45 45 30 i _ 2 24 Tryd.underlying45 hi hz hsize hby rfl (by decide) v l.length _ h ⟨g, 0, none⟩ 1 c
    (dcells x) rfl (by
      intro j u hu
      have e : (⟨g, 0, none⟩ : Addr).add j = ⟨g, j, none⟩ := by unfold Addr.add; split <;> simp_all
      rw [e]
      match j, hu with
      | 0, hu => rw [h0]; exact hu
      | 1, hu => rw [h1]; exact hu
      | j + 2, hu => exact absurd hu (by simp [dcells])) (by
      intro u hu
      simp only [dcells, List.mem_cons, List.not_mem_nil, or_false] at hu
      rcases hu with rfl | rfl <;> rfl) (by unfold maxLen; omega) (by omega) hbase
  refine ⟨v', w', hrun, ?_, hg⟩
  unfold DOwn
  rw [List.length_append, List.flatMap_append]
  simpa using ho
def DAllQ (b : List Nat) (w : World) (e : Ending) (w' : World) : Prop :=
  ∃ (v : Value), e = .returned (.tuple #[v, .int .i64 ((allS b).2.1 : Nat), .int .i64 ((allS b).2.2 : Nat)]) ∧ DOwn w' w.heap.size v (allS b).1 ∧ Below w.heap.size w w'
theorem dallq_of {b : List Nat} {w w' : World} {v : Value} {r : List (Nat × List Nat)} {g e : Nat} (h : allS b = (r, g, e)) (ho : DOwn w' w.heap.size v r) (hB : Below w.heap.size w w') :
    DAllQ b w (.returned (.tuple #[v, .int .i64 (g : Nat), .int .i64 (e : Nat)])) w' := by
  unfold DAllQ
  rw [h]
  exact ⟨v, rfl, ho, hB⟩
set_option maxRecDepth 100000 in
set_option maxHeartbeats 4000000 in
theorem dall_any (s : ByteArray) (w : World) (hsz : s.size ≤ 1000000) :
    Calls Tryd.prog 19 #[.string s] w (DAllQ (natsOf s) w) := by
  have HA : Hid (AreBytes (natsOf s)) := natsOf_are s
  have HL : Hid ((natsOf s).length = s.size) := natsOf_length s
  go_enter Tryd.func19, Tryd.ntmps19
  go_wp2_with (fail)
  go_loopw [5, 6] (fun v i wr => ∃ (k : Nat) (a : Option Addr) (n cc : Nat) (r : List (Nat × List Nat)), v = .slice a n cc ∧ k ≤ s.size ∧ i = .int .i64 k ∧ Hid (r.length ≤ k) ∧ Hid (Went (natsOf s) r k) ∧ Hid (DOwn wr w.heap.size (.slice a n cc) r) ∧ Hid (Below w.heap.size w wr))
    (fun _ i _ => s.size - (intOf i).toNat)
  case atStart => exact ⟨0, none, 0, 0, [], rfl, Nat.zero_le _, rfl, Nat.le_refl _, Went.start _, DOwn.nil w _, Below.refl _ _⟩
  case round =>
    obtain ⟨k, va, vn, vc, r, rfl, hk, rfl, HLR, HW, HO, hb⟩ := hrel
    by_cases hlt : k < s.size
    · have hklt : k < (natsOf s).length := by rw [HL.out]; exact hlt
      have HN := dnext_any (s.extract k s.size) wr (by rw [strOf_drop, strOf_size, List.length_drop, HL.out]; omega)
      rw [strOf_drop, natsOf_strOf (HA.out.drop k), ← strOf_drop] at HN
      have HN2 := Lib.hid HN
      have HST := Lib.hid (fun he => HW.out.stop hklt he)
      have HGO := Lib.hid (fun he => HW.out.go HA.out hklt he)
      have hkl : (k : Int) < (s.size : Int) := by omega
      clear HN hklt hlt
      unfold DNextQ at HN2
      obtain ⟨X, hX⟩ : ∃ X, X = nextS ((natsOf s).drop k) := ⟨_, rfl⟩
      rw [← hX] at HST HGO HN2
      obtain ⟨e, kk, d, n⟩ := X
      simp only at HST HGO HN2
      clear hX
      go_wp2_with (fail)
      refine HN2.out.mono ?_
      rintro e' w2 ⟨rfl, hb2⟩
      have HB2 : Hid (Below w.heap.size w w2) := hb.out.trans (hb2.mono hb.out.size)
      have HO2 := Lib.hid (HO.out.below hb2)
      clear hb2 HN2
      by_cases he : e = 0
      · subst he
        obtain ⟨hg1, hg2, hg3⟩ := HGO.out rfl
        rw [HL.out] at hg3
        have hall : Below w2.heap.size w2 ((w2.alloc (.cells #[.int .i64 (kk : Nat), .string (strOf d)] 30)).alloc (.cells #[.int .i64 (kk : Nat), .string (strOf d)] 30)) := ((Below.refl _ _).alloc (Nat.le_refl _) _).alloc (by simp) _
        have bn := blk2_new (w2.alloc (.cells #[.int .i64 (kk : Nat), .string (strOf d)] 30)) [.int .i64 (kk : Nat), .string (strOf d)] 30
        have hz1 : (w2.alloc (.cells #[.int .i64 (kk : Nat), .string (strOf d)] 30)).heap.size = w2.heap.size + 1 := by simp
        rw [hz1] at bn
        obtain ⟨v3, w3, hrun, own3, hgr⟩ := app_drec ((w2.alloc (.cells #[.int .i64 (kk : Nat), .string (strOf d)] 30)).alloc (.cells #[.int .i64 (kk : Nat), .string (strOf d)] 30)) w.heap.size (.slice va vn vc) r (HO2.out.below hall) (w2.heap.size + 1) 1 (kk, d) (bn.cell2 0) (bn.cell2 1) (by have := HLR.out; omega) (by have := HB2.out.size; simp; omega)
        have HB3 : Hid (Below w.heap.size w w3) := (HB2.out.trans (hall.mono HB2.out.size)).grown hgr (by have := HB2.out.size; simp; omega) (fun j hj => (HO2.out.block hj).1)
        obtain ⟨a3, c3, rfl, -, -⟩ := own3.row
        rw [show (r ++ [(kk, d)]).length = r.length + 1 by simp] at own3 hrun
        have HO3 := Lib.hid own3
        have HG1 := Lib.hid hg1
        have hnn : (n : Int) ≤ 1000000 := by omega
        clear hall bn hz1 own3 hgr hg1 HST HGO
        generalize strOf d = S at *
        go_wp2_with (at_builtin; refine wpList_append_run rfl _ _ 45 45 45 rfl rfl _ _ _ _ rfl rfl hrun ?_)
        clear hrun
        go_roundw
        case rel => exact ⟨k + n, _, _, _, _, rfl, hg3, by go_num, by have := HLR.out; show _ ≤ _; rw [List.length_append, List.length_singleton]; omega, HG1, HO3, HB3⟩
        case measure => simp [intOf]; omega
      · have t : ((e : Int) != 0) = true := by simp; omega
        have HS := Lib.hid (HST.out he)
        have HB3 : Hid (Below w2.heap.size w2 (w2.alloc (.cells #[.int .i64 (kk : Nat), .string (strOf d)] 30))) := (Below.refl _ _).alloc (Nat.le_refl _) _
        clear HST HGO
        generalize strOf d = S at *
        go_wp2_with (fail)
        go_ret3
        exact dallq_of HS.out (HO2.out.below HB3.out) (HB2.out.trans (HB3.out.mono HB2.out.size))
    · have HF := Lib.hid (HW.out.fin (by rw [HL.out]; omega))
      go_wp2_with (fail)
      go_ret3
      exact dallq_of HF.out HO.out hb.out
end Go.Proofs.YtoipokjoklhfjaaDoor
