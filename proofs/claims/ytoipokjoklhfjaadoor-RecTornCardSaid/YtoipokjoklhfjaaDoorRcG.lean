/-
  All records of bytes, up to the first that isn't there.
-/
import Derived.Test.YtoipokjoklhfjaaDoorRcF
import Derived.Maps.AppendAt
namespace Go.Proofs.YtoipokjoklhfjaaDoor
open Go.RowKit numb

/-! ### Plain -/
def allS (b : List Nat) : List (Nat × List Nat) × Nat × Nat :=
  if _h : b.length = 0 then ([], 0, 0)
  else if _h2 : (nextS b).e ≠ 0 ∨ (nextS b).n = 0 then ([], 0, (nextS b).e)
  else (((nextS b).k, (nextS b).d) :: (allS (b.drop (nextS b).n)).1, (nextS b).n + (allS (b.drop (nextS b).n)).2.1, (allS (b.drop (nextS b).n)).2.2)
termination_by b.length
decreasing_by all_goals (rw [List.length_drop]; omega)
theorem allS_nil {b : List Nat} (h : b.length = 0) : allS b = ([], 0, 0) := by
  rw [allS, dif_pos h]
theorem allS_stop {b : List Nat} (h : 0 < b.length) (he : (nextS b).e ≠ 0) : allS b = ([], 0, (nextS b).e) := by
  rw [allS, dif_neg (by omega), dif_pos (.inl he)]
theorem allS_go {b : List Nat} (hb : AreBytes b) (h : 0 < b.length) (he : (nextS b).e = 0) :
    allS b = (((nextS b).k, (nextS b).d) :: (allS (b.drop (nextS b).n)).1, (nextS b).n + (allS (b.drop (nextS b).n)).2.1, (allS (b.drop (nextS b).n)).2.2) := by
  obtain ⟨n, h1, h2, h3, h4, h5, h6, h7, h8, h9⟩ := next_ok hb he
  have := (recB_le (k := (nextS b).k) (l := (nextS b).d) (by omega)).2
  rw [allS, dif_neg (by omega), dif_neg (by omega)]
/-- how far it has come: l were read, they have g bytes -/
def Went (b : List Nat) (l : List (Nat × List Nat)) (g : Nat) : Prop := allS b = (l ++ (allS (b.drop g)).1, g + (allS (b.drop g)).2.1, (allS (b.drop g)).2.2)
theorem Went.start (b : List Nat) : Went b [] 0 := by
  show _ = _
  rw [List.drop_zero]
  simp
theorem Went.go {b : List Nat} {l : List (Nat × List Nat)} {g : Nat} (h : Went b l g) (hb : AreBytes b) (hg : g < b.length) (he : (nextS (b.drop g)).e = 0) :
    Went b (l ++ [((nextS (b.drop g)).k, (nextS (b.drop g)).d)]) (g + (nextS (b.drop g)).n) ∧ 0 < (nextS (b.drop g)).n ∧ g + (nextS (b.drop g)).n ≤ b.length := by
  obtain ⟨n, h1, h2, h3, h4, h5, h6, h7, h8, h9⟩ := next_ok (hb.drop g) he
  have := (recB_le (k := (nextS (b.drop g)).k) (l := (nextS (b.drop g)).d) (by omega)).2
  rw [List.length_drop] at h8
  refine ⟨?_, by omega, by omega⟩
  have h' : allS b = _ := h
  rw [allS_go (hb.drop g) (by rw [List.length_drop]; omega) he, List.drop_drop] at h'
  show allS b = _
  rw [h']
  simp only [List.append_assoc, List.singleton_append, Nat.add_assoc]
theorem Went.stop {b : List Nat} {l : List (Nat × List Nat)} {g : Nat} (h : Went b l g) (hg : g < b.length) (he : (nextS (b.drop g)).e ≠ 0) : allS b = (l, g, (nextS (b.drop g)).e) := by
  have h' : allS b = _ := h
  rw [allS_stop (b := b.drop g) (by rw [List.length_drop]; omega) he] at h'
  rw [h']
  simp
theorem Went.fin {b : List Nat} {l : List (Nat × List Nat)} {g : Nat} (h : Went b l g) (hg : b.length ≤ g) : allS b = (l, g, 0) := by
  have h' : allS b = _ := h
  rw [allS_nil (b := b.drop g) (by rw [List.length_drop]; omega)] at h'
  rw [h']
  simp

/-! ### A slice of records of the call's own -/
def rcells (x : Rc) : List Value := [.int .i64 x.k, x.p.v]
def ROwn (w : World) (base : Nat) (v : Value) (l : List Rc) : Prop := w.ownsRow base 27 2 v l.length (l.flatMap rcells)
theorem rcells_at {l : List Rc} {j : Nat} (h : j < l.length) : (l.flatMap rcells)[j * 2]? = some (.int .i64 l[j].k) ∧ (l.flatMap rcells)[j * 2 + 1]? = some l[j].p.v := by
  induction l generalizing j with
  | nil => simp at h
  | cons x l ih =>
    rw [List.flatMap_cons]
    cases j with
    | zero => simp [rcells]
    | succ j =>
      have hj : j < l.length := by simpa using h
      have e0 : (j + 1) * 2 = j * 2 + 2 := by omega
      have hl : (rcells x).length = 2 := rfl
      obtain ⟨h0, h1⟩ := ih hj
      rw [e0, List.getElem?_append_right (by omega), List.getElem?_append_right (by omega), hl, show j * 2 + 2 - 2 = j * 2 by omega, show j * 2 + 2 + 1 - 2 = j * 2 + 1 by omega]
      exact ⟨h0, h1⟩
section
variable {w w' : World} {base : Nat} {v : Value} {l : List Rc}
theorem ROwn.nil (w : World) (base : Nat) : ROwn w base (.slice none 0 0) [] := World.ownsRow_nil w base _ 2
theorem ROwn.block (h : ROwn w base v l) {g : Nat} (hg : v.ownBlock = some g) : base ≤ g ∧ g < w.heap.size := World.ownsRow.lt h g hg
theorem ROwn.below (h : ROwn w base v l) (hb : Below w.heap.size w w') : ROwn w' base v l := by
  refine ⟨h.1, ?_⟩
  rcases h.2 with hn | ⟨g, cap, cur, rfl, hg, hbb, rest⟩
  · exact .inl hn
  · exact .inr ⟨g, cap, cur, rfl, hg, (hb.block g (h.block rfl).2).trans hbb, rest⟩
theorem ROwn.row (h : ROwn w base v l) : ∃ A c, v = .slice A l.length c ∧ l.length ≤ c ∧ RcRow w A l := by
  rcases h.2 with ⟨rfl, h0⟩ | ⟨g, cap, cur, rfl, hg, hb, hc, rest⟩
  · refine ⟨none, 0, by rw [h0], by omega, fun hn => by omega⟩
  · refine ⟨some ⟨g, 0, none⟩, cap, rfl, hc, fun _ => ⟨g, 0, rfl, fun j hj => ?_⟩⟩
    have hcell := World.ownsRow.cells h (g := g) rfl
    obtain ⟨h0, h1⟩ := rcells_at hj
    have e : ∀ i, (⟨g, 0, none⟩ : Addr).add i = ⟨g, 0 + i, none⟩ := fun i => by unfold Addr.add; split <;> simp_all
    exact ⟨by rw [← e]; exact hcell _ _ h0, by have := hcell _ _ h1; rw [e] at this; rw [Nat.add_assoc]; exact this⟩
end
theorem info_rec : (Tryd.prog.info? 27).map (fun i => (i.zero, i.size, i.bytes)) = some (some (.agg #[.int .i64 0, .slice none 0 0]), 2, 32) := by kernel_rfl
theorem app_rec (w : World) (base : Nat) (v : Value) (l : List Rc) (h : ROwn w base v l) (g c : Nat) (x : Rc) (h0 : w.cell? ⟨g, 0, none⟩ = some (.int .i64 x.k)) (h1 : w.cell? ⟨g, 1, none⟩ = some x.p.v) (hn : l.length ≤ 1000000000) (hbase : base ≤ w.heap.size) :
    ∃ v' w', (Builtin.append_ #[22, 22] 22 #[v, .slice (some ⟨g, 0, none⟩) 1 c]).run Tryd.prog w = .ok v' w' ∧ ROwn w' base v' (l ++ [x]) ∧ w.grownBy w' v.ownBlock := by
  obtain ⟨i, hi, hz, hsize, hby⟩ := info_parts info_rec
  obtain ⟨v', w', hrun, ho, hg, -, hat⟩ := run_append_own_at (P := Tryd.prog) w base 22 22 27 i _ 2 32 Tryd.underlying22 hi hz hsize hby rfl (by decide) v l.length _ h ⟨g, 0, none⟩ 1 c
    (rcells x) rfl (by
      intro j u hu
      have e : (⟨g, 0, none⟩ : Addr).add j = ⟨g, j, none⟩ := by unfold Addr.add; split <;> simp_all
      rw [e]
      match j, hu with
      | 0, hu => rw [h0]; exact hu
      | 1, hu => rw [h1]; exact hu
      | j + 2, hu => exact absurd hu (by simp [rcells])) (by
      intro u hu
      simp only [rcells, List.mem_cons, List.not_mem_nil, or_false] at hu
      rcases hu with rfl | rfl <;> rfl) (by unfold maxLen; omega) (by omega) hbase
  refine ⟨v', w', hrun, ?_, hg⟩
  unfold ROwn
  rw [List.length_append, List.flatMap_append]
  simpa using ho
theorem own_rec_ne {w : World} {b1 b2 : Nat} {v v' : Value} {l : List Nat} {l' : List Rc} (hx : Own w b1 v l) (hr : ROwn w b2 v' l') {g : Nat} (h1 : v.ownBlock = some g) (h2 : v'.ownBlock = some g) : False := by
  rcases hx.2 with ⟨rfl, _⟩ | ⟨g1, cap1, cur1, rfl, _, hh1, _⟩
  · simp [Value.ownBlock] at h1
  · rcases hr.2 with ⟨rfl, _⟩ | ⟨g2, cap2, cur2, rfl, _, hh2, _⟩
    · simp [Value.ownBlock] at h2
    · have e1 : g1 = g := by simpa [Value.ownBlock] using h1
      have e2 : g2 = g := by simpa [Value.ownBlock] using h2
      subst e1
      subst e2
      rw [hh1] at hh2
      injection hh2 with hh2
      injection hh2 with _ ht
      exact absurd ht (by decide)
theorem own_part {w : World} {base : Nat} {x : Part} (h : Own w base x.v x.l) (hb : AreBytes x.l) : x.ok w := by
  obtain ⟨a, c, e, hp, -, -⟩ := h.part hb
  obtain ⟨xa, xl, xc⟩ := x
  unfold Part.v at e
  simp only [Value.slice.injEq] at e
  obtain ⟨rfl, -, rfl⟩ := e
  exact hp
/-- records told: each with bytes of its own -/
def Ours (w : World) (base : Nat) (l : List Rc) : Prop := ∀ x ∈ l, AreBytes x.p.l ∧ Own w base x.p.v x.p.l
theorem Ours.below {w w' : World} {base : Nat} {l : List Rc} (h : Ours w base l) (hb : Below w.heap.size w w') : Ours w' base l := fun x hx => ⟨(h x hx).1, (h x hx).2.below hb⟩
theorem Ours.grown {w w' : World} {base b2 : Nat} {l l' : List Rc} {v : Value} (h : Ours w base l) (hr : ROwn w b2 v l') (hg : w.grownBy w' v.ownBlock) : Ours w' base l := fun x hx =>
  ⟨(h x hx).1, (h x hx).2.stays fun g hgg => hg.block g ((h x hx).2.block hgg).2 (fun e => own_rec_ne (h x hx).2 hr hgg e.symm)⟩
theorem Ours.ok {w : World} {base : Nat} {l : List Rc} (h : Ours w base l) : ∀ x ∈ l, x.p.ok w := fun x hx => own_part (h x hx).2 (h x hx).1
def plainR (x : Rc) : Int × List Nat := (x.k, x.p.l)
def toI (y : Nat × List Nat) : Int × List Nat := ((y.1 : Int), y.2)
def AllQ (b : List Nat) (w : World) (e : Ending) (w' : World) : Prop :=
  ∃ (l : List Rc) (v : Value), e = .returned (.tuple #[v, .int .i64 ((allS b).2.1 : Nat), .int .i64 ((allS b).2.2 : Nat)]) ∧ ROwn w' w.heap.size v l ∧ Ours w' w.heap.size l ∧ l.map plainR = (allS b).1.map toI ∧ Below w.heap.size w w'
theorem allq_of {b : List Nat} {w w' : World} {l : List Rc} {v : Value} {r : List (Nat × List Nat)} {g e : Nat} (h : allS b = (r, g, e)) (ho : ROwn w' w.heap.size v l) (hp : Ours w' w.heap.size l) (hl : l.map plainR = r.map toI) (hB : Below w.heap.size w w') :
    AllQ b w (.returned (.tuple #[v, .int .i64 (g : Nat), .int .i64 (e : Nat)])) w' := by
  unfold AllQ
  rw [h]
  exact ⟨l, v, rfl, ho, hp, hl, hB⟩
set_option maxRecDepth 100000 in
set_option maxHeartbeats 4000000 in
theorem all_any (q : Part) (w : World) (hq : q.ok w) (ht : TabAt w) (hsz : q.l.length ≤ 1000000) :
    Calls Tryd.prog 14 #[.slice q.a q.l.length q.c] w (AllQ q.l w) := by
  obtain ⟨A, b, c⟩ := q
  simp only at hsz ⊢
  have HT := Lib.hid ht
  have HQ := Lib.hid hq
  have hroom : b.length ≤ c := hq.room
  have hmax : c ≤ maxLen := hq.max
  have hcm : c ≤ 9223372036854775807 := by unfold maxLen at hmax; omega
  have HA : Hid (AreBytes b) := hq.bytes
  clear hq ht
  go_enter Tryd.func14, Tryd.ntmps14
  go_wp2_with (fail)
  go_loopw [2, 3] (fun v i wr => ∃ (k : Nat) (a : Option Addr) (n cc : Nat) (l : List Rc) (r : List (Nat × List Nat)), v = .slice a n cc ∧ k ≤ b.length ∧ i = .int .i64 k ∧ Hid (l.length ≤ k) ∧ Hid (Went b r k) ∧ Hid (l.map plainR = r.map toI) ∧ Hid (Ours wr w.heap.size l) ∧ Hid (ROwn wr w.heap.size (.slice a n cc) l) ∧ Hid (Below w.heap.size w wr))
    (fun _ i _ => b.length - (intOf i).toNat)
  case atStart => exact ⟨0, none, 0, 0, [], [], rfl, Nat.zero_le _, rfl, Nat.le_refl _, Went.start b, rfl, (fun x hx => by cases hx), ROwn.nil w _, Below.refl _ _⟩
  case round =>
    obtain ⟨k, va, vn, vc, l, r, rfl, hk, rfl, HL, HW, HM, HP, HO, hb⟩ := hrel
    by_cases hlt : k < b.length
    · obtain ⟨g, o, hA, hcell⟩ := HQ.out.at_ (by simp only; omega)
      simp only at hA hcell
      subst hA
      have hck : ¬ c = k := by omega
      have hdl : (b.drop k).length = b.length - k := by rw [List.length_drop]
      have HN := next_any ⟨some ⟨g, o + k, none⟩, b.drop k, c - k⟩ wr
        ⟨by simp only; omega, by simp only; unfold maxLen at hmax ⊢; omega, (show Row e8 wr (some ⟨g, o, none⟩) b from (HQ.out.below hb.out).at_).drop k, HA.out.drop k⟩ (tab_below HT.out hb.out) (by simp only; omega)
      simp only [hdl] at HN
      have HN2 := Lib.hid HN
      have HST := Lib.hid (fun he => HW.out.stop hlt he)
      have HGO := Lib.hid (fun he => HW.out.go HA.out hlt he)
      have hnb := next_bad (HA.out.drop k)
      have hkb := fun he => (next_ok (HA.out.drop k) he)
      have HOKD : Hid ((nextS (b.drop k)).e = 0 → AreBytes (nextS (b.drop k)).d) := fun he => by
        obtain ⟨_, _, _, _, _, h5, _⟩ := hkb he
        exact h5
      clear HN hdl hcell hkb
      go_wp2_with (fail)
      refine HN2.out.mono ?_
      rintro e w2 ⟨v2, rfl, own2, hb2⟩
      have HB2 : Hid (Below w.heap.size w w2) := hb.out.trans (hb2.mono hb.out.size)
      have HO2 := Lib.hid (HO.out.below hb2)
      have HP2 : Hid (Ours w2 w.heap.size l) := HP.out.below hb2
      obtain ⟨X, hX⟩ : ∃ X, X = nextS (b.drop k) := ⟨_, rfl⟩
      rw [← hX] at HST HGO HOKD own2 hnb ⊢
      obtain ⟨e, kk, d, n⟩ := X
      simp only at HST HGO HOKD own2 hnb ⊢
      clear hX hb2 HN2
      by_cases he : e = 0
      · subst he
        obtain ⟨hg1, hg2, hg3⟩ := HGO.out rfl
        obtain ⟨a2, c2, rfl, hp2, -, -⟩ := own2.part (HOKD.out rfl)
        have hwl : w2.heap.size < ((w2.alloc (.cells #[.int .i64 (kk : Nat), .slice a2 d.length c2] 27)).alloc (.cells #[.int .i64 (kk : Nat), .slice a2 d.length c2] 27)).heap.size := by simp; omega
        have hall : Below w2.heap.size w2 ((w2.alloc (.cells #[.int .i64 (kk : Nat), .slice a2 d.length c2] 27)).alloc (.cells #[.int .i64 (kk : Nat), .slice a2 d.length c2] 27)) := ((Below.refl _ _).alloc (Nat.le_refl _) _).alloc (by simp) _
        have bn := blk2_new (w2.alloc (.cells #[.int .i64 (kk : Nat), .slice a2 d.length c2] 27)) [.int .i64 (kk : Nat), .slice a2 d.length c2] 27
        have hz1 : (w2.alloc (.cells #[.int .i64 (kk : Nat), .slice a2 d.length c2] 27)).heap.size = w2.heap.size + 1 := by simp
        rw [hz1] at bn
        obtain ⟨v3, w3, hrun, own3, hgr⟩ := app_rec ((w2.alloc (.cells #[.int .i64 (kk : Nat), .slice a2 d.length c2] 27)).alloc (.cells #[.int .i64 (kk : Nat), .slice a2 d.length c2] 27)) w.heap.size (.slice va vn vc) l (HO2.out.below hall) (w2.heap.size + 1) 1 ⟨(kk : Nat), a2, d, c2⟩ (bn.cell2 0) (bn.cell2 1) (by have := HL.out; omega) (by have := HB2.out.size; omega)
        have HB3 : Hid (Below w.heap.size w w3) := (HB2.out.trans (hall.mono HB2.out.size)).grown hgr (by have := HB2.out.size; omega) (fun j hj => (HO2.out.block hj).1)
        have HP3 : Hid (Ours w3 w.heap.size (l ++ [(⟨(kk : Nat), a2, d, c2⟩ : Rc)])) := by
          have h1 : Ours w2 w.heap.size (l ++ [(⟨(kk : Nat), a2, d, c2⟩ : Rc)]) := fun x hx => by
            rcases List.mem_append.1 hx with hx | hx
            · exact HP2.out x hx
            · obtain rfl := List.mem_singleton.1 hx
              exact ⟨HOKD.out rfl, own2.mono hb.out.size⟩
          exact (h1.below hall).grown (HO2.out.below hall) hgr
        have HM3 : Hid ((l ++ [(⟨(kk : Nat), a2, d, c2⟩ : Rc)]).map plainR = (r ++ [(kk, d)]).map toI) := by
          show _ = _
          rw [List.map_append, List.map_append, HM.out]
          rfl
        obtain ⟨a3, c3, rfl, -, -⟩ := own3.row
        rw [show (l ++ [(⟨(kk : Nat), a2, d, c2⟩ : Rc)]).length = l.length + 1 by simp] at own3 hrun
        have HO3 := Lib.hid own3
        have HG1 := Lib.hid hg1
        have hnn : (n : Int) ≤ 1000000 := by omega
        clear own2 hall bn hz1 own3 hgr hwl hg1 HST HGO HOKD hnb hp2
        go_wp2_with (at_builtin; refine wpList_append_run rfl _ _ 22 22 22 rfl rfl _ _ _ _ rfl rfl hrun ?_)
        clear hrun
        go_roundw
        case rel => exact ⟨k + n, _, _, _, _, _, rfl, hg3, by go_num, by have := HL.out; show _ ≤ _; rw [List.length_append, List.length_singleton]; omega, HG1, HM3, HP3, HO3, HB3⟩
        case measure => simp [intOf]; omega
      · have t : ((e : Int) != 0) = true := by simp; omega
        have HS := Lib.hid (HST.out he)
        obtain ⟨a2, n2, c2, rfl⟩ := own2.val
        have HB3 : Hid (Below w2.heap.size w2 (w2.alloc (.cells #[.int .i64 (kk : Nat), .slice a2 n2 c2] 27))) := (Below.refl _ _).alloc (Nat.le_refl _) _
        clear HST HGO HOKD hnb own2
        go_wp2_with (fail)
        go_ret3
        exact allq_of HS.out (HO2.out.below HB3.out) (HP2.out.below HB3.out) HM.out (HB2.out.trans (HB3.out.mono HB2.out.size))
    · have HF := Lib.hid (HW.out.fin (by omega))
      go_wp2_with (fail)
      go_ret3
      exact allq_of HF.out HO.out HP.out HM.out hb.out
end Go.Proofs.YtoipokjoklhfjaaDoor
