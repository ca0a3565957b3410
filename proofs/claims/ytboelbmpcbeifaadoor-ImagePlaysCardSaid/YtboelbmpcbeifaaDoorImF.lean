/-
  Layer 10: the edges of rectangles, from above on.
-/
import Derived.Test.YtboelbmpcbeifaaDoorImS
import Derived.Test.YtboelbmpcbeifaaDoorImE
namespace Go.Proofs.YtboelbmpcbeifaaDoor
open Go.RowKit pxm imm

theorem ecs_len (x : Eg) : x.cs.length = 4 := rfl
theorem ecs_plain (x : Eg) : ∀ u ∈ x.cs, u.oneCell' = true := by
  intro u hu
  simp only [Eg.cs, List.mem_cons, List.not_mem_nil, or_false] at hu
  rcases hu with rfl | rfl | rfl | rfl <;> rfl
abbrev EOwn (w : World) (base : Nat) (v : Value) (l : List Eg) : Prop := SOwn 80 4 Eg.cs w base v l
theorem info_edge : (Tryd.prog.info? 80).map (fun i => (i.zero, i.size, i.bytes)) = some (some (.agg #[.int .i64 0, .int .i64 0, .int .i64 0, .int .i64 0]), 4, 32) := by kernel_rfl
theorem app_eg {w : World} {base : Nat} {v : Value} {l xs : List Eg} (h : EOwn w base v l) {g o c : Nat} (hx : xs ≠ [] → SRow 4 Eg.cs w (some ⟨g, o, none⟩) xs) (hn : l.length + xs.length ≤ 1000000000) (hbase : base ≤ w.heap.size) :
    ∃ v' w', (Builtin.append_ #[76, 76] 76 #[v, .slice (some ⟨g, o, none⟩) xs.length c]).run Tryd.prog w = .ok v' w' ∧ EOwn w' base v' (l ++ xs) ∧ w.grownBy w' v.ownBlock ∧ (v'.ownBlock = v.ownBlock ∨ v'.ownBlock = some w.heap.size) :=
  SOwn.app Tryd.underlying76 info_edge rfl (by decide) (by decide) ecs_len ecs_plain h hx hn hbase
theorem egs_take (l : List Bx) {k : Nat} (hk : k < l.length) : egs (l.take (k + 1)) = egs (l.take k) ++ [⟨l[k].b, l[k].a, l[k].c, 1⟩, ⟨l[k].d, l[k].a, l[k].c, -1⟩] := by
  unfold egs
  rw [List.take_succ_eq_append_getElem hk, List.flatMap_append]
  simp [eg2]
theorem egs_len (l : List Bx) : (egs l).length = 2 * l.length := by
  induction l with
  | nil => rfl
  | cons r l ih =>
    have e : egs (r :: l) = eg2 r ++ egs l := rfl
    rw [e, List.length_append, ih]
    simp [eg2]
    omega
/-- a slice of the call's own that has a block -/
theorem own_block {w : World} {base : Nat} {v : Value} {l : List Eg} (h : EOwn w base v l) {g : Nat} (hg : v.ownBlock = some g) :
    ∃ cap, v = .slice (some ⟨g, 0, none⟩) l.length cap ∧ base ≤ g ∧ g < w.heap.size ∧ (∀ j u, (l.flatMap Eg.cs)[j]? = some u → w.cell? ⟨g, j, none⟩ = some u) ∧ ∀ j, w.frozen? ⟨g, j, none⟩ = false := by
  have hc := World.ownsRow.cells h hg
  have hb := SOwn.block h hg
  rcases h.2 with ⟨rfl, _⟩ | ⟨g', cap, cur, rfl, _, hbl, _⟩
  · cases hg
  · obtain rfl : g' = g := Option.some.inj hg
    have e : ∀ i, (⟨g', 0, none⟩ : Addr).add i = ⟨g', i, none⟩ := fun i => by unfold Addr.add; split <;> simp_all
    exact ⟨cap, rfl, hb.1, hb.2, fun j u hj => by have := hc j u hj; rwa [e] at this, fun j => frozen_of_row _ _ _ _ _ hbl⟩
theorem ret_sl {a : Option Addr} {n m c : Nat} (h : n = m) : Ending.returned (.slice a n c) = .returned (.slice a m c) := by rw [h]
def EdgesQ (l : List Bx) (w : World) (e : Ending) (w' : World) : Prop :=
  ∃ (g cap : Nat) (es : List Eg), e = .returned (.slice (some ⟨g, 0, none⟩) es.length cap) ∧ es.Perm (egs l) ∧ Sorted es ∧ SRow 4 Eg.cs w' (some ⟨g, 0, none⟩) es ∧ w.heap.size ≤ g ∧ g < w'.heap.size ∧ Below w.heap.size w w'
set_option maxHeartbeats 2000000 in
set_option maxRecDepth 100000 in
theorem edges_any (AL : Option Addr) (l : List Bx) (cl : Nat) (hn : l.length ≤ 1000000) (w : World) (hr : BRow w AL l) :
    Calls Tryd.prog 43 #[.slice AL l.length cl] w (EdgesQ l w) := by
  have HR := Lib.hid hr
  have HS := Lib.hid (fun k (hk : k < l.length) => egs_take l hk)
  have HL : Hid (∀ k, k ≤ l.length → (egs (l.take k)).length ≤ 2000000) := fun k hk => by rw [egs_len, List.length_take]; omega
  obtain ⟨i, hi, hz, hsize, hby⟩ := info_parts info_edge
  obtain ⟨w0, hmk, hown, hgr⟩ := run_make_own (P := Tryd.prog) w w.heap.size 76 80 i _ 4 Tryd.underlying76 hi hz hsize .i64 .i64 (2 * l.length) (by rw [hby]; omega) (by unfold maxLen; omega) (Nat.le_refl _)
  have hB0 : Hid (Below w.heap.size w w0) := (Below.refl _ _).grown hgr (Nat.le_refl _) (by intro k hk; cases hk)
  have hO0 : Hid (EOwn w0 w.heap.size (.slice (some ⟨w.heap.size, 0, none⟩) 0 (2 * l.length)) (egs (l.take 0))) := by
    show SOwn _ _ _ _ _ _ _
    simpa [SOwn, egs] using hown
  clear hr hown hgr hi hz hsize hby
  obtain ⟨m, hm⟩ : ∃ m, 2 * l.length = m := ⟨_, rfl⟩
  have hm2 : (2 : Int) * (l.length : Int) = (m : Nat) := by omega
  have hm3 : m ≤ 2000000 := by omega
  rw [hm] at hmk hO0
  clear hm
  go_enter Tryd.func43, Tryd.ntmps43
  go_wp2_with (fail)
  clear hmk
  go_loopw [3, 12] (fun v i wr => ∃ k : Nat, k ≤ l.length ∧ i = .int .i64 k ∧ Hid (EOwn wr w.heap.size v (egs (l.take k))) ∧ Hid (Below w.heap.size w wr) ∧ Hid (∃ g, v.ownBlock = some g)) (fun _ i _ => l.length - (intOf i).toNat)
  case atStart => exact ⟨0, Nat.zero_le _, rfl, hO0.out, hB0.out, _, rfl⟩
  case round =>
    obtain ⟨k, hk, rfl, HO, HB, HG⟩ := hrel
    by_cases hlt : k < l.length
    · have t : decide (k < l.length) = true := by simpa using hlt
      obtain ⟨g, off, rA, q0, q1, q2, q3⟩ := BRow.at_ (HR.out.below HB.out) hlt
      subst rA
      have HSK := Lib.hid (HS.out k hlt)
      have HLK := Lib.hid (HL.out k hk)
      generalize l[k] = r at *
      obtain ⟨ra, rb, rc, rd⟩ := r
      simp only at q0 q1 q2 q3 HSK
      have hg : g < wr.heap.size := World.block_lt_of_cell? wr ⟨g, _, none⟩ q0
      obtain ⟨pk1, hpk1⟩ : ∃ x, egs (l.take (k + 1)) = x := ⟨_, rfl⟩
      have HPK := Lib.hid hpk1
      rw [hpk1] at HSK
      clear hpk1
      generalize egs (l.take k) = pk at *
      obtain ⟨w2, hw2⟩ : ∃ w2, w2 = (wr.alloc (.cells #[.int .i64 ra, .int .i64 rb, .int .i64 rc, .int .i64 rd] 30)) := ⟨_, rfl⟩
      have HB2 : Hid (Below w.heap.size w w2) := by rw [hw2]; exact HB.out.alloc HB.out.size _
      have HO2 : Hid (EOwn w2 w.heap.size u3 pk) := by rw [hw2]; exact SOwn.below HO.out ((Below.refl _ _).alloc (Nat.le_refl _) _)
      have hz2 : w2.heap.size = wr.heap.size + 1 := by rw [hw2]; simp
      obtain ⟨v', w7, hrun, own7, hgr, hat⟩ := app_eg (c := 2) (HO2.out.below ((Below.refl _ _).alloc (Nat.le_refl _) (.cells ([(⟨rb, ra, rc, 1⟩ : Eg), ⟨rd, ra, rc, -1⟩].flatMap Eg.cs).toArray 80))) (xs := [⟨rb, ra, rc, 1⟩, ⟨rd, ra, rc, -1⟩]) (g := w2.heap.size) (o := 0)
        (fun _ => srow_new (enc := Eg.cs) ecs_len w2 _ _ rfl) (by have := HLK.out; simp; omega) (by have := HB2.out.size; simp; omega)
      have HB7 : Hid (Below w.heap.size w w7) := (HB2.out.alloc HB2.out.size _).grown hgr (by have := HB2.out.size; simp; omega) (fun j hj => (HO2.out.block hj).1)
      have HO7 : Hid (EOwn w7 w.heap.size v' pk1) := by rw [HSK.out]; exact own7
      have HG7 : Hid (∃ g, v'.ownBlock = some g) := by
        rcases hat with h | h
        · rw [h]; exact HG.out
        · exact ⟨_, h⟩
      rw [hz2, hw2] at hrun
      clear own7 hgr hat HB2 HO2 hz2 hw2 HG HB HO HL HS
      go_wp2_with (at_builtin; refine wpl_append rfl _ _ 76 76 76 rfl rfl _ _ _ _ rfl rfl hrun ?_)
      clear hrun
      go_roundw
      case rel => exact ⟨k + 1, by omega, by go_num, by rw [HPK.out]; exact HO7, HB7, HG7⟩
      case measure => simp [intOf]; omega
    · obtain rfl : k = l.length := by omega
      have t : decide (l.length < l.length) = false := by simp
      have hO := HO.out
      rw [List.take_length] at hO
      obtain ⟨g, hg⟩ := HG.out
      obtain ⟨cap, rfl, hbg, hgw, hc, hf⟩ := own_block hO hg
      have HC := Lib.hid (sort_any g cap (egs l) wr hc hf hgw (by rw [egs_len]; omega))
      have HBG := Lib.hid hbg
      clear hO hg hbg hgw hc hf HO HG HL HS
      go_wp2_with (fail)
      refine HC.out.mono ?_
      rintro e w2 ⟨rfl, es, hp, hs, hrow, hgi, ho⟩
      have hb2 : Hid (Below w.heap.size w w2) := HB.out.trans (ho.to_below HB.out.size (by intro x hx; simp at hx; rw [hx]; exact HBG.out))
      have hlen : Hid ((egs l).length = es.length) := hp.length_eq.symm
      have HQ := Lib.hid (And.intro hp (And.intro hs (And.intro hrow (And.intro HBG.out (And.intro hgi hb2.out)))))
      clear hp hs hrow hgi ho HC
      go_wp2_with (fail)
      go_ret
      exact ⟨g, cap, es, ret_sl hlen.out, HQ.out⟩
end Go.Proofs.YtboelbmpcbeifaaDoor
