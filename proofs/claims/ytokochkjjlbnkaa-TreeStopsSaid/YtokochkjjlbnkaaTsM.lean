/-
  Layer 12: Clone of a tree.
-/
import Derived.Test.YtokochkjjlbnkaaTsL
namespace Go.Proofs.Ytokochkjjlbnkaa
open Go.RowKit trm itr

/-- a row, while one of its pointers is told -/
structure FillJ (ar j : Nat) (l : List (Option Nat)) (o : Option Nat) (b : Bool) (w : World) : Prop where
  no : b = false → BlkT w ar (l.map ptrTo) tPtr
  yes : b = true → BlkT w ar ((l.set j o).map ptrTo) tPtr
section
variable {w : World} {b : Nat} {s : Sh} {t : T}
/-- what is done already of a walk through the map: the nodes themselves -/
abbrev doneH (t : T) (left : Lit → Bool) : Int → Prop := fun i => has t i = true ∧ left (.int .i64 i) = false
def doneP (t : T) (left : Lit → Bool) : Int → Option Int := fun i => if i ≠ 0 ∧ left (.int .i64 (par t i)) = false then some (par t i) else none
def doneK (t : T) (left : Lit → Bool) : Int → List Int := fun i => if left (.int .i64 i) = false then kids t i else []
theorem left_step (left : Lit → Bool) (x i : Int) : (left (.int .i64 i) && !(Lit.int IntKind.i64 i).sameKey (.int .i64 x)) = false ↔ (i = x ∨ left (.int .i64 i) = false) := by
  have : (Lit.int IntKind.i64 i).sameKey (.int .i64 x) = decide (i = x) := by
    simp only [Lit.sameKey]
    exact Bool.eq_iff_iff.2 (by simp)
  rw [this]
  by_cases e : i = x
  · simp [e]
  · simp [e]
theorem done_step {left : Lit → Bool} {x : Int} (hx : has t x = true) (i : Int) : doneH t (fun z => left z && !z.sameKey (.int .i64 x)) i ↔ (i = x ∨ doneH t left i) := by
  show (_ ∧ (left (.int .i64 i) && !(Lit.int IntKind.i64 i).sameKey (.int .i64 x)) = false) ↔ _
  rw [left_step]
  constructor
  · rintro ⟨h1, h2 | h2⟩
    · exact .inl h2
    · exact .inr ⟨h1, h2⟩
  · rintro (h1 | h1)
    · exact ⟨h1 ▸ hx, .inl h1⟩
    · exact ⟨h1.1, .inr h1.2⟩
def CloneQ (t : T) (w : World) (e : Ending) (w' : World) : Prop := ∃ b' s', e = .returned (.pointer (some ⟨b', 0, none⟩)) ∧ TreeAt w' b' s' t ∧ (∀ k, FootT b' s' t k → w.heap.size ≤ k) ∧ Below w.heap.size w w'
set_option maxRecDepth 100000 in
set_option maxHeartbeats 4000000 in
theorem tclone (h : TreeAt w b s t) (hn : t.length ≤ 1000) :
    Calls Try.prog 20 #[.pointer (some ⟨b, 0, none⟩)] w (CloneQ t w) := by
  unfold CloneQ
  obtain ⟨c0, bi⟩ := h.raw.top
  have hlen := fun ty => h.maplen ty
  have hmm := fun (n : Int) w => make_map w (some (.int .i64 n)) (.inr ⟨n, rfl⟩)
  obtain ⟨es, hm, hlk⟩ := h.raw.map
  have HM := Lib.hid (And.intro hm hlk)
  have HT := Lib.hid h
  have HN := Lib.hid hn
  have HES : Hid (es.length = t.length + 1) := es_len hm.rises h.ok hlk
  have HC0 := Lib.hid c0
  have HBI := Lib.hid bi
  obtain ⟨w1, hw1⟩ : ∃ w1, w1 = (w.alloc (.map #[] 0)).alloc (.cells #[.map (some w.heap.size)] tTree) := ⟨_, rfl⟩
  have hb1 : Below w.heap.size w w1 := by rw [hw1]; exact ((Below.refl _ w).alloc (Nat.le_refl _) _).alloc (by simp) _
  have hs1 : w1.heap.size = w.heap.size + 2 := by rw [hw1]; simp
  have hraw1 : Raw w1 (w.heap.size + 1) ⟨w.heap.size, fun _ => 0, fun _ => .slice none 0 0⟩ (fun _ => False) (fun _ => none) (fun _ => []) := by
    refine ⟨?_, ⟨[], ?_, fun i g => by simp [omap.look_nil]⟩, fun _ h => h.elim, fun _ _ h => h.elim, fun _ _ _ h => h.elim⟩
    · have := BlkT.new (w.alloc (.map #[] 0)) [.map (some w.heap.size)] tTree
      rw [World.size_alloc, ← hw1] at this
      exact this
    · exact (mapAt_made w).stays (by rw [hw1]; exact Below.heap_alloc _ _ _ (by simp))
  have HW1 := Lib.hid hw1
  have HB1 := Lib.hid hb1
  have HS1 := Lib.hid hs1
  have HR1 := Lib.hid hraw1
  have c1 := (hb1.cell (p := ⟨b, 0, none⟩) bi).trans c0
  have bi1 := Nat.lt_of_lt_of_le bi hb1.size
  clear h hn hm hlk hb1 hs1 hraw1
  generalize t.length + 1 = n1 at *
  go_enter Try.func20, Try.ntmps20
  rw [hw1] at c1 bi1
  clear hw1
  go_wp2_with (at_range; refine wpList_range_own _ rfl _ 85 rfl 3 81 keyedI Try.underlying85 ptrElem s.m es.length (mapOf es) rfl ?_ ?_; exact (by rw [← HW1.out]; exact (HM.out.1.stays (HB1.out.block _ HM.out.1.inside)).own); intro w2 hrg2 hg2 hs2)
  go_frame
  rw [← HW1.out] at hrg2 hg2 hs2 ⊢
  have hwm : s.m < w.heap.size := HM.out.1.inside
  obtain ⟨r1, hr1⟩ : ∃ r1, w1.heap.size = r1 := ⟨_, rfl⟩
  rw [hr1] at hrg2 hs2 HS1 ⊢
  have hb2 : Below w1.heap.size w1 w2 := ⟨hg2.os, hg2.tape, hg2.output, hg2.size, fun k hk => hg2.block k hk (by simp)⟩
  have HB2 : Hid (Below w.heap.size w w2) := HB1.out.trans (hb2.mono HB1.out.size)
  have HR2 : Hid (Raw w2 (w.heap.size + 1) ⟨w.heap.size, fun _ => 0, fun _ => .slice none 0 0⟩ (fun _ => False) (fun _ => none) (fun _ => [])) := HR1.out.below hb2
  have HRG2 := Lib.hid hrg2
  have HWM := Lib.hid hwm
  clear hrg2 hg2 hs2 hb2 HR1 HB1 HW1 hr1 hwm hlen bi1 c1
  go_loopw [] (fun wr => ∃ (left : Lit → Bool) (cnt : Nat) (sc : Sh), Hid (wr.ranges Try.prog 3 ptrElem s.m r1 es.length (mapOf es) left cnt) ∧ Hid (Below w.heap.size w wr) ∧ Hid (Raw wr (w.heap.size + 1) sc (doneH t left) (fun _ => none) (fun _ => [])) ∧ Hid (sc.m = w.heap.size ∧ ∀ k, Foot (w.heap.size + 1) sc (doneH t left) k → w.heap.size ≤ k ∧ k ≠ r1)) (fun wr => wr.rangeLeft s.m r1)
  case atStart =>
    have hno : ∀ i, ¬ doneH t (Maps.has (mapOf es)) i := fun i hi => by
      have := has_map ((HM.out.2 i (s.g i)).2 ⟨hi.1, rfl⟩)
      have hf := hi.2
      rw [this] at hf
      cases hf
    refine ⟨_, _, ⟨w.heap.size, fun _ => 0, fun _ => .slice none 0 0⟩, HRG2.out, HB2.out, HR2.out.like (fun i => ⟨fun h => hno i h, fun h => h.elim⟩) (fun _ h => h.elim) (fun _ h => h.elim), rfl, ?_⟩
    have := HS1.out
    rintro k (e | e | ⟨i, hi, _⟩)
    · rw [e]; omega
    · rw [e]; simp only; omega
    · exact absurd hi (hno i)
  case round =>
    obtain ⟨left, cnt, sc, hrg, hbw, hraw, hfo⟩ := hrel
    go_wp2_with (at_next; refine wpList_next_ranges _ rfl _ rfl 3 keyedI ptrElem (Value.int .i64) ptrTo (fun key kl hk => by obtain ⟨x, hx, _⟩ := Maps.keyOf_int_inv Try.underlying3 hk; exact ⟨x, hx⟩) (fun v y hv => ptrTo_of hv) s.m r1 es.length (mapOf es) left cnt rfl hrg.out ?_ ?_)
    · intro _ hl0
      have HRA : Hid (Raw wr (w.heap.size + 1) sc (hasP t) (fun _ => none) (fun _ => [])) := hraw.out.like (fun i => ⟨fun h => ⟨h, hl0 _⟩, fun h => h.1⟩) (fun _ _ => rfl) (fun _ _ => rfl)
      have HFO : Hid (sc.m = w.heap.size ∧ ∀ k, FootT (w.heap.size + 1) sc t k → w.heap.size ≤ k ∧ k ≠ r1) := ⟨hfo.out.1, fun k hk => hfo.out.2 k (by
        rcases hk with e | e | ⟨i, hi, e⟩
        · exact .inl e
        · exact .inr (.inl e)
        · exact .inr (.inr ⟨i, ⟨hi, hl0 _⟩, e⟩))⟩
      have c1 := (hbw.out.cell HBI.out).trans HC0.out
      have bi1 := Nat.lt_of_lt_of_le HBI.out hbw.out.size
      clear hl0 hraw hfo hrg
      go_wp2_with (at_range; refine wpList_range_own _ rfl _ 85 rfl 3 81 keyedI Try.underlying85 ptrElem s.m es.length (mapOf es) rfl ?_ ?_; exact (HM.out.1.stays (hbw.out.block _ HM.out.1.inside)).own; intro w3 hrg3 hg3 hs3)
      go_frame
      obtain ⟨r2, hr2⟩ : ∃ r2, wr.heap.size = r2 := ⟨_, rfl⟩
      have hin2 : ∀ k, FootT (w.heap.size + 1) sc t k → k < r2 := fun k hk => hr2 ▸ HRA.out.inside k hk
      have hb3 : Below wr.heap.size wr w3 := ⟨hg3.os, hg3.tape, hg3.output, hg3.size, fun k hk => hg3.block k hk (by simp)⟩
      have HB3 : Hid (Below w.heap.size w w3) := hbw.out.trans (hb3.mono hbw.out.size)
      have HR3 := Lib.hid (HRA.out.below hb3)
      have HF3 : Hid (sc.m = w.heap.size ∧ ∀ k, FootT (w.heap.size + 1) sc t k → w.heap.size ≤ k ∧ k ≠ r2) := ⟨HFO.out.1, fun k hk => ⟨(HFO.out.2 k hk).1, fun e => by have := hin2 k hk; omega⟩⟩
      have HRW2 : Hid (w.heap.size ≤ r2) := hr2 ▸ hbw.out.size
      rw [hr2] at hrg3 hs3 ⊢
      have HRG3 := Lib.hid hrg3
      clear hrg3 hg3 hs3 hb3 hin2 hr2 HRA HFO hbw c1 bi1
      rename_i wold
      go_loopw [] (fun wr => ∃ (left : Lit → Bool) (cnt : Nat) (sc : Sh), Hid (wr.ranges Try.prog 3 ptrElem s.m r2 es.length (mapOf es) left cnt) ∧ Hid (Below w.heap.size w wr) ∧ Hid (Raw wr (w.heap.size + 1) sc (hasP t) (doneP t left) (doneK t left)) ∧ Hid (sc.m = w.heap.size ∧ ∀ k, FootT (w.heap.size + 1) sc t k → w.heap.size ≤ k ∧ k ≠ r2)) (fun wr => wr.rangeLeft s.m r2)
      case atStart =>
        have hyes : ∀ i, has t i = true → Maps.has (mapOf es) (.int .i64 i) = true := fun i hi => has_map ((HM.out.2 i (s.g i)).2 ⟨hi, rfl⟩)
        refine ⟨_, _, sc, HRG3.out, HB3.out, HR3.out.like (fun _ => Iff.rfl) (fun i hi => ?_) (fun i hi => ?_), HF3.out⟩
        · unfold doneP
          refine if_neg fun e => ?_
          have := hyes (par t i) (has_iff.2 (HT.out.ok.par_ok ((has_iff.1 hi).resolve_left e.1)))
          rw [this] at e
          exact absurd e.2 (by simp)
        · unfold doneK
          rw [if_neg (by rw [hyes i hi]; simp)]
      case round =>
        obtain ⟨left, cnt, sq, hrg, hbw, hraw, hfo⟩ := hrel
        go_wp2_with (at_next; refine wpList_next_ranges _ rfl _ rfl 3 keyedI ptrElem (Value.int .i64) ptrTo (fun key kl hk => by obtain ⟨x, hx, _⟩ := Maps.keyOf_int_inv Try.underlying3 hk; exact ⟨x, hx⟩) (fun v y hv => ptrTo_of hv) s.m r2 es.length (mapOf es) left cnt rfl hrg.out ?_ ?_)
        · intro _ hl0
          have HRZ : Hid (RawT wr (w.heap.size + 1) sq t) := hraw.out.like (fun _ => Iff.rfl) (fun i hi => by
            unfold upT doneP
            by_cases e : i = 0
            · simp [e]
            · rw [if_neg e, if_pos ⟨e, hl0 _⟩]) (fun i _ => by
            unfold doneK
            rw [if_pos (hl0 _)])
          clear hl0 hraw hrg
          go_wp2_with (fail)
          go_ret
          exact ⟨_, sq, rfl, ⟨HRZ.out, HT.out.ok⟩, fun k hk => (hfo.out.2 k hk).1, hbw.out⟩
        · intro x c kl yd yp w4 cnt1 hkey hlk hv hat hrg1 hlt hg1 hs1 hen
          obtain ⟨rfl, hx64, g, rfl, hlb⟩ := came hkey hv hat
          obtain ⟨hx, rfl⟩ := (HM.out.2 x g).1 hlb
          simp only [ptrTo] at hen ⊢
          have hsame : ∀ k, k < wr.heap.size → k ≠ r2 → w4.heap[k]? = wr.heap[k]? := fun k h1 h2 => hg1.block k h1 (fun e1 => h2 (Option.some.inj e1))
          have hb4 : Below w.heap.size w w4 := hbw.out.trans ⟨hg1.os, hg1.tape, hg1.output, hg1.size, fun k hk => hsame k (by have := hbw.out.size; omega) (by have := HRW2.out; omega)⟩
          have hraw4 : Raw w4 (w.heap.size + 1) sq (hasP t) (doneP t left) (doneK t left) := hraw.out.stays fun k hk => hsame k (hraw.out.inside k hk) (hfo.out.2 k hk).2
          have hlk2 := hraw4.look_some hx64 hx
          rw [hfo.out.1] at hlk2
          have ctop := hraw4.top
          rw [hfo.out.1] at ctop
          obtain ⟨ct1, ct2⟩ := ctop
          obtain ⟨⟨q0, q1, q2⟩, ⟨f0, f1, f2⟩, qi⟩ := hraw4.cells (i := x) hx
          obtain ⟨⟨-, -, n2⟩, -, ni⟩ := (HT.out.below hb4).raw.cells (i := x) hx
          obtain ⟨A1, k1, hv1, -, -, hat1⟩ := (HT.out.raw.node x hx).own.at_
          rw [ks_len] at hv1
          rw [hv1] at n2
          have hkl : (kids t x).length ≤ 1000 := by have := kids_le t x; have := HN.out; omega
          have hmk := fun w => make_ptrs w (kids t x).length (by omega)
          obtain ⟨w5, hw5⟩ : ∃ w5, w5 = (w4.setCell ⟨sq.g x, 2, none⟩ (.slice (some ⟨w4.heap.size, 0, none⟩) (kids t x).length (kids t x).length)).alloc (.cells (List.replicate (kids t x).length (Value.pointer none)).toArray tPtr) := ⟨_, rfl⟩
          have hrx5 : RawX w5 (w.heap.size + 1) sq (hasP t) (doneP t left) (doneK t left) x w4.heap.size (List.replicate (kids t x).length none) := by rw [hw5]; exact hraw4.open2 hx _
          have HKK : Hid (∀ W, Below w.heap.size w W → ∀ j (hj : j < (kids t x).length), ∃ g, A1 = some ⟨g, 0, none⟩ ∧ W.cell? ⟨g, j, none⟩ = some (.pointer (some ⟨s.g (kids t x)[j], 0, none⟩))) := fun W hb j hj => by
            obtain ⟨g, e, -, hc⟩ := hat1 j (by rw [ks_len]; exact hj)
            rw [ks_get] at hc
            exact ⟨g, e, (hb.cell (World.block_lt_of_cell? w ⟨g, j, none⟩ hc)).trans hc⟩
          have hgx : w.heap.size ≤ sq.g x ∧ sq.g x ≠ r2 := hfo.out.2 _ (.inr (.inr ⟨x, hx, .inl rfl⟩))
          have hb5 : Below w.heap.size w w5 := by
            rw [hw5]
            exact (hb4.setCell (p := ⟨sq.g x, 2, none⟩) hgx.1 _).alloc (by simpa [World.setCell] using hb4.size) _
          have hsm := HWM.out
          have HRG5 : Hid (w5.ranges Try.prog 3 ptrElem s.m r2 es.length (mapOf es) (fun z => left z && !z.sameKey (.int .i64 x)) cnt1) := by
            show World.ranges _ _ _ _ _ _ _ _ _ _
            rw [hw5]
            exact (hrg1.kept (setCell_grown w4 ⟨sq.g x, 2, none⟩ _) (fun e => by have e2 : s.m = sq.g x := Option.some.inj e; have := hgx.1; omega) (fun e => hgx.2 (Option.some.inj e).symm)).alloc _
          have hme : cnt1 < wr.rangeLeft s.m r2 := by rw [hrg.out.left_eq]; exact hlt
          have HME := Lib.hid hme
          have HB5 := Lib.hid hb5
          have HX5 := Lib.hid hrx5
          have n25 := (hb5.cell (p := ⟨s.g x, 2, none⟩) (HT.out.raw.node x hx).blk.inside).trans ((HT.out.raw.cells (i := x) hx).1.2.2.trans (by rw [hv1]))
          have ni5 := Nat.lt_of_lt_of_le (HT.out.raw.node x hx).blk.inside hb5.size
          have HX := Lib.hid hx
          have HAR : Hid (w.heap.size ≤ w4.heap.size ∧ r2 < w4.heap.size) := ⟨hb4.size, hrg1.lt⟩
          have HFO := Lib.hid hfo.out
          have HEN := Lib.hid hen
          have HKN := Lib.hid hkl
          have HW5 := Lib.hid hw5
          clear hkey hlk hv hat hrg1 hlt hg1 hs1 hlb hx64 hsame hb4 hraw4 hat1 hgx hb5 hsm hme hrx5 hw5 hrg hbw hraw hfo hv1 hx
          go_upto_region 11 with (fail)
          rw [show (w4.setCell ⟨sq.g x, 2, none⟩ (.slice (some ⟨w4.heap.size, 0, none⟩) (kids t x).length (kids t x).length)).alloc (.cells (Array.replicate (kids t x).length (Value.pointer none)) tPtr) = w5 from (by rw [HW5.out]; simp only [List.toArray_replicate])]
          clear hlk2 ct1 ct2 q0 q1 q2 f0 f1 f2 qi n2 ni
          generalize w4.heap.size = ar at *
          go_wp2_with (fail)
          go_loopw [65] (fun v wr => ∃ j : Nat, j ≤ (kids t x).length ∧ v = .int .i64 (j : Nat) ∧ Hid (wr.ranges Try.prog 3 ptrElem s.m r2 es.length (mapOf es) (fun z => left z && !z.sameKey (.int .i64 x)) cnt1) ∧ Hid (Below w.heap.size w wr) ∧
            Hid (RawX wr (w.heap.size + 1) sq (hasP t) (fun i => if i ∈ (kids t x).take j then some x else doneP t left i) (doneK t left) x ar (fillZ none (ks sq (kids t x)) j))) (fun v _ => (kids t x).length - (intOf v).toNat)
          case atStart =>
            refine ⟨0, Nat.zero_le _, rfl, HRG5, HB5, ?_⟩
            show RawX _ _ _ _ _ _ _ _ _
            rw [fillZ_zero, ks_len]
            have : (fun i => if i ∈ (kids t x).take 0 then some x else doneP t left i) = doneP t left := by funext i; simp
            rw [this]
            exact HX5.out
          case round =>
            obtain ⟨j, hj, rfl, hrg, hbw, hrx⟩ := hrel
            by_cases hlt : j < (kids t x).length
            · have t1 : decide (j < (kids t x).length) = true := by simpa using hlt
              obtain ⟨y, hy⟩ : ∃ y, (kids t x)[j] = y := ⟨_, rfl⟩
              have hyk : y ∈ kids t x := by rw [← hy]; exact List.getElem_mem hlt
              have hyt : has t y = true := has_iff.2 (.inr (HT.out.ok.kid hyk).1)
              have hyx : y ≠ x := fun e => by
                have := depth_kid HT.out.ok hyk
                rw [e] at this
                omega
              obtain ⟨g1, rA, k1⟩ := HKK.out _ hbw.out j hlt
              rw [hy] at k1
              have hy64 : I64 y := by
                obtain ⟨p, hp⟩ := mem_ids.1 (HT.out.ok.kid hyk).1
                have := HT.out.ok.rng _ hp
                simp only at this
                constructor <;> omega
              have hmap := hrx.out.map
              have hbn := ((HT.out.below hbw.out).raw.node y hyt).blk
              have hne : ∀ k cs T, BlkT wr k cs T → T ≠ tPtr → k ≠ ar := fun k cs T hk hT e => by
                rw [e] at hk
                have := hk.symm.trans hrx.out.row
                simp only [Option.some.injEq, Obj.cells.injEq] at this
                exact hT this.2.1
              have hrl : (fillZ none (ks sq (kids t x)) j).length = (kids t x).length := by rw [fillZ_len _ _ (by rw [ks_len]; exact hj), ks_len]
              have FC : Hid (∀ W', TurnP (OneB (some ar)) (OneB (some ar)) wr W' → (W'.cell? ⟨sq.g x, 2, none⟩ = some (.slice (some ⟨ar, 0, none⟩) (kids t x).length (kids t x).length) ∧ sq.g x < W'.heap.size) ∧ (W'.cell? ⟨w.heap.size + 1, 0, none⟩ = some (.map (some w.heap.size)) ∧ w.heap.size + 1 < W'.heap.size) ∧
                  (W'.cell? ⟨s.g y, 0, none⟩ = some (.int .i64 y) ∧ s.g y < W'.heap.size) ∧ (Instr.lookup 85 (.map (some w.heap.size)) (.int .i64 y) false).run Try.prog W' = .ok (.pointer (some ⟨sq.g y, 0, none⟩)) W') := fun W' ht => by
                have hk : ∀ k cs T, BlkT wr k cs T → T ≠ tPtr → BlkT W' k cs T := fun k cs T hb' hT => hb'.stays (ht.far k hb'.inside fun e => hne k cs T hb' hT (Option.some.inj e).symm).2
                have q1 := hk _ _ _ hrx.out.hole (by decide)
                have q2 := hk _ _ _ hrx.out.blk (by decide)
                have q3 := hk _ _ _ hbn (by decide)
                rw [hrl] at q1
                rw [HFO.out.1] at q2
                refine ⟨⟨q1.blk.cell 2, q1.inside⟩, ⟨q2.blk.cell 0, q2.inside⟩, ⟨q3.blk.cell 0, q3.inside⟩, ?_⟩
                obtain ⟨esc, hm', hl'⟩ := hmap
                rw [HFO.out.1] at hm'
                have hm2 : MapAt W' w.heap.size esc := hm'.stays (ht.far _ hm'.inside fun e => by
                  have e2 : ar = w.heap.size := Option.some.inj e
                  exact hm'.not_blk (by rw [← e2]; exact hrx.out.row)).2
                rw [hm2.lookup hy64, (hl' y (sq.g y)).2 ⟨hyt, rfl⟩]
                rfl
              have HRX := Lib.hid hrx.out
              have HRL := Lib.hid hrl
              have HYY := Lib.hid (And.intro hyk (And.intro hyt (And.intro hyx hy)))
              have HLT := Lib.hid hlt
              have HRB : Hid (BlkT wr.drew ar ((fillZ none (ks sq (kids t x)) j).map ptrTo) tPtr) := hrx.out.row.stays rfl
              subst rA
              have hjb : ((j : Nat) : Int) ≤ 100000 := by have := HKN.out; omega
              clear hyk hyt hyx hy64 hmap hbn hne hrl hrx hy
              go_wp2_with (fail)
              refine regs.wp_region_put (TurnP (OneB (some ar)) (OneB (some ar))) (fun L wx => FillJ ar j (fillZ none (ks sq (kids t x)) j) (some (sq.g y)) (L 15) wx) [70, 71, 72, 73, 74, 75, 76, 77, 78, 79, 80, 81, 82, 83, 84] (by kernel_rfl) (by kernel_rfl) (fun _ => TurnP.refl _ _) (fun _ _ _ h k => h.trans k) (fun i => (match i with
                | 0 => regs.Say.val _ (.pointer (some ⟨sq.g x, 0, none⟩))
                | 1 => regs.Say.val _ (.pointer (some ⟨sq.g x, 0, none⟩))
                | 2 => regs.Say.val _ (.pointer (some ⟨sq.g x, 2, none⟩))
                | 3 => regs.Say.val _ (.slice (some ⟨ar, 0, none⟩) (kids t x).length (kids t x).length)
                | 4 => regs.Say.val _ (.int .i64 (j : Nat))
                | 5 => regs.Say.val _ (.pointer (some ⟨w.heap.size + 1, 0, none⟩))
                | 6 => regs.Say.val _ (.pointer (some ⟨w.heap.size + 1, 0, none⟩))
                | 7 => regs.Say.val _ (.pointer (some ⟨w.heap.size + 1, 0, none⟩))
                | 8 => regs.Say.val _ (.map (some w.heap.size))
                | 9 => regs.Say.val _ (.pointer (some ⟨s.g y, 0, none⟩))
                | 10 => regs.Say.val _ (.pointer (some ⟨s.g y, 0, none⟩))
                | 11 => regs.Say.val _ (.pointer (some ⟨s.g y, 0, none⟩))
                | 12 => regs.Say.val _ (.int .i64 y)
                | 13 => regs.Say.val _ (.pointer (some ⟨sq.g y, 0, none⟩))
                | 14 => regs.Say.val _ (.pointer (some ⟨ar, j, none⟩))
                | 15 => regs.Say.any _
                | _ => regs.Say.any _ : regs.Say (TurnP (OneB (some ar)) (OneB (some ar)))).p) (fun _ => regs.Say.mono _) (by kernel_rfl) (TurnP.below ((Below.refl _ _).drew)) (⟨fun _ => HRB.out, fun e => (nomatch e)⟩) ⟨?_, ?_, ?_, ?_, ?_, ?_, ?_, ?_, ?_, ?_, ?_, ?_, ?_, ?_, ?_, ?_, trivial⟩ ?_
              · refine regs.StepOK.plain rfl fun L a w1 hh => ?_
                have h7 : a.tmps[7]?.getD undef = .pointer (some ⟨sq.g x, 0, none⟩) := by rw [← Array.getD_eq_getD_getElem?]; exact hh.old 7 rfl
                obtain ⟨⟨f1, f2⟩, ⟨f3, f4⟩, ⟨f5, f6⟩, f7⟩ := FC.out _ hh.rel
                have hlt := HLT.out
                have hJ := Lib.hid hh.st
                clear hh
                go_simp
                exact ⟨_, rfl, TurnP.refl _ _, rfl, hJ.out⟩
              · refine regs.StepOK.plain rfl fun L a w1 hh => ?_
                have h70 : a.tmps[70]?.getD undef = .pointer (some ⟨sq.g x, 0, none⟩) := by rw [← Array.getD_eq_getD_getElem?]; exact hh.dep 0 70 (by kernel_rfl) (by kernel_rfl)
                obtain ⟨⟨f1, f2⟩, ⟨f3, f4⟩, ⟨f5, f6⟩, f7⟩ := FC.out _ hh.rel
                have hlt := HLT.out
                have hJ := Lib.hid hh.st
                clear hh
                go_simp
                exact ⟨_, rfl, TurnP.refl _ _, rfl, hJ.out⟩
              · refine regs.StepOK.plain rfl fun L a w1 hh => ?_
                have h71 : a.tmps[71]?.getD undef = .pointer (some ⟨sq.g x, 0, none⟩) := by rw [← Array.getD_eq_getD_getElem?]; exact hh.dep 1 71 (by kernel_rfl) (by kernel_rfl)
                obtain ⟨⟨f1, f2⟩, ⟨f3, f4⟩, ⟨f5, f6⟩, f7⟩ := FC.out _ hh.rel
                have hlt := HLT.out
                have hJ := Lib.hid hh.st
                clear hh
                go_simp
                exact ⟨_, rfl, TurnP.refl _ _, rfl, hJ.out⟩
              · refine regs.StepOK.plain rfl fun L a w1 hh => ?_
                have h72 : a.tmps[72]?.getD undef = .pointer (some ⟨sq.g x, 2, none⟩) := by rw [← Array.getD_eq_getD_getElem?]; exact hh.dep 2 72 (by kernel_rfl) (by kernel_rfl)
                obtain ⟨⟨f1, f2⟩, ⟨f3, f4⟩, ⟨f5, f6⟩, f7⟩ := FC.out _ hh.rel
                have hlt := HLT.out
                have hJ := Lib.hid hh.st
                clear hh
                go_simp
                exact ⟨_, rfl, TurnP.refl _ _, rfl, hJ.out⟩
              · refine regs.StepOK.plain rfl fun L a w1 hh => ?_
                have h8 : a.tmps[8]?.getD undef = .int .i64 (j : Nat) := by rw [← Array.getD_eq_getD_getElem?]; exact hh.old 8 rfl
                obtain ⟨⟨f1, f2⟩, ⟨f3, f4⟩, ⟨f5, f6⟩, f7⟩ := FC.out _ hh.rel
                have hlt := HLT.out
                have hJ := Lib.hid hh.st
                clear hh
                go_simp
                exact ⟨_, rfl, TurnP.refl _ _, rfl, hJ.out⟩
              · refine regs.StepOK.plain rfl fun L a w1 hh => ?_
                have h3 : a.tmps[3]?.getD undef = .pointer (some ⟨w.heap.size + 1, 0, none⟩) := by rw [← Array.getD_eq_getD_getElem?]; exact hh.old 3 rfl
                obtain ⟨⟨f1, f2⟩, ⟨f3, f4⟩, ⟨f5, f6⟩, f7⟩ := FC.out _ hh.rel
                have hlt := HLT.out
                have hJ := Lib.hid hh.st
                clear hh
                go_simp
                exact ⟨_, rfl, TurnP.refl _ _, rfl, hJ.out⟩
              · refine regs.StepOK.plain rfl fun L a w1 hh => ?_
                have h75 : a.tmps[75]?.getD undef = .pointer (some ⟨w.heap.size + 1, 0, none⟩) := by rw [← Array.getD_eq_getD_getElem?]; exact hh.dep 5 75 (by kernel_rfl) (by kernel_rfl)
                obtain ⟨⟨f1, f2⟩, ⟨f3, f4⟩, ⟨f5, f6⟩, f7⟩ := FC.out _ hh.rel
                have hlt := HLT.out
                have hJ := Lib.hid hh.st
                clear hh
                go_simp
                exact ⟨_, rfl, TurnP.refl _ _, rfl, hJ.out⟩
              · refine regs.StepOK.plain rfl fun L a w1 hh => ?_
                have h76 : a.tmps[76]?.getD undef = .pointer (some ⟨w.heap.size + 1, 0, none⟩) := by rw [← Array.getD_eq_getD_getElem?]; exact hh.dep 6 76 (by kernel_rfl) (by kernel_rfl)
                obtain ⟨⟨f1, f2⟩, ⟨f3, f4⟩, ⟨f5, f6⟩, f7⟩ := FC.out _ hh.rel
                have hlt := HLT.out
                have hJ := Lib.hid hh.st
                clear hh
                go_simp
                exact ⟨_, rfl, TurnP.refl _ _, rfl, hJ.out⟩
              · refine regs.StepOK.plain rfl fun L a w1 hh => ?_
                have h77 : a.tmps[77]?.getD undef = .pointer (some ⟨w.heap.size + 1, 0, none⟩) := by rw [← Array.getD_eq_getD_getElem?]; exact hh.dep 7 77 (by kernel_rfl) (by kernel_rfl)
                obtain ⟨⟨f1, f2⟩, ⟨f3, f4⟩, ⟨f5, f6⟩, f7⟩ := FC.out _ hh.rel
                have hlt := HLT.out
                have hJ := Lib.hid hh.st
                clear hh
                go_simp
                exact ⟨_, rfl, TurnP.refl _ _, rfl, hJ.out⟩
              · refine regs.StepOK.plain rfl fun L a w1 hh => ?_
                have h9 : a.tmps[9]?.getD undef = .pointer (some ⟨s.g y, 0, none⟩) := by rw [← Array.getD_eq_getD_getElem?]; exact hh.old 9 rfl
                obtain ⟨⟨f1, f2⟩, ⟨f3, f4⟩, ⟨f5, f6⟩, f7⟩ := FC.out _ hh.rel
                have hlt := HLT.out
                have hJ := Lib.hid hh.st
                clear hh
                go_simp
                exact ⟨_, rfl, TurnP.refl _ _, rfl, hJ.out⟩
              · refine regs.StepOK.plain rfl fun L a w1 hh => ?_
                have h79 : a.tmps[79]?.getD undef = .pointer (some ⟨s.g y, 0, none⟩) := by rw [← Array.getD_eq_getD_getElem?]; exact hh.dep 9 79 (by kernel_rfl) (by kernel_rfl)
                obtain ⟨⟨f1, f2⟩, ⟨f3, f4⟩, ⟨f5, f6⟩, f7⟩ := FC.out _ hh.rel
                have hlt := HLT.out
                have hJ := Lib.hid hh.st
                clear hh
                go_simp
                exact ⟨_, rfl, TurnP.refl _ _, rfl, hJ.out⟩
              · refine regs.StepOK.plain rfl fun L a w1 hh => ?_
                have h80 : a.tmps[80]?.getD undef = .pointer (some ⟨s.g y, 0, none⟩) := by rw [← Array.getD_eq_getD_getElem?]; exact hh.dep 10 80 (by kernel_rfl) (by kernel_rfl)
                obtain ⟨⟨f1, f2⟩, ⟨f3, f4⟩, ⟨f5, f6⟩, f7⟩ := FC.out _ hh.rel
                have hlt := HLT.out
                have hJ := Lib.hid hh.st
                clear hh
                go_simp
                exact ⟨_, rfl, TurnP.refl _ _, rfl, hJ.out⟩
              · refine regs.StepOK.plain rfl fun L a w1 hh => ?_
                have h81 : a.tmps[81]?.getD undef = .pointer (some ⟨s.g y, 0, none⟩) := by rw [← Array.getD_eq_getD_getElem?]; exact hh.dep 11 81 (by kernel_rfl) (by kernel_rfl)
                obtain ⟨⟨f1, f2⟩, ⟨f3, f4⟩, ⟨f5, f6⟩, f7⟩ := FC.out _ hh.rel
                have hlt := HLT.out
                have hJ := Lib.hid hh.st
                clear hh
                go_simp
                exact ⟨_, rfl, TurnP.refl _ _, rfl, hJ.out⟩
              · refine regs.StepOK.plain rfl fun L a w1 hh => ?_
                have h78 : a.tmps[78]?.getD undef = .map (some w.heap.size) := by rw [← Array.getD_eq_getD_getElem?]; exact hh.dep 8 78 (by kernel_rfl) (by kernel_rfl)
                have h82 : a.tmps[82]?.getD undef = .int .i64 y := by rw [← Array.getD_eq_getD_getElem?]; exact hh.dep 12 82 (by kernel_rfl) (by kernel_rfl)
                obtain ⟨⟨f1, f2⟩, ⟨f3, f4⟩, ⟨f5, f6⟩, f7⟩ := FC.out _ hh.rel
                have hlt := HLT.out
                have hJ := Lib.hid hh.st
                clear hh
                go_simp
                exact ⟨_, rfl, TurnP.refl _ _, rfl, hJ.out⟩
              · refine regs.StepOK.plain rfl fun L a w1 hh => ?_
                have h73 : a.tmps[73]?.getD undef = .slice (some ⟨ar, 0, none⟩) (kids t x).length (kids t x).length := by rw [← Array.getD_eq_getD_getElem?]; exact hh.dep 3 73 (by kernel_rfl) (by kernel_rfl)
                have h74 : a.tmps[74]?.getD undef = .int .i64 (j : Nat) := by rw [← Array.getD_eq_getD_getElem?]; exact hh.dep 4 74 (by kernel_rfl) (by kernel_rfl)
                obtain ⟨⟨f1, f2⟩, ⟨f3, f4⟩, ⟨f5, f6⟩, f7⟩ := FC.out _ hh.rel
                have hlt := HLT.out
                have hJ := Lib.hid hh.st
                clear hh
                go_simp
                exact ⟨_, rfl, TurnP.refl _ _, rfl, hJ.out⟩
              · refine regs.StepOK.plain rfl fun L a w1 hh => ?_
                have h83 : a.tmps[83]?.getD undef = .pointer (some ⟨sq.g y, 0, none⟩) := by rw [← Array.getD_eq_getD_getElem?]; exact hh.dep 13 83 (by kernel_rfl) (by kernel_rfl)
                have h84 : a.tmps[84]?.getD undef = .pointer (some ⟨ar, j, none⟩) := by rw [← Array.getD_eq_getD_getElem?]; exact hh.dep 14 84 (by kernel_rfl) (by kernel_rfl)
                have hbr := hh.st.no hh.un
                have fr := hbr.blk.free j
                have hsz := hbr.inside
                have hjr : j < ((fillZ none (ks sq (kids t x)) j).map ptrTo).length := by rw [List.length_map, HRL.out]; exact HLT.out
                obtain ⟨o, ho⟩ : ∃ o, ((fillZ none (ks sq (kids t x)) j).map ptrTo)[j]? = some o := ⟨_, List.getElem?_eq_getElem hjr⟩
                have cc := (hbr.blk.cell j).trans ho
                have HP := Lib.hid (hbr.set j (.pointer (some ⟨sq.g y, 0, none⟩)))
                clear hh hbr hjr ho
                go_simp
                exact ⟨TurnP.set (S := OneB (some ar)) (a := ⟨ar, j, none⟩) rfl _, ⟨undef, trivial⟩, ⟨fun e => absurd e (by simp [regs.upd]), fun _ => by rw [List.map_set]; exact HP.out⟩⟩
              intro L w6 val hL hJ hR hv
              obtain ⟨hyk, hyt, hyx, hy⟩ := HYY.out
              have hx := HX.out
              have h6r := hJ.yes (hL 15 (by decide))
              have hf := HRX.out.fill j (some (sq.g y))
              have h6 : RawX w6 (w.heap.size + 1) sq (hasP t) (fun i => if i ∈ (kids t x).take j then some x else doneP t left i) (doneK t left) x ar ((fillZ none (ks sq (kids t x)) j).set j (some (sq.g y))) := hf.move fun k hk => by
                by_cases e : k = ar
                · rw [e]
                  exact h6r.trans hf.row.symm
                · rw [heap_setCell_other _ _ _ _ e]
                  exact (hR.far k (by simpa [World.setCell] using hk) fun e2 => e (Option.some.inj e2).symm).2
              have hfs : (fillZ none (ks sq (kids t x)) j).set j (some (sq.g y)) = fillZ none (ks sq (kids t x)) (j + 1) := by
                rw [← fillZ_set none (ks sq (kids t x)) (k := j) (by rw [ks_len]; exact HLT.out), ks_get, hy]
              rw [hfs] at h6
              have h7 := h6.parent hyt hyx hx
              have hP : setf (fun i => if i ∈ (kids t x).take j then some x else doneP t left i) y (some x) = fun i => if i ∈ (kids t x).take (j + 1) then some x else doneP t left i := by
                funext i
                rw [List.take_succ_eq_append_getElem HLT.out, hy]
                by_cases e : i = y
                · rw [e, setf_same, if_pos (by simp)]
                · rw [setf_other _ e]
                  simp [e]
              rw [hP] at h7
              have hsz := HAR.out
              have hsm := HWM.out
              have hg6 : wr.grownBy w6 (some ar) := ⟨hR.os, hR.tape, hR.output, hR.size, fun k hk hn => (hR.far k hk fun e => hn e.symm).2⟩
              have hr6 := hrg.out.kept hg6 (fun e => by have := Option.some.inj e; omega) (fun e => by have := Option.some.inj e; omega)
              have hgy := HFO.out.2 (sq.g y) (.inr (.inr ⟨y, hyt, .inl rfl⟩))
              have HRG7 : Hid ((w6.setCell ⟨sq.g y, 1, none⟩ (.pointer (some ⟨sq.g x, 0, none⟩))).ranges Try.prog 3 ptrElem s.m r2 es.length (mapOf es) (fun z => left z && !z.sameKey (.int .i64 x)) cnt1) := hr6.kept (setCell_grown w6 ⟨sq.g y, 1, none⟩ _) (fun e => by have e2 : s.m = sq.g y := Option.some.inj e; have := hgy.1; omega) (fun e => hgy.2 (Option.some.inj e).symm)
              have HB7 : Hid (Below w.heap.size w (w6.setCell ⟨sq.g y, 1, none⟩ (.pointer (some ⟨sq.g x, 0, none⟩)))) := (hbw.out.trans (hR.to_below hbw.out.size fun k e => by have e2 : ar = k := Option.some.inj e; omega)).setCell (p := ⟨sq.g y, 1, none⟩) hgy.1 _
              have HX7 := Lib.hid h7
              have hnl : (fillZ none (ks sq (kids t x)) (j + 1)).length = (kids t x).length := by rw [fillZ_len _ _ (by rw [ks_len]; exact HLT.out), ks_len]
              have hh := h6.hole
              rw [hnl] at hh
              have q2 := hh.blk.cell 2
              have qz := hh.inside
              have hrj : ((fillZ none (ks sq (kids t x)) (j + 1)).map ptrTo)[j]? = some (.pointer (some ⟨sq.g y, 0, none⟩)) := by
                rw [← hfs, List.getElem?_map, List.getElem?_set_self (by rw [fillZ_len _ _ (by rw [ks_len]; exact hj), ks_len]; exact HLT.out)]
                rfl
              have qr := (h6.row.blk.cell j).trans hrj
              have qy := (h6.node y hyt hyx).blk
              have y1 := qy.blk.cell 1
              have yf := qy.blk.free 1
              have yz := qy.inside
              have qz2 := h6.row.inside
              simp only [List.getElem?_cons_succ, List.getElem?_cons_zero] at q2 y1
              simp only [regs.putAll, List.map_cons, List.map_nil]
              simp only [Act.put, List.setIfInBounds_toArray, List.set_cons_zero, List.set_cons_succ]
              clear hv hL hJ hR hyk hyt hyx hy hx h6r hf h6 hfs h7 hP hsz hsm hg6 hr6 hgy hnl hh hrj qy FC HRX HRB hrg hbw k1
              generalize val 70 = y70 at *
              generalize val 71 = y71 at *
              generalize val 72 = y72 at *
              generalize val 73 = y73 at *
              generalize val 74 = y74 at *
              generalize val 75 = y75 at *
              generalize val 76 = y76 at *
              generalize val 77 = y77 at *
              generalize val 78 = y78 at *
              generalize val 79 = y79 at *
              generalize val 80 = y80 at *
              generalize val 81 = y81 at *
              generalize val 82 = y82 at *
              generalize val 83 = y83 at *
              generalize val 84 = y84 at *
              have hlt := HLT.out
              go_wp2_with (fail)
              go_roundw
              case rel => exact ⟨j + 1, by omega, by go_num, HRG7, HB7, HX7⟩
              case measure => simp [intOf]; omega
            · obtain rfl : j = (kids t x).length := by omega
              have t1 : decide ((kids t x).length < (kids t x).length) = false := by simp
              have hfz : fillZ none (ks sq (kids t x)) (kids t x).length = ks sq (kids t x) := by
                have := fillZ_all (none : Option Nat) (ks sq (kids t x))
                rw [ks_len] at this
                exact this
              have hrx2 := hrx.out
              rw [hfz] at hrx2
              have hcl := hrx2.close HX.out (k := kids t x) rfl (by rw [ks_len]; have := HKN.out; omega)
              have HCL : Hid (Raw wr (w.heap.size + 1) ⟨sq.m, sq.g, setf sq.v x (.slice (some ⟨ar, 0, none⟩) (ks sq (kids t x)).length (ks sq (kids t x)).length)⟩ (hasP t) (doneP t (fun z => left z && !z.sameKey (.int .i64 x))) (doneK t (fun z => left z && !z.sameKey (.int .i64 x)))) := by
                refine hcl.like (fun _ => Iff.rfl) (fun i hi => ?_) fun i hi => ?_
                · rw [List.take_length]
                  unfold doneP
                  by_cases e : i ∈ kids t x
                  · have h1 := HT.out.ok.kid e
                    rw [if_pos e, if_pos ⟨HT.out.ok.ne0 h1.1, (left_step left x _).2 (.inl h1.2)⟩, h1.2]
                  · rw [if_neg e]
                    by_cases h0 : i = 0
                    · rw [if_neg (fun h => h.1 h0), if_neg (fun h => h.1 h0)]
                    · have hpx : par t i ≠ x := fun h => e (h ▸ kid_of ((has_iff.1 hi).resolve_left h0))
                      by_cases hl : left (.int .i64 (par t i)) = false
                      · rw [if_pos ⟨h0, (left_step left x _).2 (.inr hl)⟩, if_pos ⟨h0, hl⟩]
                      · rw [if_neg (fun h => ((left_step left x _).1 h.2).elim hpx hl), if_neg (fun h => hl h.2)]
                · unfold doneK
                  by_cases e : i = x
                  · subst e
                    rw [setf_same, if_pos ((left_step left i i).2 (.inl rfl))]
                  · rw [setf_other _ e]
                    by_cases hl : left (.int .i64 i) = false
                    · rw [if_pos ((left_step left x i).2 (.inr hl)), if_pos hl]
                    · rw [if_neg (fun h => ((left_step left x i).1 h).elim e hl), if_neg hl]
              have HFZ : Hid (sq.m = w.heap.size ∧ ∀ k, FootT (w.heap.size + 1) ⟨sq.m, sq.g, setf sq.v x (.slice (some ⟨ar, 0, none⟩) (ks sq (kids t x)).length (ks sq (kids t x)).length)⟩ t k → w.heap.size ≤ k ∧ k ≠ r2) := by
                refine ⟨HFO.out.1, fun k hk => ?_⟩
                rcases foot_upd hk with h | h
                · exact HFO.out.2 k h
                · have e2 : ar = k := Option.some.inj h
                  have := HAR.out
                  omega
              have hme2 : wr.rangeLeft s.m r2 = cnt1 := hrg.out.left_eq
              have HM2 := Lib.hid hme2
              clear hfz hrx2 hcl hrx hme2
              go_wp2_with (fail)
              go_roundw
              case rel => exact ⟨_, _, _, hrg, hbw, HCL, HFZ⟩
              case measure => rw [HM2.out]; exact HME.out
    · intro x c kl yd yp w3 cnt1 hkey hlk hv hat hrg1 hlt hg1 hs1 hen
      obtain ⟨rfl, hx64, g, rfl, hlb⟩ := came hkey hv hat
      obtain ⟨hx, rfl⟩ := (HM.out.2 x g).1 hlb
      simp only [ptrTo] at hen ⊢
      have hsame : ∀ k, k < wr.heap.size → k ≠ r1 → w3.heap[k]? = wr.heap[k]? := fun k h1 h2 => hg1.block k h1 (fun e1 => h2 (Option.some.inj e1))
      have hr1w := HS1.out
      have hb3 : Below w.heap.size w w3 := hbw.out.trans ⟨hg1.os, hg1.tape, hg1.output, hg1.size, fun k hk => hsame k (by have := hbw.out.size; omega) (by omega)⟩
      have hraw3 : Raw w3 (w.heap.size + 1) sc (doneH t left) (fun _ => none) (fun _ => []) := hraw.out.stays fun k hk => hsame k (hraw.out.inside k hk) (hfo.out.2 k hk).2
      have hnx : ¬ doneH t left x := fun h => by have h2 := h.2; rw [hlk] at h2; cases h2
      obtain ⟨w4, hrun, hraw4, hgr4, hT4⟩ := hraw3.grow (i := x) hnx hx64 (fun _ _ e => (nomatch e)) (fun _ _ e => (nomatch e)) (fun es' hm' hl' => by
        have h1 : (es'.map (·.1)).Nodup := by
          rw [List.Nodup, List.pairwise_map]
          exact hm'.rises.imp fun h e => by
            simp only [decide_eq_true_eq] at h
            omega
        have h2 := len_of_sub h1 (m := 0 :: ids t) fun y hy => by
          obtain ⟨⟨a, g⟩, hm2, rfl⟩ := List.mem_map.1 hy
          exact List.mem_cons.2 (has_iff.1 ((hl' a g).1 (omap.Rises.look_of_mem ord hm'.rises hm2)).1.1)
        unfold ids at h2
        simp at h2
        have := HN.out
        omega)
      rw [setf_self, setf_self] at hraw4
      have hm4 : s.m < w3.heap.size := by have := HWM.out; have := hb3.size; omega
      have hrl := hrg1.lt
      have HRG4 : Hid (w4.ranges Try.prog 3 ptrElem s.m r1 es.length (mapOf es) (fun z => left z && !z.sameKey (.int .i64 x)) cnt1) := ((hrg1.alloc (node0 x)).kept hgr4 (fun e => by have := Option.some.inj e; have := HWM.out; have := hfo.out.1; omega) (fun e => by have := Option.some.inj e; have := hfo.out.1; omega))
      have hme : w4.rangeLeft s.m r1 < wr.rangeLeft s.m r1 := by rw [HRG4.out.left_eq, hrg.out.left_eq]; exact hlt
      have HME := Lib.hid hme
      have hb4 : Below w.heap.size w w4 := hb3.trans (hT4.to_below hb3.size fun k hk => (hfo.out.2 k hk).1)
      have HB4 := Lib.hid hb4
      have HRA4 : Hid (Raw w4 (w.heap.size + 1) ⟨sc.m, setf sc.g x w3.heap.size, setf sc.v x (.slice none 0 0)⟩ (doneH t (fun z => left z && !z.sameKey (.int .i64 x))) (fun _ => none) (fun _ => [])) := hraw4.like (fun i => done_step hx i) (fun _ _ => rfl) (fun _ _ => rfl)
      have HFO4 : Hid (sc.m = w.heap.size ∧ ∀ k, Foot (w.heap.size + 1) ⟨sc.m, setf sc.g x w3.heap.size, setf sc.v x (.slice none 0 0)⟩ (doneH t (fun z => left z && !z.sameKey (.int .i64 x))) k → w.heap.size ≤ k ∧ k ≠ r1) := by
        refine ⟨hfo.out.1, fun k hk => ?_⟩
        rcases hk with e | e | ⟨i, hi, e⟩
        · exact hfo.out.2 k (.inl e)
        · exact hfo.out.2 k (.inr (.inl e))
        · by_cases ei : i = x
          · simp only [ei, setf_same] at e
            rcases e with e | e
            · have := hb3.size
              omega
            · cases e
          · simp only [setf_other _ ei] at e
            exact hfo.out.2 k (.inr (.inr ⟨i, ((done_step hx i).1 hi).resolve_left ei, e⟩))
      rw [hfo.out.1] at hrun
      have cM := hraw3.top
      rw [hfo.out.1] at cM
      obtain ⟨cm1, cm2⟩ := cM
      have HEN := Lib.hid hen
      clear hkey hlk hv hat hrg1 hlt hg1 hs1 hlb hx hx64 hsame hb3 hraw3 hnx hraw4 hgr4 hT4 hm4 hrl hme hb4 hr1w hrg hbw hraw hfo
      go_wp2_with (fail)
      go_roundw
      case rel => exact ⟨_, _, _, HRG4, HB4, HRA4, HFO4⟩
      case measure => exact HME.out
end
end Go.Proofs.Ytokochkjjlbnkaa
