/-
  Files of the call's own: rows of a name and of bytes of the call's own.
-/
import Derived.Test.YtpnhgongjfknbaaDiskPlaysW
import Derived.Test.YtpnhgongjfknbaaRfN
import Derived.Test.YtpnhgongjfknbaaDkOf
import Derived.Test.YtpnhgongjfknbaaRegx
import Derived.Maps.AppendAt
import Derived.Laws.OwnMore
namespace Go.Proofs.Ytpnhgongjfknbaa.so
open Go.RowKit

/-! ### Rows of values of k cells each -/
def SRow {α : Type} (k : Nat) (enc : α → List Value) (w : World) (A : Option Addr) (l : List α) : Prop :=
  0 < l.length → ∃ b off, A = some ⟨b, off, none⟩ ∧ ∀ j (h : j < l.length) i v, (enc l[j])[i]? = some v → w.cell? ⟨b, off + j * k + i, none⟩ = some v
section
variable {α : Type} {k : Nat} {enc : α → List Value} {w w' : World} {A : Option Addr} {l : List α}
theorem SRow.none_ (h : l.length = 0) : SRow k enc w A l := fun h' => absurd h' (by omega)
theorem SRow.below (h : SRow k enc w A l) (hb : Below w.heap.size w w') : SRow k enc w' A l := fun hn => by
  obtain ⟨b, off, e, hc⟩ := h hn
  exact ⟨b, off, e, fun j hj i v hi => (hb.cell (p := ⟨b, _, none⟩) (World.block_lt_of_cell? w ⟨b, _, none⟩ (hc j hj i v hi))).trans (hc j hj i v hi)⟩
theorem SRow.alloc (h : SRow k enc w A l) (o : Obj) : SRow k enc (w.alloc o) A l := h.below ((Below.refl _ _).alloc (Nat.le_refl _) o)
theorem flat_at (hk : ∀ x, (enc x).length = k) : ∀ {l : List α} {j : Nat} (h : j < l.length) {i : Nat} {v : Value}, (enc l[j])[i]? = some v → (l.flatMap enc)[j * k + i]? = some v
  | [], j, h, _, _, _ => by simp at h
  | x :: l, 0, h, i, v, hv => by
    rw [List.flatMap_cons, Nat.zero_mul, Nat.zero_add]
    exact (List.getElem?_append_left (by have := (List.getElem?_eq_some_iff.1 hv).1; exact this)).trans hv
  | x :: l, j + 1, h, i, v, hv => by
    have hj : j < l.length := by simpa using h
    rw [List.flatMap_cons, List.getElem?_append_right (by rw [hk, Nat.add_mul]; omega), hk, show (j + 1) * k + i - k = j * k + i by rw [Nat.add_mul]; omega]
    exact flat_at hk hj hv
theorem flat_len (hk : ∀ x, (enc x).length = k) (l : List α) : (l.flatMap enc).length = l.length * k := by
  induction l with
  | nil => simp
  | cons x l ih => rw [List.flatMap_cons, List.length_append, ih, hk, List.length_cons, Nat.add_mul]; omega
/-- a row that is built -/
theorem srow_new (hk : ∀ x, (enc x).length = k) (w : World) (l : List α) (T : TypeId) {g : Nat} (hg : g = w.heap.size) : SRow k enc (w.alloc (.cells (l.flatMap enc).toArray T)) (some ⟨g, 0, none⟩) l := fun hn => by
  subst hg
  refine ⟨w.heap.size, 0, rfl, fun j hj i v hv => ?_⟩
  rw [cell_of_row _ _ _ _ _ _ (heap_alloc_new w _), Nat.zero_add]
  simpa using flat_at hk hj hv
end

/-! ### Slices of the call's own -/
def SOwn {α : Type} (T : TypeId) (k : Nat) (enc : α → List Value) (w : World) (base : Nat) (v : Value) (l : List α) : Prop := w.ownsRow base T k v l.length (l.flatMap enc)
section
variable {α : Type} {T : TypeId} {k : Nat} {enc : α → List Value} {w w' : World} {base : Nat} {v : Value} {l : List α}
theorem SOwn.nil (w : World) (base : Nat) : SOwn T k enc w base (.slice none 0 0) ([] : List α) := World.ownsRow_nil w base T k
theorem SOwn.lit (hk : ∀ x, (enc x).length = k) (w : World) (l : List α) (hb : base ≤ w.heap.size) (hm : l.length ≤ maxLen) : SOwn T k enc (w.alloc (.cells (l.flatMap enc).toArray T)) base (.slice (some ⟨w.heap.size, 0, none⟩) l.length l.length) l := by
  have := World.ownsRow_lit (base := base) (e := T) (size := k) w (l.flatMap enc).toArray l.length hb hm (by simp [flat_len hk])
  simpa [SOwn] using this
theorem SOwn.block (h : SOwn T k enc w base v l) {g : Nat} (hg : v.ownBlock = some g) : base ≤ g ∧ g < w.heap.size := World.ownsRow.lt h g hg
theorem SOwn.stays (h : SOwn T k enc w base v l) (hb : ∀ g, v.ownBlock = some g → w'.heap[g]? = w.heap[g]?) : SOwn T k enc w' base v l := by
  refine ⟨h.1, ?_⟩
  rcases h.2 with hn | ⟨g, cap, cur, rfl, hg, hbb, rest⟩
  · exact .inl hn
  · exact .inr ⟨g, cap, cur, rfl, hg, (hb g rfl).trans hbb, rest⟩
theorem SOwn.below (h : SOwn T k enc w base v l) (hb : Below w.heap.size w w') : SOwn T k enc w' base v l := h.stays fun g hg => hb.block g (h.block hg).2
theorem SOwn.weaken (h : SOwn T k enc w base v l) {b : Nat} (hb : b ≤ base) : SOwn T k enc w b v l := by
  refine ⟨h.1, ?_⟩
  rcases h.2 with hn | ⟨g, cap, cur, rfl, hg, rest⟩
  · exact .inl hn
  · exact .inr ⟨g, cap, cur, rfl, Nat.le_trans hb hg, rest⟩
theorem SOwn.row (h : SOwn T k enc w base v l) (hk : ∀ x, (enc x).length = k) : ∃ A c, v = .slice A l.length c ∧ l.length ≤ c ∧ c ≤ maxLen ∧ SRow k enc w A l := by
  rcases h.2 with ⟨rfl, h0⟩ | ⟨g, cap, cur, rfl, hg, hb, hc, hm, rest⟩
  · refine ⟨none, 0, by rw [h0], by omega, by unfold maxLen; omega, fun hn => by omega⟩
  · refine ⟨some ⟨g, 0, none⟩, cap, rfl, hc, hm, fun _ => ⟨g, 0, rfl, fun j hj i v hv => ?_⟩⟩
    have hcell := World.ownsRow.cells h (g := g) rfl
    have e : ∀ i, (⟨g, 0, none⟩ : Addr).add i = ⟨g, 0 + i, none⟩ := fun i => by unfold Addr.add; split <;> simp_all
    have := hcell _ _ (flat_at hk hj hv)
    rw [e] at this
    rw [Nat.add_assoc]
    exact this
/-- append of values that lie in a block -/
theorem SOwn.app {P : Program} {ts : TypeId} {z : Value} {by_ : Nat} (hu : P.underlying ts = some (.slice T)) (hinf : (P.info? T).map (fun i => (i.zero, i.size, i.bytes)) = some (some z, k, by_)) (hz : z.cells.size = k) (hk0 : 0 < k) (hby : by_ ≤ 100000)
    (hk : ∀ x, (enc x).length = k) (hplain : ∀ x, ∀ u ∈ enc x, u.oneCell' = true)
    (h : SOwn T k enc w base v l) {xs : List α} {g o c : Nat} (hx : xs ≠ [] → SRow k enc w (some ⟨g, o, none⟩) xs) (hn : l.length + xs.length ≤ 1000000000) (hbase : base ≤ w.heap.size) :
    ∃ v' w', (Builtin.append_ #[ts, ts] ts #[v, .slice (some ⟨g, o, none⟩) xs.length c]).run P w = .ok v' w' ∧ SOwn T k enc w' base v' (l ++ xs) ∧ w.grownBy w' v.ownBlock ∧ (v'.ownBlock = v.ownBlock ∨ v'.ownBlock = some w.heap.size) := by
  obtain ⟨i, hi, hz', hsize, hbyt⟩ : ∃ i, P.info? T = some i ∧ i.zero = some z ∧ i.size = k ∧ i.bytes = by_ := by
    cases hI : P.info? T with
    | none => rw [hI] at hinf; cases hinf
    | some i =>
      rw [hI] at hinf
      simp only [Option.map_some, Option.some.injEq, Prod.mk.injEq] at hinf
      exact ⟨i, rfl, hinf.1, hinf.2.1, hinf.2.2⟩
  have hadd : ∀ j, (⟨g, o, none⟩ : Addr).add j = ⟨g, o + j, none⟩ := fun j => by unfold Addr.add; split <;> simp_all
  have hb2 : (l.length + xs.length) * by_ ≤ 1000000000 * 100000 := Nat.mul_le_mul hn hby
  obtain ⟨v', w', hrun, ho, hg, -, hat⟩ := run_append_own_at (P := P) w base ts ts T i _ k by_ hu hi hz' hsize hbyt hz hk0 v l.length _ h ⟨g, o, none⟩ xs.length c
    (xs.flatMap enc) (flat_len hk xs) (by
      intro j u hj
      rw [hadd]
      have hlen := flat_len hk xs
      have hjl := (List.getElem?_eq_some_iff.1 hj).1
      rw [hlen] at hjl
      have hq : j / k < xs.length := by rw [Nat.div_lt_iff_lt_mul hk0]; exact hjl
      have hr : j % k < k := Nat.mod_lt _ hk0
      have hne : xs ≠ [] := by rintro rfl; simp at hq
      obtain ⟨b, off, e, hc⟩ := hx hne (List.length_pos_iff.2 hne)
      simp only [Option.some.injEq, Addr.mk.injEq, and_true] at e
      obtain ⟨rfl, rfl⟩ := e
      obtain ⟨y, hy⟩ : ∃ y, (enc xs[j / k])[j % k]? = some y := ⟨(enc xs[j / k])[j % k]'(by rw [hk]; exact hr), List.getElem?_eq_getElem (by rw [hk]; exact hr)⟩
      have h1 := flat_at hk hq hy
      have hjk : j / k * k + j % k = j := by rw [Nat.mul_comm]; exact Nat.div_add_mod j k
      rw [hjk, hj] at h1
      obtain rfl := Option.some.inj h1
      have h2 := hc _ hq _ _ hy
      rw [Nat.add_assoc, hjk] at h2
      exact h2) (by
      intro u hu
      obtain ⟨x, _, hx⟩ := List.mem_flatMap.1 hu
      exact hplain x u hx) (by unfold maxLen; omega) (by omega) hbase
  refine ⟨v', w', hrun, ?_, hg, hat⟩
  unfold SOwn
  rw [List.length_append, List.flatMap_append]
  exact ho
end
theorem SRow.one_of_cells {α : Type} {k : Nat} {enc : α → List Value} {w : World} {g o : Nat} {x : α} (h : ∀ i v, (enc x)[i]? = some v → w.cell? ⟨g, o + i, none⟩ = some v) : SRow k enc w (some ⟨g, o, none⟩) [x] := fun _ =>
  ⟨g, o, rfl, fun j hj i v hv => by
    have : j = 0 := by simpa using hj
    subst this
    rw [Nat.zero_mul, Nat.add_zero]
    exact h i v hv⟩
end Go.Proofs.Ytpnhgongjfknbaa.so
namespace Go.Proofs.Ytpnhgongjfknbaa
open Go.RowKit omap so

def fincs (x : FIn) : List Value := [.string x.n, x.p.v]
theorem fin_len (x : FIn) : (fincs x).length = 2 := rfl
theorem fin_plain (x : FIn) : ∀ u ∈ fincs x, u.oneCell' = true := by
  intro u hu
  simp only [fincs, List.mem_cons, List.not_mem_nil, or_false] at hu
  rcases hu with rfl | rfl <;> rfl
abbrev FO (w : World) (base : Nat) (v : Value) (os : List FIn) : Prop := SOwn 43 2 fincs w base v os
theorem info_fin : (Try.prog.info? 43).map (fun i => (i.zero, i.size, i.bytes)) = some (some (.agg #[.string ⟨#[]⟩, .slice none 0 0]), 2, 40) := by kernel_rfl
theorem app_fin {w : World} {base : Nat} {v : Value} {l : List FIn} (h : FO w base v l) (x : FIn) {g c : Nat} (hx : SRow 2 fincs w (some ⟨g, 0, none⟩) [x]) (hn : l.length ≤ 900000000) (hbase : base ≤ w.heap.size) :
    ∃ v' w', (Builtin.append_ #[41, 41] 41 #[v, .slice (some ⟨g, 0, none⟩) 1 c]).run Try.prog w = .ok v' w' ∧ FO w' base v' (l ++ [x]) ∧ w.grownBy w' v.ownBlock ∧ (v'.ownBlock = v.ownBlock ∨ v'.ownBlock = some w.heap.size) :=
  SOwn.app (xs := [x]) (c := c) Try.underlying41 info_fin rfl (by decide) (by decide) fin_len fin_plain h (fun _ => hx) (by simp; omega) hbase
theorem FO.frow {w : World} {base : Nat} {v : Value} {l : List FIn} (h : FO w base v l) : ∃ A c, v = .slice A l.length c ∧ l.length ≤ c ∧ c ≤ maxLen ∧ FileRow w A l := by
  obtain ⟨A, c, h1, h2, h3, h4⟩ := SOwn.row h fin_len
  refine ⟨A, c, h1, h2, h3, fun hn => ?_⟩
  obtain ⟨b, off, e, hc⟩ := h4 hn
  exact ⟨b, off, e, fun j hj => ⟨hc j hj 0 _ rfl, hc j hj 1 _ rfl⟩⟩
/-- the bytes of each are the call's own -/
def OwnAll (w : World) (base : Nat) (os : List FIn) : Prop := ∀ x ∈ os, AreBytes x.p.l ∧ Own w base x.p.v x.p.l
/-- v's own block, if it has one, lies above g -/
def Above (g : Nat) (v : Value) : Prop := ∀ k, v.ownBlock = some k → g < k
def Under (g : Nat) (v : Value) : Prop := ∀ k, v.ownBlock = some k → k < g
def Sep (v v' : Value) : Prop := ∀ g, v.ownBlock = some g → v'.ownBlock ≠ some g
theorem OwnAll.below {w w' : World} {base : Nat} {os : List FIn} (h : OwnAll w base os) (hb : Below w.heap.size w w') : OwnAll w' base os := fun x hx => ⟨(h x hx).1, (h x hx).2.below hb⟩
theorem OwnAll.grown {w w' : World} {base : Nat} {os : List FIn} {row : Option Nat} (h : OwnAll w base os) (hg : w.grownBy w' row) (hs : ∀ x ∈ os, ∀ g, x.p.v.ownBlock = some g → row ≠ some g) : OwnAll w' base os := fun x hx =>
  ⟨(h x hx).1, (h x hx).2.stays fun g hgg => hg.block g ((h x hx).2.block hgg).2 (fun e => hs x hx g hgg e.symm)⟩
def partOf (v : Value) (l : List Nat) : Part := match v with
  | .slice a _ c => ⟨a, l, c⟩
  | _ => ⟨none, l, 0⟩
/-- how the world stands while a file is copied: slot 110 the empty bytes (3, till 6), 113 the copy (6), 114 the file (7), 115 its row (8, till 9), 116 all files (9) -/
def JO (M gb : Nat) (n : ByteArray) (p : Part) (v10 : Value) (os : List FIn) (i3 i6 i7 i8 i9 : Bool) (v110 v113 v114 v115 v116 : Value) (w : World) : Prop :=
  (M ≤ w.heap.size ∧ Blk w gb [.string n, p.v]) ∧ (i9 = false → FO w M v10 os) ∧ OwnAll w M os ∧ (i3 = true → i6 = false → Own w M v110 [] ∧ Above gb v110) ∧
  (i6 = true → (∃ a c, v113 = .slice a p.l.length c) ∧ Own w M v113 p.l ∧ Above gb v113) ∧ (i7 = true → i6 = true ∧ v114 = .agg #[.string n, v113]) ∧
  (i8 = true → i9 = false → ∃ g, v115 = .slice (some ⟨g, 0, none⟩) 1 1 ∧ SRow 2 fincs w (some ⟨g, 0, none⟩) [⟨n, partOf v113 p.l⟩]) ∧ (i9 = true → i6 = true ∧ FO w M v116 (os ++ [⟨n, partOf v113 p.l⟩])) ∧ (i8 = true → i6 = true)
section
variable {M gb : Nat} {n : ByteArray} {p : Part} {v10 : Value} {os : List FIn} {i3 i6 i7 i8 i9 : Bool} {v110 v113 v114 v115 v116 : Value} {w w' : World}
theorem JO.below (h : JO M gb n p v10 os i3 i6 i7 i8 i9 v110 v113 v114 v115 v116 w) (hb : Below w.heap.size w w') : JO M gb n p v10 os i3 i6 i7 i8 i9 v110 v113 v114 v115 v116 w' := by
  obtain ⟨⟨h1, h2⟩, k1, k2, k3, k4, k5, k6, k7, k8⟩ := h
  refine ⟨⟨Nat.le_trans h1 hb.size, h2.stays (hb.block _ h2.inside)⟩, fun e => SOwn.below (k1 e) hb, k2.below hb, fun e f => ⟨(k3 e f).1.below hb, (k3 e f).2⟩, fun e => ⟨(k4 e).1, (k4 e).2.1.below hb, (k4 e).2.2⟩, k5, fun e f => ?_, fun e => ⟨(k7 e).1, SOwn.below (k7 e).2 hb⟩, k8⟩
  obtain ⟨g, e1, e2⟩ := k6 e f
  exact ⟨g, e1, SRow.below e2 hb⟩
theorem JO.slots {u110 u113 u114 u115 u116 : Value} (h : JO M gb n p v10 os i3 i6 i7 i8 i9 v110 v113 v114 v115 v116 w) (e1 : u110 = v110) (e2 : u113 = v113) (e3 : u114 = v114) (e4 : u115 = v115) (e5 : u116 = v116) : JO M gb n p v10 os i3 i6 i7 i8 i9 u110 u113 u114 u115 u116 w := by
  rw [e1, e2, e3, e4, e5]
  exact h
theorem JO.set110 {u : Value} (h : JO M gb n p v10 os i3 i6 i7 i8 i9 v110 v113 v114 v115 v116 w) (ho : Own w M u []) (ha : Above gb u) : JO M gb n p v10 os true i6 i7 i8 i9 u v113 v114 v115 v116 w :=
  ⟨h.1, h.2.1, h.2.2.1, fun _ _ => ⟨ho, ha⟩, h.2.2.2.2⟩
/-- the copy: the empty bytes' block may have turned, or a new one been made -/
theorem JO.set113 {u : Value} (h : JO M gb n p v10 os i3 i6 i7 i8 i9 v110 v113 v114 v115 v116 w) (hun : ∀ x ∈ os, Under gb x.p.v) (hu10 : Under gb v10) (e3 : i3 = true) (e6 : i6 = false) (hg : w.grownBy w' v110.ownBlock) (ho : Own w' M u p.l) (hsl : ∃ a c, u = .slice a p.l.length c) (hat : ∀ k, u.ownBlock = some k → v110.ownBlock = some k ∨ w.heap.size ≤ k) :
    JO M gb n p v10 os i3 true i7 i8 i9 v110 u v114 v115 v116 w' := by
  subst e3 e6
  obtain ⟨⟨h1, h2⟩, k1, k2, k3, k4, k5, k6, k7, k8⟩ := h
  have e7 : i7 = false := by cases hi : i7 with
    | false => rfl
    | true => exact absurd (k5 hi).1 (by decide)
  have e8 : i8 = false := by cases hi : i8 with
    | false => rfl
    | true => exact absurd (k8 hi) (by decide)
  have e9 : i9 = false := by cases hi : i9 with
    | false => rfl
    | true => exact absurd (k7 hi).1 (by decide)
  subst e7 e8 e9
  obtain ⟨o1, o2⟩ := k3 rfl rfl
  have hgb : gb < w.heap.size := h2.inside
  have hne : ∀ k, k < w.heap.size → k ≤ gb → w'.heap[k]? = w.heap[k]? := fun k hk hle => hg.block k hk fun e => by have := o2 k e.symm; omega
  refine ⟨⟨Nat.le_trans h1 hg.size, h2.stays (hne _ hgb (Nat.le_refl _))⟩, fun _ => SOwn.stays (k1 rfl) fun k hk => hne k (SOwn.block (k1 rfl) hk).2 (Nat.le_of_lt (hu10 k hk)), k2.grown hg fun x hx k hk e => ?_, fun _ e => (nomatch e), fun _ => ⟨hsl, ho, fun k hk => ?_⟩, fun e => (nomatch e), fun e => (nomatch e), fun e => (nomatch e), fun e => (nomatch e)⟩
  · have := hun x hx k hk
    have := o2 k e
    omega
  · rcases hat k hk with e | e
    · exact o2 k e
    · omega
theorem JO.set114 (h : JO M gb n p v10 os i3 i6 i7 i8 i9 v110 v113 v114 v115 v116 w) (e6 : i6 = true) : JO M gb n p v10 os i3 i6 true i8 i9 v110 v113 (.agg #[.string n, v113]) v115 v116 w :=
  ⟨h.1, h.2.1, h.2.2.1, h.2.2.2.1, h.2.2.2.2.1, fun _ => ⟨e6, rfl⟩, h.2.2.2.2.2.2⟩
theorem JO.set115 {g : Nat} (h : JO M gb n p v10 os i3 i6 i7 i8 i9 v110 v113 v114 v115 v116 w) (e6 : i6 = true) (hr : SRow 2 fincs w (some ⟨g, 0, none⟩) [⟨n, partOf v113 p.l⟩]) : JO M gb n p v10 os i3 i6 i7 true i9 v110 v113 v114 (.slice (some ⟨g, 0, none⟩) 1 1) v116 w :=
  ⟨h.1, h.2.1, h.2.2.1, h.2.2.2.1, h.2.2.2.2.1, h.2.2.2.2.2.1, fun _ _ => ⟨g, rfl, hr⟩, h.2.2.2.2.2.2.2.1, fun _ => e6⟩
theorem JO.set116 {u : Value} (h : JO M gb n p v10 os i3 i6 i7 i8 i9 v110 v113 v114 v115 v116 w) (hsep : ∀ x ∈ os, Sep x.p.v v10) (hu10 : Under gb v10) (e6 : i6 = true) (hg : w.grownBy w' v10.ownBlock) (ho : FO w' M u (os ++ [⟨n, partOf v113 p.l⟩])) : JO M gb n p v10 os i3 i6 i7 i8 true v110 v113 v114 v115 u w' := by
  subst e6
  obtain ⟨⟨h1, h2⟩, k1, k2, k3, k4, k5, k6, k7, k8⟩ := h
  refine ⟨⟨Nat.le_trans h1 hg.size, h2.stays (hg.block _ h2.inside fun e => by have := hu10 _ e.symm; omega)⟩, fun e => (nomatch e), k2.grown hg fun x hx k hk e => hsep x hx k hk e, fun _ e => (nomatch e), fun _ => ⟨(k4 rfl).1, (k4 rfl).2.1.stays fun k hk => hg.block k ((k4 rfl).2.1.block hk).2 fun e => ?_, (k4 rfl).2.2⟩, k5, fun _ e => (nomatch e), fun _ => ⟨rfl, ho⟩, k8⟩
  have h3 := hu10 k e.symm
  have h4 := (k4 rfl).2.2 k hk
  omega
end
theorem JO.start {M gb : Nat} {n : ByteArray} {p : Part} {v10 : Value} {os : List FIn} {w : World} (h1 : M ≤ w.heap.size) (h2 : Blk w gb [.string n, p.v]) (h3 : FO w M v10 os) (h4 : OwnAll w M os) (v110 v113 v114 v115 v116 : Value) : JO M gb n p v10 os false false false false false v110 v113 v114 v115 v116 w :=
  ⟨⟨h1, h2⟩, fun _ => h3, h4, fun e => (nomatch e), fun e => (nomatch e), fun e => (nomatch e), fun e => (nomatch e), fun e => (nomatch e), fun e => (nomatch e)⟩
/-- slot 10: the files so far (till they are taken, 0), then all (10) -/
def JP (u : Value) (i0 i9 i10 : Bool) (v10 v116 : Value) : Prop := (i0 = false → v10 = u) ∧ (i9 = true → i0 = true) ∧ (i10 = true → i9 = true ∧ v10 = v116)
section
variable {u : Value} {i0 i9 i10 : Bool} {v10 v116 : Value}
theorem JP.slots {x10 x116 : Value} (h : JP u i0 i9 i10 v10 v116) (e1 : x10 = v10) (e2 : x116 = v116) : JP u i0 i9 i10 x10 x116 := by rw [e1, e2]; exact h
theorem JP.did0 (h : JP u i0 i9 i10 v10 v116) : JP u true i9 i10 v10 v116 := ⟨fun e => (nomatch e), fun _ => rfl, h.2.2⟩
theorem JP.did9 {x : Value} (h : JP u i0 i9 i10 v10 v116) (e0 : i0 = true) (e9 : i9 = false) : JP u i0 true i10 v10 x := by
  subst e0 e9
  exact ⟨fun e => (nomatch e), fun _ => rfl, fun e => absurd (h.2.2 e).1 (by decide)⟩
theorem JP.did10 (h : JP u i0 i9 i10 v10 v116) (e9 : i9 = true) : JP u i0 i9 true v116 v116 := by
  subst e9
  have e0 := h.2.1 rfl
  subst e0
  exact ⟨fun e => (nomatch e), fun _ => rfl, fun _ => ⟨rfl, rfl⟩⟩
end
theorem own_none {M : Nat} (w : World) (hb : M ≤ w.heap.size) : Own (w.alloc (.cells #[] 5)) M (.slice (some ⟨w.heap.size, 0, none⟩) 0 0) [] := World.ownsRow_lit (base := M) (e := 5) (size := 1) w #[] 0 hb (by unfold maxLen; omega) (by simp)
theorem blk2 {w : World} {g : Nat} {p q : Value} (h : Blk w g [p, q]) : w.cell? ⟨g, 0, none⟩ = some p ∧ w.cell? ⟨g, 1, none⟩ = some q := ⟨h.cell 0, h.cell 1⟩
theorem wp_app {P : Program} {o : Oper} {a : Act} {w : World} {K : Act → World → Prop} {Q : Exit → Act → World → Prop} (s x : Operand) (t t2 ty : TypeId)
    (ho : o.op = .call { callee := .builtin .append, args := #[s, x], argTypes := #[t, t2] }) (hty : o.type = ty) {sv xv v' : Value} {w' : World} (hs : a.eval s = sv) (hx : a.eval x = xv)
    (hrun : (Builtin.append_ #[t, t2] ty #[sv, xv]).run P w = .ok v' w') (h : K (a.put o.dst v') w') : o.wp P a w K Q := by
  subst hty
  unfold Oper.wp execOp
  simp only [ho, resolve, invoke, builtin, Sem.run_bind, Sem.run_pure, Result.andThen_ok, List.map_toArray, List.map_cons, List.map_nil, hs, hx, hrun]
  exact h
end Go.Proofs.Ytpnhgongjfknbaa
