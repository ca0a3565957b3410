/-
  Words for bytes: rows of values in memory, texts, parts that came in, slices of the call's own that grow.
-/
import Derived.Test.YtpnhgongjfknbaaProg
import Derived.WalkKit
import Derived.Below
import Derived.Lib.Hide
import Derived.Laws.BytesArg
import Derived.Laws.IdiomStrings
import Derived.Lib.AppendStr
import Derived.OwnWalk
namespace Go.Proofs.Ytpnhgongjfknbaa
open Go.RowKit

def AreBytes (l : List Nat) : Prop := ∀ z ∈ l, z < 256
theorem AreBytes.at_ {l : List Nat} (h : AreBytes l) {k : Nat} (hk : k < l.length) : l[k] < 256 := h _ (List.getElem_mem hk)
theorem AreBytes.take {l : List Nat} (h : AreBytes l) (k : Nat) : AreBytes (l.take k) := fun z hz => h z (List.mem_of_mem_take hz)
theorem AreBytes.drop {l : List Nat} (h : AreBytes l) (k : Nat) : AreBytes (l.drop k) := fun z hz => h z (List.mem_of_mem_drop hz)
theorem AreBytes.append {l m : List Nat} (h : AreBytes l) (k : AreBytes m) : AreBytes (l ++ m) := fun z hz => (List.mem_append.1 hz).elim (h z) (k z)
theorem AreBytes.nil : AreBytes [] := fun z hz => by cases hz

/-- a number with 64 bits -/
def U64 (n : Nat) : Prop := n < 18446744073709551616
def I64 (n : Int) : Prop := -9223372036854775808 ≤ n ∧ n ≤ 9223372036854775807
theorem U64.lt {n : Nat} (h : U64 n) : n < 18446744073709551616 := h

/-- the slice's address leads to these values -/
def Row {α : Type} (enc : α → Value) (w : World) (A : Option Addr) (l : List α) : Prop :=
  0 < l.length → ∃ b off, A = some ⟨b, off, none⟩ ∧ ∀ j (h : j < l.length), w.cell? ⟨b, off + j, none⟩ = some (enc l[j])
/-- bytes, numbers, numbers with a sign -/
def e8 (z : Nat) : Value := .int .u8 (z : Nat)
def eU (z : Nat) : Value := .int .u64 (z : Nat)
def eI (z : Int) : Value := .int .i64 z
abbrev Bs (w : World) (A : Option Addr) (l : List Nat) : Prop := Row e8 w A l
section
variable {α : Type} {enc : α → Value} {w w' : World} {A : Option Addr} {l : List α}
theorem Row.none_ (h : l.length = 0) : Row enc w A l := fun h' => absurd h' (by omega)
theorem Row.below (h : Row enc w A l) (hb : Below w.heap.size w w') : Row enc w' A l := fun hn => by
  obtain ⟨b, off, e, hc⟩ := h hn
  exact ⟨b, off, e, fun j hj => (hb.cell (World.block_lt_of_cell? w _ (hc j hj))).trans (hc j hj)⟩
theorem Row.alloc (h : Row enc w A l) (o : Obj) : Row enc (w.alloc o) A l := h.below ((Below.refl _ _).alloc (Nat.le_refl _) o)
theorem Row.take (h : Row enc w A l) (k : Nat) : Row enc w A (l.take k) := fun hn => by
  rw [List.length_take] at hn
  obtain ⟨b, off, e, hc⟩ := h (by omega)
  refine ⟨b, off, e, fun j hj => ?_⟩
  rw [List.length_take] at hj
  rw [List.getElem_take]
  exact hc j (by omega)
theorem Row.drop {b off : Nat} (h : Row enc w (some ⟨b, off, none⟩) l) (k : Nat) : Row enc w (some ⟨b, off + k, none⟩) (l.drop k) := fun hn => by
  rw [List.length_drop] at hn
  obtain ⟨b', off', e, hc⟩ := h (by omega)
  simp only [Option.some.injEq, Addr.mk.injEq, and_true] at e
  obtain ⟨rfl, rfl⟩ := e
  refine ⟨b, off + k, rfl, fun j hj => ?_⟩
  rw [List.length_drop] at hj
  rw [List.getElem_drop, Nat.add_assoc]
  exact hc (k + j) (by omega)
end

/-- a part: where it lies, its bytes, its room -/
structure Part where
  a : Option Addr
  l : List Nat
  c : Nat
def Part.v (p : Part) : Value := .slice p.a p.l.length p.c
structure Part.ok (w : World) (p : Part) : Prop where
  room : p.l.length ≤ p.c
  max : p.c ≤ maxLen
  at_ : Bs w p.a p.l
  bytes : AreBytes p.l
theorem Part.ok.below {w w' : World} {p : Part} (h : p.ok w) (hb : Below w.heap.size w w') : p.ok w' := ⟨h.room, h.max, h.at_.below hb, h.bytes⟩
theorem Part.ok.alloc {w : World} {p : Part} (h : p.ok w) (o : Obj) : p.ok (w.alloc o) := h.below ((Below.refl _ _).alloc (Nat.le_refl _) o)
theorem part_nil (w : World) : (⟨none, [], 0⟩ : Part).ok w := ⟨Nat.le_refl _, by simp [maxLen], fun h => absurd h (by simp), AreBytes.nil⟩

/-! ### Texts -/
/-- a text's bytes -/
def natsOf (s : ByteArray) : List Nat := s.data.toList.map (·.toNat)
theorem natsOf_length (s : ByteArray) : (natsOf s).length = s.size := by
  unfold natsOf
  rw [List.length_map, Array.length_toList]
  rfl
theorem natsOf_are (s : ByteArray) : AreBytes (natsOf s) := by
  intro z hz
  simp only [natsOf, List.mem_map] at hz
  obtain ⟨c, _, rfl⟩ := hz
  exact c.toNat_lt
theorem natsOf_at (s : ByteArray) {k : Nat} (h : k < s.size) : (natsOf s)[k]'(by rw [natsOf_length]; exact h) = s[k].toNat := by
  simp only [natsOf, List.getElem_map]
  rfl
theorem natsOf_append (s t : ByteArray) : natsOf (s ++ t) = natsOf s ++ natsOf t := by simp [natsOf]
/-- a text of bytes -/
def strOf (l : List Nat) : ByteArray := strOfNums (l.map fun (z : Nat) => (z : Int))
theorem natsOf_strOf {l : List Nat} (h : AreBytes l) : natsOf (strOf l) = l := by
  unfold natsOf strOf
  rw [strOfNums_data, List.map_map, List.map_map]
  conv => rhs; rw [← List.map_id l]
  refine List.map_congr_left fun z hz => ?_
  have := h z hz
  simp
  omega
theorem natsOf_inj {s t : ByteArray} (h : natsOf s = natsOf t) : s = t := by
  have h2 : s.data.toList = t.data.toList := List.map_inj_right (fun a b hab => UInt8.toNat_inj.1 hab) |>.1 h
  cases s with
  | mk a => cases t with
    | mk b =>
      congr 1
      exact Array.toList_inj.1 h2
theorem strOf_natsOf (s : ByteArray) : strOf (natsOf s) = s := natsOf_inj (natsOf_strOf (natsOf_are s))
theorem strOf_size (l : List Nat) : (strOf l).size = l.length := by rw [strOf, strOfNums_size, List.length_map]
theorem strOf_append {l m : List Nat} (hl : AreBytes l) (hm : AreBytes m) : strOf l ++ strOf m = strOf (l ++ m) := natsOf_inj (by rw [natsOf_append, natsOf_strOf hl, natsOf_strOf hm, natsOf_strOf (hl.append hm)])
theorem strOf_inj {l m : List Nat} (hl : AreBytes l) (hm : AreBytes m) (h : strOf l = strOf m) : l = m := by rw [← natsOf_strOf hl, ← natsOf_strOf hm, h]
theorem strOf_nil : strOf [] = ⟨#[]⟩ := rfl
theorem strOf_at {l : List Nat} (h : AreBytes l) {k : Nat} (hk : k < (strOf l).size) : (strOf l)[k].toNat = l[k]'(by rw [strOf_size] at hk; exact hk) := by
  rw [← natsOf_at (strOf l) hk]
  simp only [natsOf_strOf h]
theorem natsOf_extract (s : ByteArray) (i j : Nat) : natsOf (s.extract i j) = ((natsOf s).take j).drop i := by
  unfold natsOf
  rw [ByteArray.data_extract, Array.toList_extract, List.extract_eq_take_drop, List.map_take, List.map_drop, List.take_drop, List.drop_take]
  simp only [List.drop_take]
  rcases Nat.le_total i j with h | h
  · rw [show i + (j - i) = j by omega]
  · rw [show j - i = 0 by omega, show i + 0 - i = 0 by omega]
theorem strOf_drop (s : ByteArray) (i : Nat) : s.extract i s.size = strOf ((natsOf s).drop i) := natsOf_inj (by
  rw [natsOf_extract, natsOf_strOf ((natsOf_are s).drop i), List.take_of_length_le (by rw [natsOf_length]; omega)])
theorem strOf_take (s : ByteArray) (j : Nat) : s.extract 0 j = strOf ((natsOf s).take j) := natsOf_inj (by
  rw [natsOf_extract, natsOf_strOf ((natsOf_are s).take j), List.drop_zero])
theorem conv_str (w : World) (A : Option Addr) (l : List Nat) (c : Nat) (hb : Bs w A l) : (convert 35 9 (.slice A l.length c)).run Try.prog w = .ok (.string (strOf l)) w := by
  rcases Nat.eq_zero_or_pos l.length with h0 | h0
  · have hl : l = [] := List.eq_nil_of_length_eq_zero h0
    subst hl
    cases A with
    | none => exact run_convert_bytes_nil (P := Try.prog) w 35 5 Try.underlying35 Try.underlying5 0 c 9 Try.underlying9
    | some a =>
      rw [run_convert_bytes_string w 35 9 5 _ _ c Try.underlying35 Try.underlying5 Try.underlying9]
      exact run_bytesToString w a 0 c [] (by simp [loadCells, loadCellsFrom])
  · obtain ⟨b, off, rfl, hc⟩ := hb h0
    refine run_convert_bytes_arg (P := Try.prog) w 35 5 Try.underlying35 Try.underlying5 b off l.length c (l.map fun (z : Nat) => (z : Int)) (by simp) (fun i hi => ?_) 9 Try.underlying9
    rw [hc i hi]
    simp [hi, e8]

/-! ### A slice of bytes of the call's own, that grows -/
/-- v is a slice of the call's own (a block from base on) with just these bytes -/
def Own (w : World) (base : Nat) (v : Value) (l : List Nat) : Prop := w.ownsRow base 5 1 v l.length (l.map fun z => Value.int .u8 (z : Nat))
theorem info_byte : (Try.prog.info? 5).map (fun i => (i.zero, i.size, i.bytes)) = some (some (.int .u8 0), 1, 1) := by kernel_rfl
theorem own_new (w : World) : Own (w.alloc (.cells #[] 5)) w.heap.size (.slice (some ⟨w.heap.size, 0, none⟩) 0 0) [] :=
  World.ownsRow_made w #[] 0 (Nat.le_refl _) (by simp [maxLen]) rfl
theorem own_nil (w : World) (base : Nat) : Own w base (.slice none 0 0) [] := World.ownsRow_nil w base _ 1
theorem Own.mono {w : World} {base base' : Nat} {v : Value} {l : List Nat} (h : Own w base v l) (hb : base' ≤ base) : Own w base' v l := by
  refine ⟨h.1, ?_⟩
  rcases h.2 with hn | ⟨g, cap, cur, rfl, hg, rest⟩
  · exact .inl hn
  · exact .inr ⟨g, cap, cur, rfl, by omega, rest⟩
/-- it stays while its block stays -/
theorem Own.stays {w w' : World} {base : Nat} {v : Value} {l : List Nat} (h : Own w base v l) (hs : ∀ g, v.ownBlock = some g → w'.heap[g]? = w.heap[g]?) : Own w' base v l := by
  refine ⟨h.1, ?_⟩
  rcases h.2 with hn | ⟨g, cap, cur, rfl, hg, hgg, rest⟩
  · exact .inl hn
  · exact .inr ⟨g, cap, cur, rfl, hg, (hs g rfl).trans hgg, rest⟩
theorem Own.block {w : World} {base : Nat} {v : Value} {l : List Nat} (h : Own w base v l) {g : Nat} (hg : v.ownBlock = some g) : base ≤ g ∧ g < w.heap.size := World.ownsRow.lt h g hg
theorem Own.below {w w' : World} {base : Nat} {v : Value} {l : List Nat} (h : Own w base v l) (hb : Below w.heap.size w w') : Own w' base v l := h.stays fun g hg => hb.block g (h.block hg).2
theorem Own.part {w : World} {base : Nat} {v : Value} {l : List Nat} (h : Own w base v l) (hl : AreBytes l) : ∃ a c, v = .slice a l.length c ∧ (⟨a, l, c⟩ : Part).ok w ∧ (∀ x, a = some x → ∃ g, x = ⟨g, 0, none⟩ ∧ v.ownBlock = some g) ∧ (a = none → c = 0) := by
  rcases h.2 with ⟨rfl, h0⟩ | ⟨g, cap, cur, rfl, hg, hgg, hlc, hcm, hcs, htake⟩
  · have hl0 : l = [] := List.eq_nil_of_length_eq_zero h0
    subst hl0
    exact ⟨none, 0, rfl, part_nil w, (fun x hx => by cases hx), fun _ => rfl⟩
  · refine ⟨some ⟨g, 0, none⟩, cap, rfl, ⟨hlc, hcm, fun hn => ⟨g, 0, rfl, fun j hj => ?_⟩, hl⟩, (fun x hx => ⟨g, by cases hx; rfl, rfl⟩), fun hx => by cases hx⟩
    simp only at hj
    have := World.ownsRow.cells h (g := g) rfl j (.int .u8 (l[j] : Nat)) (by simp [hj])
    have hadd : (⟨g, 0, none⟩ : Addr).add j = ⟨g, 0 + j, none⟩ := by unfold Addr.add; split <;> simp_all
    rw [hadd] at this
    exact this

theorem ok_inj {α : Type} {a b : α} {w w' : World} (h : (Result.ok a w : Result α) = .ok b w') : a = b ∧ w = w' := by
  cases h
  exact ⟨rfl, rfl⟩

/-- append of bytes that lie somewhere onto a slice of the call's own; the new slice lies where it lay, or in a new block -/
theorem app_row (w : World) (base : Nat) (v : Value) (l : List Nat) (h : Own w base v l) (a : Option Addr) (m : List Nat) (c : Nat) (hm : Bs w a m) (hsz : l.length + m.length ≤ 1099511627776) (hbase : base ≤ w.heap.size) :
    ∃ v' w', (Builtin.append_ #[35, 35] 35 #[v, .slice a m.length c]).run Try.prog w = .ok v' w' ∧ Own w' base v' (l ++ m) ∧ w.grownBy w' v.ownBlock ∧ (∀ g, v'.ownBlock = some g → v.ownBlock = some g ∨ w.heap.size ≤ g) := by
  obtain ⟨i, hi, hz, hsize, hby⟩ := info_parts info_byte
  have hmx : l.length + m.length ≤ maxLen := by unfold maxLen; omega
  rcases Nat.eq_zero_or_pos m.length with h0 | h0
  · have hl : m = [] := List.eq_nil_of_length_eq_zero h0
    have hrun : (Builtin.append_ #[35, 35] 35 #[v, .slice a 0 c]).run Try.prog w = .ok v w := by
      rcases h.2 with ⟨rfl, h00⟩ | ⟨g, cap, cur, rfl, _, _, hnc, _⟩
      · cases a <;> simp [Builtin.append_, run_underlying Try.underlying35, sizeOf, typeInfo, hi, Builtin.lenOf, Builtin.firstCells, loadCells, loadCellsFrom]
      · cases a <;> simp [Builtin.append_, run_underlying Try.underlying35, sizeOf, typeInfo, hi, Builtin.lenOf, Builtin.firstCells, loadCells, loadCellsFrom, hnc, storeCells]
    rw [h0]
    exact ⟨v, w, hrun, by rw [hl, List.append_nil]; exact h, ⟨rfl, rfl, rfl, Nat.le_refl _, fun _ _ _ => rfl⟩, fun g hg => .inl hg⟩
  · obtain ⟨b, off, ha, hc⟩ := hm h0
    have hnews : ∀ j u, (m.map fun z => Value.int .u8 (z : Nat))[j]? = some u → w.cell? ((⟨b, off, none⟩ : Addr).add j) = some u := by
      intro j u hu
      have hj : j < m.length := by
        rcases Nat.lt_or_ge j m.length with hj | hj
        · exact hj
        · simp [List.getElem?_eq_none hj] at hu
      have hadd : (⟨b, off, none⟩ : Addr).add j = ⟨b, off + j, none⟩ := by unfold Addr.add; split <;> simp_all
      rw [hadd, hc j hj]
      simp [hj] at hu
      rw [← hu]
      rfl
    have hone : ∀ u ∈ (m.map fun z => Value.int .u8 (z : Nat)), u.oneCell' = true := by
      intro u hu
      simp only [List.mem_map] at hu
      obtain ⟨z, _, rfl⟩ := hu
      rfl
    have hlen1 : (m.map fun z => Value.int .u8 (z : Nat)).length = m.length * i.size := by rw [hsize]; simp
    obtain ⟨v', w', hrun, ho, hg, _⟩ := run_append_own (P := Try.prog) w base 35 35 5 i (.int .u8 0) 1 1 Try.underlying35 hi hz hsize hby rfl (by decide) v l.length _ h ⟨b, off, none⟩ m.length c
      _ (by simp) hnews hone hmx (by omega) hbase
    have hnew : ∀ g, v'.ownBlock = some g → v.ownBlock = some g ∨ w.heap.size ≤ g := by
      intro g hgv
      rcases h.2 with ⟨rfl, h00⟩ | ⟨g0, cap, cur, rfl, hbg, hgg, hlc, hcm, hcs, htake⟩
      · have hr := run_append_nil (P := Try.prog) w 35 35 5 i (.int .u8 0) Try.underlying35 hi hz ⟨b, off, none⟩ m.length c _ hlen1 hnews h0 (by unfold maxLen at hmx; omega) (by rw [hby]; omega)
        obtain ⟨rfl, _⟩ := ok_inj (hrun.symm.trans hr)
        simp [Value.ownBlock] at hgv
        exact .inr (by omega)
      · by_cases hroom : l.length + m.length ≤ cap
        · have hr := run_append_room (P := Try.prog) w 35 35 5 i Try.underlying35 hi g0 l.length cap cur hgg ⟨b, off, none⟩ m.length c _ hlen1 hnews hone hroom (by rw [hsize]; simp; omega)
          obtain ⟨rfl, _⟩ := ok_inj (hrun.symm.trans hr)
          exact .inl (by simpa [Value.ownBlock] using hgv)
        · have holds := World.ownsRow.cells h (g := g0) rfl
          have hr := run_append_grow (P := Try.prog) w 35 35 5 i (.int .u8 0) Try.underlying35 hi hz ⟨g0, 0, none⟩ l.length cap _ (by rw [hsize]; simp) holds ⟨b, off, none⟩ m.length c _ hlen1 hnews (by omega) (by unfold maxLen at hmx; omega) (by rw [hby]; exact growslice_fits (by omega) (by omega))
          obtain ⟨rfl, _⟩ := ok_inj (hrun.symm.trans hr)
          simp [Value.ownBlock] at hgv
          exact .inr (by omega)
    rw [← ha] at hrun
    refine ⟨v', w', hrun, ?_, hg, hnew⟩
    unfold Own
    rw [List.length_append, List.map_append]
    exact ho

/-- append of a text likewise -/
theorem app_text (w : World) (base : Nat) (v : Value) (l : List Nat) (h : Own w base v l) (s : ByteArray) (hsz : l.length + s.size ≤ 1099511627776) (hbase : base ≤ w.heap.size) :
    ∃ v' w', (Builtin.append_ #[35, 9] 35 #[v, .string s]).run Try.prog w = .ok v' w' ∧ Own w' base v' (l ++ natsOf s) ∧ w.grownBy w' v.ownBlock ∧ (∀ g, v'.ownBlock = some g → v.ownBlock = some g ∨ w.heap.size ≤ g) := by
  obtain ⟨i, hi, hz, hsize, hby⟩ := info_parts info_byte
  have hmx : l.length + s.size ≤ maxLen := by unfold maxLen; omega
  have hsc : (natsOf s).map (fun z => Value.int .u8 (z : Nat)) = Lib.strCells s := by simp [natsOf, Lib.strCells]
  obtain ⟨v', w', hrun, ho, hg, _⟩ := Lib.run_append_own_string (P := Try.prog) w base 35 9 35 5 i Try.underlying35 Try.underlying9 hi hz hsize hby v l.length _ h s hmx (by omega) hbase
  refine ⟨v', w', hrun, ?_, hg, ?_⟩
  · unfold Own
    rw [List.length_append, List.map_append, hsc, natsOf_length]
    exact ho
  · intro g hgv
    rcases h.2 with ⟨rfl, h00⟩ | ⟨g0, cap, cur, rfl, hbg, hgg, hlc, hcm, hcs, htake⟩
    · by_cases hm : s.size = 0
      · have hf := Lib.run_firstCells_string (P := Try.prog) w 1 s
        rw [hm] at hf
        have hr : (Builtin.append_ #[35, 9] 35 #[.slice none 0 0, .string s]).run Try.prog w = .ok (.slice none 0 0) w := by
          have hn : Lib.strCells s = [] := List.eq_nil_of_length_eq_zero (by rw [Lib.strCells_length]; exact hm)
          simp [Builtin.append_, run_underlying Try.underlying35, run_underlying Try.underlying9, sizeOf, typeInfo, hi, hsize, Builtin.lenOf, hm, hf]
        obtain ⟨rfl, _⟩ := ok_inj (hrun.symm.trans hr)
        simp [Value.ownBlock] at hgv
      · have hr := run_append_nil_string (P := Try.prog) w 35 9 35 5 i (.int .u8 0) Try.underlying35 Try.underlying9 hi hz s (by omega) (by unfold maxLen at hmx; omega) (by rw [hby]; omega)
        obtain ⟨rfl, _⟩ := ok_inj (hrun.symm.trans hr)
        simp [Value.ownBlock] at hgv
        exact .inr (by omega)
    · by_cases hroom : l.length + s.size ≤ cap
      · have hr := Lib.run_append_room_string (P := Try.prog) w 35 9 35 5 i Try.underlying35 Try.underlying9 hi hsize g0 l.length cap cur hgg s hroom (by omega)
        obtain ⟨rfl, _⟩ := ok_inj (hrun.symm.trans hr)
        exact .inl (by simpa [Value.ownBlock] using hgv)
      · have holds := World.ownsRow.cells h (g := g0) rfl
        have hr := Lib.run_append_grow_string (P := Try.prog) w 35 9 35 5 i (.int .u8 0) Try.underlying35 Try.underlying9 hi hz ⟨g0, 0, none⟩ l.length cap _ (by rw [hsize]; simp) holds s (by omega) (by unfold maxLen at hmx; omega) (by rw [hby]; exact growslice_fits (by omega) (by omega))
        obtain ⟨rfl, _⟩ := ok_inj (hrun.symm.trans hr)
        simp [Value.ownBlock] at hgv
        exact .inr (by omega)

/-- an append whose run is known -/
theorem wpList_append_run {P : Program} {ops : Array Oper} {rest : List Oper} {o : Oper} {a : Act} {Q : Exit → Act → World → Prop} {w : World} (hgd : Region.wanted o (yielded ops a.tmps) = true) (s x : Operand) (t t2 ty : TypeId)
    (ho : o.op = .call { callee := .builtin .append, args := #[s, x], argTypes := #[t, t2] }) (hty : o.type = ty) (sv xv v' : Value) (w' : World) (hs : a.eval s = sv) (hx : a.eval x = xv)
    (hrun : (Builtin.append_ #[t, t2] ty #[sv, xv]).run P w = .ok v' w') (h : wpList P ops Q rest (a.put o.dst v') w') : wpList P ops Q (o :: rest) a w := by
  subst hty
  unfold wpList
  rw [if_pos hgd]
  refine .inl ?_
  unfold Oper.wp execOp
  simp only [ho, resolve, invoke, builtin, Sem.run_bind, Sem.run_pure, Result.andThen_ok, List.map_toArray, List.map_cons, List.map_nil, hs, hx, hrun]
  exact h
end Go.Proofs.Ytpnhgongjfknbaa
