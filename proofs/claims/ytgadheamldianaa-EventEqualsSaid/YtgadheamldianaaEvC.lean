/-
  Pixels, rectangles, images.
-/
import Derived.Test.YtgadheamldianaaEvA
import Derived.Deep.QuietTactic
import Derived.BigQuiet
import Derived.Laws.BitsAllLaws
import Derived.Shelf.Abstract
import Derived.Laws.Cover1
import Derived.Laws.Small
import Derived.Laws.MakeOwn

set_option maxRecDepth 100000
namespace Go.Proofs.Ytgadheamldianaa
open Go.RowKit pxm

/-- a callee that only reads, as go_quiet wants it: `with_reducible exact .. _` -/
theorem quietly {P : Program} {f : FuncId} {args : Array Value} {v : Value} (h : ∀ w, Calls P f args w fun e w' => e = .returned v ∧ Drew w w') (w : World) : ∀ n, Calls P f args (w.drewN n) fun e w'' => e = .returned v ∧ ∃ m, w'' = w.drewN m :=
  fun _ => Calls.quiet_of (h _)
theorem bel_of_drew {P : Program} {f : FuncId} {args : Array Value} {v : Value} {w : World} (h : Calls P f args w fun e w' => e = .returned v ∧ Drew w w') : Calls P f args w fun e w' => e = .returned v ∧ Below w.heap.size w w' :=
  h.mono fun _ _ ⟨he, hd⟩ => ⟨he, hd.below _⟩
/-! ### The three closures: they read what they hold -/
end Go.Proofs.Ytgadheamldianaa

namespace Go.Proofs.Ytgadheamldianaa
open Go.RowKit pxm

theorem or_part (f : Nat → Nat) (hf : ∀ k, k < 4 → f k < 256) (k : Nat) (hk : k < 4) : bits .or .u32 (part4 f k : Nat) ((f k : Int) * (256 ^ k : Nat)) = (part4 f (k + 1) : Nat) := by
  have h1 := part4_lt hf k (by omega)
  have h2 := part4_lt hf (k + 1) (by omega)
  have e : (f k : Int) * (256 ^ k : Nat) = ((f k * 256 ^ k : Nat) : Int) := by rw [Int.natCast_mul]
  have h3 : 256 ^ (k + 1) ≤ 256 ^ 4 := Nat.pow_le_pow_right (by omega) (by omega)
  have h4 : (256 : Nat) ^ 4 = 4294967296 := by decide
  have h5 : part4 f (k + 1) = part4 f k + f k * 256 ^ k := rfl
  rw [e, u32_or_nat _ _ (by omega) (by omega), or_add h1]
  rfl
theorem part4_congr {f g : Nat → Nat} (h : ∀ k, k < 4 → f k = g k) : part4 f 4 = part4 g 4 := by
  simp only [part4]
  rw [h 0 (by omega), h 1 (by omega), h 2 (by omega), h 3 (by omega)]
theorem part4_times (p : P4) (q : Nat) : part4 (fun k => by_ (p.at_ k) q) 4 = (p.times q).num := by
  rw [← part4_num]
  exact part4_congr fun k hk => by
    obtain rfl | rfl | rfl | rfl : k = 0 ∨ k = 1 ∨ k = 2 ∨ k = 3 := by omega
    all_goals rfl
theorem part4_over (s d : P4) : part4 (fun k => s.at_ k + by_ (d.at_ k) (255 - s.a)) 4 = (s.over d).num := by
  rw [← part4_num]
  exact part4_congr fun k hk => by
    obtain rfl | rfl | rfl | rfl : k = 0 ∨ k = 1 ∨ k = 2 ∨ k = 3 := by omega
    all_goals rfl
theorem over_at (s d : P4) (k : Nat) (hk : k < 4) : s.at_ k + by_ (d.at_ k) (255 - s.a) = (s.over d).at_ k := by
  obtain rfl | rfl | rfl | rfl : k = 0 ∨ k = 1 ∨ k = 2 ∨ k = 3 := by omega
  all_goals rfl
theorem Drew.blk {w w' : World} {g : Nat} {cs : List Value} (h : Drew w w') (hb : Blk w g cs) : Blk w' g cs := hb.below' (h.below _)

theorem at4 (p : P4) : p.at_ 3 = p.r ∧ p.at_ 2 = p.g ∧ p.at_ 1 = p.b ∧ p.at_ 0 = p.a := ⟨rfl, rfl, rfl, rfl⟩
theorem results_tmp4 {fn : Func} {t u v x : Tmp} (h : fn.results = #[.tmp t, .tmp u, .tmp v, .tmp x]) (tmps : Array Value) (P : Program) (w : World) :
    (results fn tmps).run P w = .ok (.tuple #[tmps.getD t undef, tmps.getD u undef, tmps.getD v undef, tmps.getD x undef]) w := by
  simp [results, h]
theorem max3 (x y z : Int) : ∃ M : Int, (∀ (P : Program) (w : World) (ts : Array TypeId) (t : TypeId), (Builtin.max_ ts t #[.int .i64 x, .int .i64 y, .int .i64 z]).run P w = .ok (.int .i64 M) w) ∧ (∀ a, M ≤ a ↔ x ≤ a ∧ y ≤ a ∧ z ≤ a) := by
  refine ⟨_, fun P w ts t => run_max_int3 w ts t _ _ _ x y z, fun a => ?_⟩
  split <;> split <;> omega
theorem min3 (x y z : Int) : ∃ M : Int, (∀ (P : Program) (w : World) (ts : Array TypeId) (t : TypeId), (Builtin.min_ ts t #[.int .i64 x, .int .i64 y, .int .i64 z]).run P w = .ok (.int .i64 M) w) ∧ (∀ a, a ≤ M ↔ a ≤ x ∧ a ≤ y ∧ a ≤ z) := by
  refine ⟨_, fun P w ts t => run_min_int3 w ts t _ _ _ x y z, fun a => ?_⟩
  split <;> split <;> omega
end Go.Proofs.Ytgadheamldianaa

namespace Go.Proofs.Ytgadheamldianaa
open Go.RowKit pxm

def eP (p : P4) : Value := .int .u32 (p.num : Nat)
def eN (q : Nat) : Value := .int .i64 (q : Nat)
theorem foldl_take {α β : Type} (f : β → α → β) (b : β) {l : List α} {k : Nat} (hk : k < l.length) : (l.take (k + 1)).foldl f b = f ((l.take k).foldl f b) l[k] := by
  rw [List.take_succ_eq_append_getElem hk, List.foldl_append]
  rfl
theorem overAll_take {p : P4} {l : List P4} {k : Nat} (hk : k < l.length) : overAll p (l.take (k + 1)) = (overAll p (l.take k)).over l[k] := foldl_take _ _ hk
theorem stack_take {d : P4} {l : List P4} {k : Nat} (hk : k < l.length) : stack d (l.take (k + 1)) = l[k].over (stack d (l.take k)) := foldl_take _ _ hk
theorem timesAll_take {p : P4} {l : List Nat} {k : Nat} (hk : k < l.length) : timesAll p (l.take (k + 1)) = (timesAll p (l.take k)).times l[k] := foldl_take _ _ hk
theorem right_take {l : List P4} (h : ∀ d ∈ l, d.Right) (k : Nat) : ∀ d ∈ l.take k, d.Right := fun d hd => h d (List.mem_of_mem_take hd)

end Go.Proofs.Ytgadheamldianaa

namespace Go.Proofs.Ytgadheamldianaa
open Go.RowKit pxm

def pxm.P4.cs (p : P4) : List Value := [.int .i64 (p.r : Nat), .int .i64 (p.g : Nat), .int .i64 (p.b : Nat), .int .i64 (p.a : Nat)]
/-- those ahead of k of one row, and from there on of another one -/
def mix (A B : List Value) (k : Nat) : List Value := A.take k ++ B.drop k
theorem mix_0 (A B : List Value) : mix A B 0 = B := by simp [mix]
theorem mix_all {A B : List Value} {k : Nat} (h : A.length = k) (h2 : B.length = k) : mix A B k = A := by
  unfold mix
  rw [List.take_of_length_le (by omega), List.drop_of_length_le (by omega), List.append_nil]
theorem mix_at {A B : List Value} {k j : Nat} (h : A.length = B.length) (hk : k < A.length) (hj : k ≤ j) : (mix A B k)[j]? = B[j]? := by
  unfold mix
  have hl : (A.take k).length = k := by rw [List.length_take]; omega
  rw [List.getElem?_append_right (by omega), List.getElem?_drop, hl]
  congr 1
  omega
theorem mix_step {A B : List Value} {k : Nat} {v : Value} (h : A.length = B.length) (hv : A[k]? = some v) : (mix A B k).set k v = mix A B (k + 1) := by
  obtain ⟨hk, rfl⟩ := List.getElem?_eq_some_iff.1 hv
  unfold mix
  have hl : (A.take k).length = k := by rw [List.length_take]; omega
  rw [List.set_append, if_neg (by omega), hl, Nat.sub_self, List.drop_eq_getElem_cons (show k < B.length by omega), List.set_cons_zero, List.take_succ_eq_append_getElem hk, List.append_assoc]
  rfl

theorem all_snocI {α : Type} {p : α → Bool} {l : List α} {k : Nat} (h : (l.take k).all p = true) (hk : k < l.length) (hp : p l[k] = true) : (l.take (k + 1)).all p = true := by
  rw [List.take_succ_eq_append_getElem hk, List.all_append, h]
  simp [hp]
theorem all_badI {α : Type} {p : α → Bool} {l : List α} {k : Nat} (hk : k < l.length) (hp : p l[k] = false) : l.all p = false := by
  rw [List.all_eq_false]
  exact ⟨_, List.getElem_mem hk, by rw [hp]; simp⟩
/-- is a part right below a? -/
def okp (a x : Int) : Bool := decide (0 ≤ x) && (decide (x ≤ 255) && decide (x ≤ a))
def drB (x0 x1 x2 x3 : Int) : Bool := [x0, x1, x2, x3].all (okp x3)
theorem drB_yes {x0 x1 x2 x3 : Int} (h : drB x0 x1 x2 x3 = true) : ∃ p : P4, p.Right ∧ x0 = (p.r : Nat) ∧ x1 = (p.g : Nat) ∧ x2 = (p.b : Nat) ∧ x3 = (p.a : Nat) := by
  unfold drB okp at h
  simp only [List.all_cons, List.all_nil, Bool.and_eq_true, Bool.and_true, decide_eq_true_eq] at h
  refine ⟨⟨x0.toNat, x1.toNat, x2.toNat, x3.toNat⟩, ⟨?_, ?_, ?_, ?_⟩, ?_, ?_, ?_, ?_⟩ <;> simp only <;> omega
theorem drB_no {x0 x1 x2 x3 : Int} (h : drB x0 x1 x2 x3 = false) : ¬ (0 ≤ x0 ∧ 0 ≤ x1 ∧ 0 ≤ x2 ∧ x0 ≤ x3 ∧ x1 ≤ x3 ∧ x2 ≤ x3 ∧ x3 ≤ 255) := by
  intro h2
  have : drB x0 x1 x2 x3 = true := by
    unfold drB okp
    simp only [List.all_cons, List.all_nil, Bool.and_eq_true, Bool.and_true, decide_eq_true_eq]
    omega
  rw [h] at this
  cases this
theorem drB_right (p : P4) (hp : p.Bytes) : drB (p.r : Nat) (p.g : Nat) (p.b : Nat) (p.a : Nat) = p.rightB := by
  obtain ⟨h1, h2, h3, h4⟩ := hp
  rw [Bool.eq_iff_iff, P4.rightB_iff]
  unfold drB okp P4.Right
  simp only [List.all_cons, List.all_nil, Bool.and_eq_true, Bool.and_true, decide_eq_true_eq]
  omega
theorem okp_no1 {a x : Int} (h : x < 0) : okp a x = false := by unfold okp; simp; omega
theorem okp_no2 {a x : Int} (h : 255 < x) : okp a x = false := by unfold okp; simp; omega
theorem okp_no3 {a x : Int} (h : a < x) : okp a x = false := by unfold okp; simp; omega
theorem okp_yes {a x : Int} (h : ¬ x < 0) (h2 : ¬ 255 < x) (h3 : ¬ a < x) : okp a x = true := by unfold okp; simp; omega
theorem cs_len (p : P4) : p.cs.length = 4 := rfl
theorem times_part (p : P4) (hp : p.Bytes) (q : Nat) {k : Nat} (hk : k < 4) : ∃ x, x < 256 ∧ p.cs[k]? = some (.int .i64 (x : Nat)) ∧ (p.times q).cs[k]? = some (.int .i64 (by_ x q : Nat)) := by
  obtain ⟨h1, h2, h3, h4⟩ := hp
  obtain rfl | rfl | rfl | rfl : k = 0 ∨ k = 1 ∨ k = 2 ∨ k = 3 := by omega
  · exact ⟨_, h1, rfl, rfl⟩
  · exact ⟨_, h2, rfl, rfl⟩
  · exact ⟨_, h3, rfl, rfl⟩
  · exact ⟨_, h4, rfl, rfl⟩
end Go.Proofs.Ytgadheamldianaa

namespace Go.Proofs.Ytgadheamldianaa
open Go.RowKit

structure Bx where
  a : Int
  b : Int
  c : Int
  d : Int
deriving DecidableEq
def Bx.v (r : Bx) : Value := .agg #[.int .i64 r.a, .int .i64 r.b, .int .i64 r.c, .int .i64 r.d]
def Bx.cs (r : Bx) : List Value := [.int .i64 r.a, .int .i64 r.b, .int .i64 r.c, .int .i64 r.d]
def Bx.o : Bx := ⟨0, 0, 0, 0⟩
def Bx.emp (r : Bx) : Bool := decide (r.c ≤ r.a) || decide (r.d ≤ r.b)
def Bx.nrm (r : Bx) : Bx := if r.emp = true then Bx.o else r
def Bx.has (r : Bx) (x y : Int) : Bool := decide (r.a ≤ x) && (decide (x < r.c) && (decide (r.b ≤ y) && decide (y < r.d)))

theorem ret_b {a b : Bool} (h : a = b) : Ending.returned (.bool a) = .returned (.bool b) := by rw [h]
theorem bx_eq (r s : Bx) (w : World) : (binOp .eql 43 r.v s.v).run Try.prog w = .ok (.bool (decide (r = s))) w := by
  obtain ⟨a, b, c, d⟩ := r
  obtain ⟨a2, b2, c2, d2⟩ := s
  unfold Bx.v
  simp only
  by_cases h0 : a = a2
  · by_cases h1 : b = b2
    · by_cases h2 : c = c2
      · by_cases h3 : d = d2
        · subst h0; subst h1; subst h2; subst h3
          simp only [decide_true]
          go_simp
        · rw [decide_eq_false (by simp [h3])]
          subst h0; subst h1; subst h2
          have t : (d == d2) = false := by simpa using h3
          go_simp
      · rw [decide_eq_false (by simp [h2])]
        subst h0; subst h1
        have t : (c == c2) = false := by simpa using h2
        go_simp
    · rw [decide_eq_false (by simp [h1])]
      subst h0
      have t : (b == b2) = false := by simpa using h1
      go_simp
  · rw [decide_eq_false (by simp [h0])]
    have t : (a == a2) = false := by simpa using h0
    go_simp
theorem bx_neq (r s : Bx) (w : World) : (binOp .neq 43 r.v s.v).run Try.prog w = .ok (.bool (!decide (r = s))) w := by
  obtain ⟨a, b, c, d⟩ := r
  obtain ⟨a2, b2, c2, d2⟩ := s
  unfold Bx.v
  simp only
  by_cases h0 : a = a2
  · by_cases h1 : b = b2
    · by_cases h2 : c = c2
      · by_cases h3 : d = d2
        · subst h0; subst h1; subst h2; subst h3
          simp only [decide_true]
          go_simp
        · rw [decide_eq_false (by simp [h3])]
          subst h0; subst h1; subst h2
          have t : (d == d2) = false := by simpa using h3
          go_simp
      · rw [decide_eq_false (by simp [h2])]
        subst h0; subst h1
        have t : (c == c2) = false := by simpa using h2
        go_simp
    · rw [decide_eq_false (by simp [h1])]
      subst h0
      have t : (b == b2) = false := by simpa using h1
      go_simp
  · rw [decide_eq_false (by simp [h0])]
    have t : (a == a2) = false := by simpa using h0
    go_simp
end Go.Proofs.Ytgadheamldianaa

namespace Go.Proofs.Ytgadheamldianaa
open Go.RowKit

def mx (x y : Int) : Int := if y > x then y else x
def mn (x y : Int) : Int := if y < x then y else x
def Bx.cut1 (r s : Bx) : Bx := ⟨mx r.a s.a, mx r.b s.b, mn r.c s.c, mn r.d s.d⟩
def Bx.cut (r : Bx) (l : List Bx) : Bx := (l.foldl Bx.cut1 r).nrm
def BRow (w : World) (A : Option Addr) (l : List Bx) : Prop := SRow 4 Bx.cs w A l
theorem BRow.below {w w' : World} {A : Option Addr} {l : List Bx} (h : BRow w A l) (hb : Below w.heap.size w w') : BRow w' A l := SRow.below h hb
theorem BRow.at_ {w : World} {A : Option Addr} {l : List Bx} (h : BRow w A l) {j : Nat} (hj : j < l.length) : ∃ b off, A = some ⟨b, off, none⟩ ∧ w.cell? ⟨b, off + j * 4, none⟩ = some (.int .i64 l[j].a) ∧ w.cell? ⟨b, off + j * 4 + 1, none⟩ = some (.int .i64 l[j].b) ∧ w.cell? ⟨b, off + j * 4 + 2, none⟩ = some (.int .i64 l[j].c) ∧ w.cell? ⟨b, off + j * 4 + 3, none⟩ = some (.int .i64 l[j].d) := by
  obtain ⟨b, off, e, hc⟩ := h (by omega)
  exact ⟨b, off, e, hc j hj 0 _ rfl, hc j hj 1 _ rfl, hc j hj 2 _ rfl, hc j hj 3 _ rfl⟩
theorem foldl_snoc {α β : Type} (f : β → α → β) (b : β) (l : List α) {k : Nat} (hk : k < l.length) : (l.take (k + 1)).foldl f b = f ((l.take k).foldl f b) l[k] := by
  rw [List.take_succ_eq_append_getElem hk, List.foldl_append]
  rfl

/-! ### Join -/
def Bx.around (r s : Bx) : Bx := if r = Bx.o then s else if s = Bx.o then r else ⟨mn r.a s.a, mn r.b s.b, mx r.c s.c, mx r.d s.d⟩
def Bx.join1 (r s : Bx) : Bx := r.around s.nrm
def Bx.join (r : Bx) (l : List Bx) : Bx := l.foldl Bx.join1 r.nrm
theorem below3 {w : World} (o1 o2 o3 : Obj) : Below w.heap.size w (((w.alloc o1).alloc o2).alloc o3) := (((Below.refl _ _).alloc (Nat.le_refl _) _).alloc (by simp) _).alloc (by simp; omega) _
/-- how the world stands in Join's round: block g0 holds qs till it is written (4), which is behind its being read (0) -/
def JJ (g0 g1 z : Nat) (qs ss us os : List Value) (L : Nat → Bool) (wx : World) : Prop := (L 0 = false ∨ L 4 = false → Blk wx g0 qs) ∧ (L 4 = true → Blk wx g0 us) ∧ Blk wx g1 ss ∧ Blk wx z os
theorem JJ.below {g0 g1 z : Nat} {qs ss us os : List Value} {L : Nat → Bool} {w w' : World} (h : JJ g0 g1 z qs ss us os L w) (hb : Below w.heap.size w w') : JJ g0 g1 z qs ss us os L w' :=
  ⟨fun e => (h.1 e).below' hb, fun e => (h.2.1 e).below' hb, h.2.2.1.below' hb, h.2.2.2.below' hb⟩
end Go.Proofs.Ytgadheamldianaa

namespace Go.Proofs.Ytgadheamldianaa
open Go.RowKit

def Bx.within (r s : Bx) : Bool := decide (r.cut [s] = r.nrm)
theorem bcs_len (x : Bx) : (Bx.cs x).length = 4 := rfl
theorem brow_new (w : World) (l : List Bx) {g : Nat} (hg : g = w.heap.size) : BRow (w.alloc (.cells (l.flatMap Bx.cs).toArray 43)) (some ⟨g, 0, none⟩) l := srow_new (enc := Bx.cs) bcs_len w l _ hg
/-- it is a slice of these -/
def sayB (l : List Bx) : regs.Say regs.bl := ⟨fun v w => ∃ A c, v = .slice A l.length c ∧ BRow w A l ∧ l.length ≤ c ∧ c ≤ maxLen, fun _ _ _ ⟨A, c, h, hr, hc⟩ hb => ⟨A, c, h, hr.below hb, hc⟩⟩
def J2I (g0 g1 : Nat) (p q : List Value) (w : World) : Prop := Blk w g0 p ∧ Blk w g1 q
theorem J2I.below {g0 g1 : Nat} {p q : List Value} {w w' : World} (h : J2I g0 g1 p q w) (hb : Below w.heap.size w w') : J2I g0 g1 p q w' := ⟨h.1.below' hb, h.2.below' hb⟩
theorem ml : (9223372036854775807 : Nat) = 9223372036854775807 := rfl
theorem le_ml {n c : Nat} (h : n ≤ c) (hm : c ≤ maxLen) : n ≤ 9223372036854775807 := by unfold maxLen at hm; omega
/-! ### Area -/
/-- numbers of which something is promised -/
def Bx.rt (r : Bx) : Bool := decide ((-1073741824 ≤ r.a ∧ r.a ≤ 1073741824) ∧ (-1073741824 ≤ r.b ∧ r.b ≤ 1073741824) ∧ (-1073741824 ≤ r.c ∧ r.c ≤ 1073741824) ∧ (-1073741824 ≤ r.d ∧ r.d ≤ 1073741824))
theorem Bx.rt_of {r : Bx} (h : r.rt = true) : (-1073741824 ≤ r.a ∧ r.a ≤ 1073741824) ∧ (-1073741824 ≤ r.b ∧ r.b ≤ 1073741824) ∧ (-1073741824 ≤ r.c ∧ r.c ≤ 1073741824) ∧ (-1073741824 ≤ r.d ∧ r.d ≤ 1073741824) := of_decide_eq_true h
theorem Bx.emp_no {r : Bx} (h : r.emp = false) : r.a < r.c ∧ r.b < r.d := by
  unfold Bx.emp at h
  rw [Bool.or_eq_false_iff, decide_eq_false_iff_not, decide_eq_false_iff_not] at h
  omega
theorem Bx.emp_yes {r : Bx} (h : r.emp = true) : r.c ≤ r.a ∨ r.d ≤ r.b := by
  unfold Bx.emp at h
  rw [Bool.or_eq_true, decide_eq_true_eq, decide_eq_true_eq] at h
  exact h
theorem Bx.nrm_cases (r : Bx) : (r.emp = true ∧ r.nrm = Bx.o) ∨ (r.emp = false ∧ r.nrm = r) := by
  cases h : r.emp with
  | true => exact .inl ⟨rfl, by unfold Bx.nrm; rw [if_pos h]⟩
  | false => exact .inr ⟨rfl, by unfold Bx.nrm; rw [if_neg (by rw [h]; decide)]⟩
def Bx.area (r : Bx) : Int := (r.nrm.c - r.nrm.a) * (r.nrm.d - r.nrm.b)
theorem Bx.sides {r : Bx} (h : r.rt = true) : (0 ≤ r.nrm.c - r.nrm.a ∧ r.nrm.c - r.nrm.a ≤ 2147483648) ∧ (0 ≤ r.nrm.d - r.nrm.b ∧ r.nrm.d - r.nrm.b ≤ 2147483648) := by
  obtain ⟨⟨a1, a2⟩, ⟨b1, b2⟩, ⟨c1, c2⟩, d1, d2⟩ := Bx.rt_of h
  rcases r.nrm_cases with ⟨_, e⟩ | ⟨h2, e⟩
  · rw [e]; decide
  · rw [e]
    have := Bx.emp_no h2
    omega
theorem mul_bd {x y : Int} (h1 : 0 ≤ x) (h2 : x ≤ 2147483648) (h3 : 0 ≤ y) (h4 : y ≤ 2147483648) : 0 ≤ x * y ∧ x * y ≤ 4611686018427387904 := by
  have g1 : 0 ≤ x * y := Int.mul_nonneg h1 h3
  have g2 : 0 ≤ (2147483648 - x) * y := Int.mul_nonneg (by omega) h3
  rw [Int.sub_mul] at g2
  omega
/-! ### Grow -/
def Bx.grow (r : Bx) (n : Int) : Bx := if r.emp = true then Bx.o else Bx.nrm ⟨r.a - n, r.b - n, r.c + n, r.d + n⟩
def Bx.wide (r : Bx) : Bool := decide ((-1099511627776 ≤ r.a ∧ r.a ≤ 1099511627776) ∧ (-1099511627776 ≤ r.b ∧ r.b ≤ 1099511627776) ∧ (-1099511627776 ≤ r.c ∧ r.c ≤ 1099511627776) ∧ (-1099511627776 ≤ r.d ∧ r.d ≤ 1099511627776))
end Go.Proofs.Ytgadheamldianaa

namespace Go.Proofs.Ytgadheamldianaa
namespace imm
/-! ### Edges -/
structure Eg where
  y : Int
  x0 : Int
  x1 : Int
  m : Int
instance : Inhabited Eg := ⟨⟨0, 0, 0, 0⟩⟩
def eg2 (r : Bx) : List Eg := [⟨r.b, r.a, r.c, 1⟩, ⟨r.d, r.a, r.c, -1⟩]
def egs (l : List Bx) : List Eg := l.flatMap eg2
def ind (p : Bool) : Int := if p = true then 1 else 0
theorem ind_t {p : Prop} [Decidable p] (h : p) : ind (decide p) = 1 := by unfold ind; rw [decide_eq_true h]; rfl
theorem ind_f {p : Prop} [Decidable p] (h : ¬ p) : ind (decide p) = 0 := by unfold ind; rw [decide_eq_false h]; rfl
def Eg.st (e : Eg) (x : Int) : Int := e.m * (ind (decide (e.x0 = x)) - ind (decide (e.x1 = x)))
def Eg.inn (e : Eg) (x : Int) : Int := e.m * (ind (decide (e.x0 ≤ x)) - ind (decide (e.x1 ≤ x)))
def tot (f : Eg → Int) : List Eg → Int
  | [] => 0
  | e :: l => f e + tot f l
theorem tot_app (f : Eg → Int) (l m : List Eg) : tot f (l ++ m) = tot f l + tot f m := by
  induction l with
  | nil => simp [tot]
  | cons e l ih => simp only [List.cons_append, tot, ih]; omega
theorem tot_add (f g : Eg → Int) (l : List Eg) : tot (fun e => f e + g e) l = tot f l + tot g l := by
  induction l with
  | nil => rfl
  | cons e l ih => simp only [tot, ih]; omega
theorem tot_congr {f g : Eg → Int} {l : List Eg} (h : ∀ e ∈ l, f e = g e) : tot f l = tot g l := by
  induction l with
  | nil => rfl
  | cons e l ih => simp only [tot, h e List.mem_cons_self, ih fun x hx => h x (List.mem_cons_of_mem _ hx)]
theorem tot_zero {f : Eg → Int} {l : List Eg} (h : ∀ e ∈ l, f e = 0) : tot f l = 0 := by
  induction l with
  | nil => rfl
  | cons e l ih => simp only [tot, h e List.mem_cons_self, ih fun x hx => h x (List.mem_cons_of_mem _ hx)]; rfl
theorem tot_perm {f : Eg → Int} {l m : List Eg} (h : l.Perm m) : tot f l = tot f m := by
  induction h with
  | nil => rfl
  | cons e _ ih => simp only [tot, ih]
  | swap a b l => simp only [tot]; omega
  | trans _ _ h1 h2 => rw [h1, h2]
theorem ind_step (a x : Int) : ind (decide (a ≤ x + 1)) = ind (decide (a ≤ x)) + ind (decide (a = x + 1)) := by
  by_cases h : a ≤ x
  · rw [ind_t h, ind_t (by omega), ind_f (by omega)]; rfl
  · by_cases h2 : a = x + 1
    · rw [ind_f h, ind_t h2, ind_t (by omega)]; rfl
    · rw [ind_f h, ind_f h2, ind_f (by omega)]; rfl
def inAt (es : List Eg) (x : Int) : Int := tot (fun e => e.inn x) es
def stAt (es : List Eg) (x : Int) : Int := tot (fun e => e.st x) es
theorem inAt_step (es : List Eg) (x : Int) : inAt es (x + 1) = inAt es x + stAt es (x + 1) := by
  unfold inAt stAt
  rw [← tot_add]
  refine tot_congr fun e _ => ?_
  unfold Eg.inn Eg.st
  rw [ind_step, ind_step, ← Int.mul_add]
  congr 1
  omega
theorem inAt_low {es : List Eg} {x : Int} (h : ∀ e ∈ es, x < e.x0 ∧ x < e.x1) : inAt es x = 0 := tot_zero fun e he => by
  obtain ⟨h1, h2⟩ := h e he
  unfold Eg.inn
  rw [ind_f (by omega), ind_f (by omega)]
  simp
theorem stAt_snoc (es : List Eg) (e : Eg) (x : Int) : stAt (es ++ [e]) x = stAt es x + e.st x := by
  unfold stAt
  rw [tot_app]
  simp [tot]
/-! ### What is covered -/
def cov (l : List Bx) (x y : Int) : Bool := l.any fun r => r.has x y
def Fine (l : List Bx) : Prop := ∀ r ∈ l, r.a < r.c ∧ r.b < r.d
def some_ (l : List Bx) (x y : Int) : Int := (l.map fun r => ind (r.has x y)).sum
theorem some_nn (l : List Bx) (x y : Int) : 0 ≤ some_ l x y ∧ (some_ l x y = 0 ↔ cov l x y = false) := by
  induction l with
  | nil => exact ⟨Int.le_refl _, fun _ => rfl, fun _ => rfl⟩
  | cons r l ih =>
    have e : some_ (r :: l) x y = ind (r.has x y) + some_ l x y := by simp [some_]
    have e2 : cov (r :: l) x y = (r.has x y || cov l x y) := by simp [cov]
    rw [e, e2]
    unfold ind
    obtain ⟨i1, i2⟩ := ih
    cases r.has x y with
    | true => simp only [if_true, Bool.true_or]; exact ⟨by omega, fun h => by omega, fun h => by cases h⟩
    | false => simp only [Bool.false_eq_true, if_false, Bool.false_or, Int.zero_add]; exact ⟨i1, i2⟩
theorem eg2_tot {r : Bx} (h : r.a < r.c ∧ r.b < r.d) (x Y : Int) : tot (fun e => if e.y ≤ Y then e.inn x else 0) (eg2 r) = ind (r.has x Y) := by
  obtain ⟨h1, h2⟩ := h
  simp only [eg2, tot, Eg.inn, Bx.has, ind]
  by_cases c1 : r.a ≤ x <;> by_cases c2 : x < r.c <;> by_cases c3 : r.b ≤ Y <;> by_cases c4 : Y < r.d <;>
    simp [c1, c2, c3, c4, Int.not_le] <;> omega
theorem egs_tot {l : List Bx} (h : Fine l) (x Y : Int) : tot (fun e => if e.y ≤ Y then e.inn x else 0) (egs l) = some_ l x Y := by
  induction l with
  | nil => rfl
  | cons r l ih =>
    have e : egs (r :: l) = eg2 r ++ egs l := rfl
    rw [e, tot_app, eg2_tot (h r List.mem_cons_self), ih fun r hr => h r (List.mem_cons_of_mem _ hr)]
    simp [some_]
/-- edges in their order -/
def Sorted (es : List Eg) : Prop := ∀ i j (hi : i < es.length) (hj : j < es.length), i < j → es[i].y ≤ es[j].y
theorem inAt_take {l : List Bx} (hf : Fine l) {es : List Eg} (hp : es.Perm (egs l)) (hs : Sorted es) {k : Nat} (hk : k + 1 < es.length) (hy : es[k].y < es[k + 1].y) (x : Int) : inAt (es.take (k + 1)) x = some_ l x es[k].y := by
  rw [← egs_tot hf, ← tot_perm hp]
  obtain ⟨Y, hY⟩ : ∃ Y, es[k].y = Y := ⟨_, rfl⟩
  have e : tot (fun e => if e.y ≤ es[k].y then e.inn x else 0) es = tot (fun e => if e.y ≤ es[k].y then e.inn x else 0) (es.take (k + 1) ++ es.drop (k + 1)) := congrArg _ (List.take_append_drop (k + 1) es).symm
  rw [e]
  rw [tot_app, tot_zero (l := es.drop (k + 1)), Int.add_zero]
  · refine tot_congr fun e he => ?_
    obtain ⟨i, hi, rfl⟩ := List.mem_iff_getElem.1 he
    rw [List.getElem_take]
    rw [List.length_take] at hi
    rw [if_pos]
    by_cases h : i = k
    · subst h; exact Int.le_refl _
    · exact hs i k (by omega) (by omega) (by omega)
  · intro e he
    obtain ⟨i, hi, rfl⟩ := List.mem_iff_getElem.1 he
    rw [List.getElem_drop]
    rw [List.length_drop] at hi
    rw [if_neg]
    by_cases h : i = 0
    · subst h
      show ¬ es[k + 1 + 0].y ≤ _
      simp only [Nat.add_zero]
      omega
    · have := hs (k + 1) (k + 1 + i) (by omega) (by omega) (by omega)
      omega
theorem egs_mem {l : List Bx} {e : Eg} : e ∈ egs l ↔ ∃ r ∈ l, e = ⟨r.b, r.a, r.c, 1⟩ ∨ e = ⟨r.d, r.a, r.c, -1⟩ := by
  simp [egs, eg2]
/-- between two edges all lines are alike -/
theorem cov_band {l : List Bx} {es : List Eg} (hp : es.Perm (egs l)) (hs : Sorted es) {k : Nat} (hk : k + 1 < es.length) {y : Int} (h1 : es[k].y ≤ y) (h2 : y < es[k + 1].y) (x : Int) : cov l x y = cov l x es[k].y := by
  have hin : ∀ e ∈ es, e.y ≤ es[k].y ∨ es[k + 1].y ≤ e.y := fun e he => by
    obtain ⟨i, hi, rfl⟩ := List.mem_iff_getElem.1 he
    by_cases h : i ≤ k
    · left
      by_cases h' : i = k
      · subst h'; exact Int.le_refl _
      · exact hs i k (by omega) (by omega) (by omega)
    · right
      by_cases h' : i = k + 1
      · subst h'; exact Int.le_refl _
      · exact hs (k + 1) i (by omega) (by omega) (by omega)
  have hg : ∀ r ∈ l, r.has x y = r.has x es[k].y := fun r hr => by
    have e1 := hin ⟨r.b, r.a, r.c, 1⟩ (hp.mem_iff.2 (egs_mem.2 ⟨r, hr, .inl rfl⟩))
    have e2 := hin ⟨r.d, r.a, r.c, -1⟩ (hp.mem_iff.2 (egs_mem.2 ⟨r, hr, .inr rfl⟩))
    simp only at e1 e2
    unfold Bx.has
    rw [show decide (r.b ≤ y) = decide (r.b ≤ es[k].y) from decide_eq_decide.2 (by omega), show decide (y < r.d) = decide (es[k].y < r.d) from decide_eq_decide.2 (by omega)]
  unfold cov
  rw [Bool.eq_iff_iff, List.any_eq_true, List.any_eq_true]
  exact ⟨fun ⟨r, hr, h⟩ => ⟨r, hr, by rw [← hg r hr]; exact h⟩, fun ⟨r, hr, h⟩ => ⟨r, hr, by rw [hg r hr]; exact h⟩⟩
/-- ahead of the first edge there is nothing, behind the last one neither -/
theorem cov_first {l : List Bx} {es : List Eg} (hp : es.Perm (egs l)) (hs : Sorted es) (h0 : 0 < es.length) {x y : Int} (h : cov l x y = true) : es[0].y ≤ y := by
  unfold cov at h
  rw [List.any_eq_true] at h
  obtain ⟨r, hr, h⟩ := h
  unfold Bx.has at h
  simp only [Bool.and_eq_true, decide_eq_true_eq] at h
  obtain ⟨i, hi, e⟩ := List.mem_iff_getElem.1 (hp.mem_iff.2 (egs_mem.2 ⟨r, hr, .inl rfl⟩))
  have e2 : es[i].y = r.b := by rw [e]
  by_cases h' : i = 0
  · subst h'; omega
  · have := hs 0 i h0 hi (by omega)
    omega
theorem cov_last {l : List Bx} {es : List Eg} (hp : es.Perm (egs l)) (hs : Sorted es) {k : Nat} (hk : k + 1 = es.length) {x y : Int} (h : cov l x y = true) : y < es[k].y := by
  unfold cov at h
  rw [List.any_eq_true] at h
  obtain ⟨r, hr, h⟩ := h
  unfold Bx.has at h
  simp only [Bool.and_eq_true, decide_eq_true_eq] at h
  obtain ⟨i, hi, e⟩ := List.mem_iff_getElem.1 (hp.mem_iff.2 (egs_mem.2 ⟨r, hr, .inr rfl⟩))
  have e2 : es[i].y = r.d := by rw [e]
  by_cases h' : i = k
  · subst h'; omega
  · have := hs i k hi (by omega) (by omega)
    omega
theorem cov_none {l : List Bx} {es : List Eg} (hp : es.Perm (egs l)) (h0 : es.length = 0) (x y : Int) : cov l x y = false := by
  cases l with
  | nil => rfl
  | cons r l =>
    have := hp.length_eq
    rw [h0] at this
    simp [egs, eg2] at this
/-! ### How many there are -/
def cnt (F : Nat → Bool) : Nat → Nat
  | 0 => 0
  | n + 1 => cnt F n + if F n = true then 1 else 0
theorem cnt_congr {F G : Nat → Bool} {n : Nat} (h : ∀ i, i < n → F i = G i) : cnt F n = cnt G n := by
  induction n with
  | zero => rfl
  | succ n ih => simp only [cnt, h n (by omega), ih fun i hi => h i (by omega)]
theorem cnt_le (F : Nat → Bool) (n : Nat) : cnt F n ≤ n := by
  induction n with
  | zero => exact Nat.le_refl _
  | succ n ih => simp only [cnt]; split <;> omega
theorem cnt_or {F G : Nat → Bool} {n : Nat} (h : ∀ i, i < n → F i = true → G i = false) : cnt (fun i => F i || G i) n = cnt F n + cnt G n := by
  induction n with
  | zero => rfl
  | succ n ih =>
    simp only [cnt, ih fun i hi => h i (by omega)]
    have := h n (by omega)
    by_cases hF : F n = true
    · have hG := this hF
      simp [hF, hG]
      omega
    · have hF : F n = false := by simpa using hF
      simp [hF]
      omega
theorem cnt_add (F : Nat → Bool) (m n : Nat) : cnt F (m + n) = cnt F m + cnt (fun i => F (m + i)) n := by
  induction n with
  | zero => rfl
  | succ n ih => rw [← Nat.add_assoc]; simp only [cnt, ih]; omega
theorem cnt_row (a c : Nat) (W : Nat) (h1 : a ≤ c) : cnt (fun x => decide (a ≤ x) && decide (x < c)) W = min W c - min W a := by
  induction W with
  | zero => simp [cnt]
  | succ W ih =>
    simp only [cnt, ih]
    by_cases c1 : a ≤ W <;> by_cases c2 : W < c <;> simp [c1, c2] <;> omega
theorem cnt_all (n : Nat) : cnt (fun _ => true) n = n := by
  induction n with
  | zero => rfl
  | succ n ih => simp only [cnt, ih]; simp
theorem cnt_none (n : Nat) : cnt (fun _ => false) n = 0 := by
  induction n with
  | zero => rfl
  | succ n ih => simp only [cnt, ih]; simp
/-- a rectangle's pixels -/
theorem cnt_rect (a b c d W H : Nat) (hW : 0 < W) (h1 : a ≤ c) (h2 : c ≤ W) (h3 : b ≤ d) :
    cnt (fun i => (decide (a ≤ i % W) && decide (i % W < c)) && (decide (b ≤ i / W) && decide (i / W < d))) (W * H) = (min H d - min H b) * (c - a) := by
  induction H with
  | zero => simp [cnt]
  | succ H ih =>
    rw [Nat.mul_succ, cnt_add, ih]
    have e : cnt (fun i => (decide (a ≤ (W * H + i) % W) && decide ((W * H + i) % W < c)) && (decide (b ≤ (W * H + i) / W) && decide ((W * H + i) / W < d))) W =
        cnt (fun i => (decide (a ≤ i) && decide (i < c)) && (decide (b ≤ H) && decide (H < d))) W := cnt_congr fun i hi => by
      rw [Nat.mul_add_mod, Nat.mod_eq_of_lt hi, Nat.mul_add_div hW, Nat.div_eq_of_lt hi, Nat.add_zero]
    rw [e]
    by_cases hc : b ≤ H ∧ H < d
    · have e2 : cnt (fun i => (decide (a ≤ i) && decide (i < c)) && (decide (b ≤ H) && decide (H < d))) W = c - a := by
        rw [decide_eq_true hc.1, decide_eq_true hc.2]
        simp only [Bool.and_true]
        rw [cnt_row a c W h1]
        omega
      rw [e2, show min (H + 1) d - min (H + 1) b = (min H d - min H b) + 1 by omega, Nat.add_mul, Nat.one_mul]
    · have e2 : cnt (fun i => (decide (a ≤ i) && decide (i < c)) && (decide (b ≤ H) && decide (H < d))) W = 0 := by
        have : (decide (b ≤ H) && decide (H < d)) = false := by
          rw [Bool.and_eq_false_iff, decide_eq_false_iff_not, decide_eq_false_iff_not]; omega
        rw [this]
        simp only [Bool.and_false]
        exact cnt_none W
      rw [e2, show min (H + 1) d - min (H + 1) b = min H d - min H b by omega, Nat.add_zero]
end imm
end Go.Proofs.Ytgadheamldianaa

namespace Go.Proofs.Ytgadheamldianaa
open Go.RowKit pxm imm

/-- an image's value -/
def imV (W H : Int) (A : Option Addr) (n c : Nat) : Value := .agg #[.int .i64 W, .int .i64 H, .slice A n c]
def imC (W H : Int) (A : Option Addr) (n c : Nat) : List Value := [.int .i64 W, .int .i64 H, .slice A n c]
def eW (n : Nat) : Value := .int .u32 (n : Nat)
theorem Blk.c1 {w : World} {g : Nat} {p : Value} (h : Blk w g [p]) : w.cell? ⟨g, 0, none⟩ = some p ∧ w.frozen? ⟨g, 0, none⟩ = false ∧ g < w.heap.size := ⟨h.cell 0, h.free 0, h.inside⟩
theorem Blk.c3 {w : World} {g : Nat} {p q r : Value} (h : Blk w g [p, q, r]) : (w.cell? ⟨g, 0, none⟩ = some p ∧ w.cell? ⟨g, 1, none⟩ = some q ∧ w.cell? ⟨g, 2, none⟩ = some r) ∧
    (w.frozen? ⟨g, 0, none⟩ = false ∧ w.frozen? ⟨g, 1, none⟩ = false ∧ w.frozen? ⟨g, 2, none⟩ = false) ∧ g < w.heap.size :=
  ⟨⟨h.cell 0, h.cell 1, h.cell 2⟩, ⟨h.free 0, h.free 1, h.free 2⟩, h.inside⟩
theorem mx2 (x y : Int) : ∃ M : Int, (∀ (P : Program) (w : World) (ts : Array TypeId) (t : TypeId), (Builtin.max_ ts t #[.int .i64 x, .int .i64 y]).run P w = .ok (.int .i64 M) w) ∧ (∀ a, M ≤ a ↔ x ≤ a ∧ y ≤ a) := by
  refine ⟨_, fun P w ts t => run_max_int2 w ts t _ _ x y, fun a => ?_⟩
  split <;> omega
theorem mn2 (x y : Int) : ∃ M : Int, (∀ (P : Program) (w : World) (ts : Array TypeId) (t : TypeId), (Builtin.min_ ts t #[.int .i64 x, .int .i64 y]).run P w = .ok (.int .i64 M) w) ∧ (∀ a, a ≤ M ↔ a ≤ x ∧ a ≤ y) := by
  refine ⟨_, fun P w ts t => run_min_int2 w ts t _ _ x y, fun a => ?_⟩
  split <;> omega
def sidesB (W H : Int) : Bool := decide (1 ≤ W ∧ 1 ≤ H ∧ W ≤ 4096 ∧ H ≤ 4096)
def wholeB (W H : Int) (n : Nat) : Bool := sidesB W H && decide ((n : Int) = W * H)
theorem sidesB_iff {W H : Int} : sidesB W H = true ↔ 1 ≤ W ∧ 1 ≤ H ∧ W ≤ 4096 ∧ H ≤ 4096 := by unfold sidesB; exact decide_eq_true_iff
theorem mul_small {W H : Int} (h : sidesB W H = true) : 1 ≤ W * H ∧ W * H ≤ 16777216 := by
  obtain ⟨h1, h2, h3, h4⟩ := sidesB_iff.1 h
  have e1 : 0 ≤ (W - 1) * H := Int.mul_nonneg (by omega) (by omega)
  have e2 : 0 ≤ (4096 - W) * H := Int.mul_nonneg (by omega) (by omega)
  rw [Int.sub_mul] at e1 e2
  omega
theorem bel1 {w w1 : World} {o : Obj} (hb : Below (w.alloc o).heap.size (w.alloc o) w1) : Below w.heap.size w w1 := ((Below.refl _ _).alloc (Nat.le_refl _) _).trans (hb.mono (by simp))
/-! ### Check -/
def rb (z : Nat) : Bool := (frm z).rightB
def chk (W H : Int) (l : List Nat) : Int := if sidesB W H = true then (if wholeB W H l.length = true then (if l.all rb = true then 0 else 10) else 10) else 11
theorem all_takeI {α : Type} {p : α → Bool} {l : List α} {k : Nat} (h : (l.take k).all p = true) (hk : k < l.length) (hp : p l[k] = true) : (l.take (k + 1)).all p = true := by
  rw [List.take_succ_eq_append_getElem hk, List.all_append, h]
  simp [hp]
theorem all_no {α : Type} {p : α → Bool} {l : List α} {k : Nat} (hk : k < l.length) (hp : p l[k] = false) : l.all p = false := by
  rw [List.all_eq_false]
  exact ⟨_, List.getElem_mem hk, by rw [hp]; simp⟩
def smallB (W H : Int) (l : List Nat) : Bool := decide (W ≤ 256 ∧ H ≤ 256) && decide (chk W H l = 0)
end Go.Proofs.Ytgadheamldianaa

namespace Go.Proofs.Ytgadheamldianaa
open Go.RowKit pxm imm

/-- is there a pixel? -/
def inB (W H x y : Int) : Bool := Bx.has ⟨0, 0, W, H⟩ x y
theorem inB_iff {W H x y : Int} : inB W H x y = true ↔ 0 ≤ x ∧ x < W ∧ 0 ≤ y ∧ y < H := by
  unfold inB Bx.has
  simp only [Bool.and_eq_true, decide_eq_true_eq]
theorem whole_iff {W H : Int} {n : Nat} : wholeB W H n = true ↔ sidesB W H = true ∧ (n : Int) = W * H := by
  unfold wholeB
  rw [Bool.and_eq_true, decide_eq_true_eq]
/-- where it stands -/
theorem place_in {W H x y : Int} {n : Nat} (h : wholeB W H n = true) (hi : inB W H x y = true) : 0 ≤ y * W + x ∧ y * W + x < n ∧ 0 ≤ y * W ∧ y * W ≤ 16777216 := by
  obtain ⟨h1, h2⟩ := whole_iff.1 h
  obtain ⟨s1, s2, s3, s4⟩ := sidesB_iff.1 h1
  obtain ⟨x1, x2, y1, y2⟩ := inB_iff.1 hi
  have e1 : 0 ≤ y * W := Int.mul_nonneg y1 (by omega)
  have e2 : 0 ≤ (H - 1 - y) * W := Int.mul_nonneg (by omega) (by omega)
  have e3 : (H - 1 - y) * W = W * H - W - y * W := by rw [Int.sub_mul, Int.sub_mul, Int.mul_comm H W]; omega
  have := (mul_small h1).2
  omega
def PlaceQ (W H x y : Int) (w : World) (e : Ending) (w' : World) : Prop := ∃ k : Int, e = .returned (.tuple #[.int .i64 k, .bool (inB W H x y)]) ∧ (inB W H x y = true → k = y * W + x) ∧ Below w.heap.size w w'
/-! ### A step that writes certain blocks alone -/
structure Off (S : List Nat) (w w' : World) : Prop where
  os : w'.os = w.os
  tape : w'.tape = w.tape
  output : w'.output = w.output
  size : w.heap.size ≤ w'.heap.size
  far : ∀ k, k < w.heap.size → k ∉ S → w'.heap[k]? = w.heap[k]?
theorem Off.refl (S : List Nat) (w : World) : Off S w w := ⟨rfl, rfl, rfl, Nat.le_refl _, fun _ _ _ => rfl⟩
theorem Off.trans {S : List Nat} {a b c : World} (h : Off S a b) (k : Off S b c) : Off S a c :=
  ⟨k.os.trans h.os, k.tape.trans h.tape, k.output.trans h.output, Nat.le_trans h.size k.size, fun j hj hn => (k.far j (Nat.lt_of_lt_of_le hj h.size) hn).trans (h.far j hj hn)⟩
theorem Off.of_below {S : List Nat} {w w' : World} (hb : Below w.heap.size w w') : Off S w w' := ⟨hb.os, hb.tape, hb.output, hb.size, fun k hk _ => hb.block k hk⟩
theorem Off.set {S : List Nat} {w : World} {g : Nat} (hg : g ∈ S) (i : Nat) (v : Value) : Off S w (w.setCell ⟨g, i, none⟩ v) :=
  ⟨rfl, rfl, rfl, by simp [World.setCell], fun k _ hn => Below.heap_setCell _ _ _ _ (fun e => hn (by rw [e]; exact hg))⟩
theorem Off.to_below {S : List Nat} {w w' : World} {B : Nat} (h : Off S w w') (hB : B ≤ w.heap.size) (hS : ∀ g ∈ S, B ≤ g) : Below B w w' :=
  ⟨h.os, h.tape, h.output, h.size, fun k hk => h.far k (by omega) (fun hm => by have := hS k hm; omega)⟩
theorem Off.mono {S S' : List Nat} {w w' : World} (h : Off S w w') (hS : ∀ g ∈ S, g ∈ S') : Off S' w w' := ⟨h.os, h.tape, h.output, h.size, fun k hk hn => h.far k hk fun hm => hn (hS k hm)⟩
/-- blocks of the step's own count as nothing -/
theorem Off.less {S S' : List Nat} {w w' : World} (h : Off S w w') (hS : ∀ g ∈ S, g ∈ S' ∨ w.heap.size ≤ g) : Off S' w w' := ⟨h.os, h.tape, h.output, h.size, fun k hk hn => h.far k hk fun hm => by rcases hS k hm with h1 | h1 <;> first | exact hn h1 | omega⟩
theorem Off.blk {S : List Nat} {w w' : World} {g : Nat} {cs : List Value} (h : Off S w w') (hb : Blk w g cs) (hg : g ∉ S) : Blk w' g cs := hb.stays (h.far g hb.inside hg)
/-! ### Pixels in a block that is known -/
def Px (w : World) (g : Nat) (l : List Nat) : Prop := ∃ tail, Blk w g (l.map eW ++ tail)
section
variable {w w' : World} {g : Nat} {l : List Nat}
theorem Px.inside (h : Px w g l) : g < w.heap.size := by obtain ⟨_, h⟩ := h; exact h.inside
theorem Px.cell (h : Px w g l) {j : Nat} (hj : j < l.length) : w.cell? ⟨g, j, none⟩ = some (eW l[j]) := by
  obtain ⟨t, h⟩ := h
  rw [h.cell j, List.getElem?_append_left (by simpa using hj), List.getElem?_map, List.getElem?_eq_getElem hj]
  rfl
theorem Px.free (h : Px w g l) (j : Nat) : w.frozen? ⟨g, j, none⟩ = false := by obtain ⟨_, h⟩ := h; exact h.free j
theorem Px.stays (h : Px w g l) (hb : w'.heap[g]? = w.heap[g]?) : Px w' g l := by obtain ⟨t, h⟩ := h; exact ⟨t, h.stays hb⟩
theorem Px.below (h : Px w g l) (hb : Below w.heap.size w w') : Px w' g l := h.stays (hb.block g h.inside)
theorem Px.off {S : List Nat} (h : Px w g l) (ho : Off S w w') (hg : g ∉ S) : Px w' g l := h.stays (ho.far g h.inside hg)
theorem Px.set (h : Px w g l) {j : Nat} (hj : j < l.length) (v : Nat) : Px (w.setCell ⟨g, j, none⟩ (eW v)) g (l.set j v) := by
  obtain ⟨t, h⟩ := h
  refine ⟨t, ?_⟩
  have := h.set j (eW v)
  rw [List.set_append, if_pos (by simpa using hj)] at this
  rw [List.map_set]
  exact this
theorem Px.row (h : Px w g l) : Row eW w (some ⟨g, 0, none⟩) l := fun _ => ⟨g, 0, rfl, fun j hj => by rw [Nat.zero_add]; exact h.cell hj⟩
end
/-! ### At -/
def pixAt (W H : Int) (l : List Nat) (x y : Int) : Nat := if inB W H x y = true then l.getD (y * W + x).toNat 0 else 0
/-! ### Set -/
def pxSet (W H : Int) (l : List Nat) (x y : Int) (p : Nat) : List Nat := if (inB W H x y && rb p) = true then l.set (y * W + x).toNat p else l
end Go.Proofs.Ytgadheamldianaa
