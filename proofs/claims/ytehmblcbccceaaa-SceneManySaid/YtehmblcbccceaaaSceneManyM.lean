/-
  SceneMany, plainly: what as many ops of one kind make; a row of ops of the call's own.
-/
import Derived.Test.YtehmblcbccceaaaSdd
namespace Go.Proofs.Ytehmblcbccceaaa
open Go.RowKit pxm imm trm Go.Maps

theorem i64_and255 (n : Int) : bits .and .i64 n 255 = n % 256 := by
  have h3 : (BitVec.ofInt 64 255).toNat = 2 ^ 8 - 1 := by decide
  have key : (BitVec.ofInt 64 n &&& BitVec.ofInt 64 255).toNat = (n % ((2 ^ 64 : Nat) : Int)).toNat % 2 ^ 8 := by
    rw [BitVec.toNat_and, BitVec.toNat_ofInt, h3, Nat.and_two_pow_sub_one_eq_mod]
  show IntKind.i64.wrap ((BitVec.ofInt 64 n &&& BitVec.ofInt 64 255).toNat : Nat) = n % 256
  rw [key, IntKind.wrap_i64]
  omega
/-- SetOpacity of the root -/
def mop (v : Int) : Op9 := { Op9.o with k := 6, N := v }
theorem mop_chk {v : Int} (h : 0 ≤ v ∧ v ≤ 255) : (setN Nd.plain (mop v)).chk = 0 := by
  have e : setN Nd.plain (mop v) = { Nd.plain with op := v } := rfl
  rw [e]
  obtain ⟨p1, p2, p3, p4⟩ := ndC_zero plain_chk
  have h5 : decide (0 ≤ v ∧ v ≤ 255) = decide (0 ≤ Nd.plain.op ∧ Nd.plain.op ≤ 255) := (decide_eq_true h).trans (decide_eq_true p2).symm
  have := ndC_of (m := Nd.plain.m) (m' := Nd.plain.m) rfl h5 (.inl ⟨rfl, rfl⟩) (rfl : lkC Nd.plain.lk.k Nd.plain.lk.W Nd.plain.lk.H Nd.plain.lk.p Nd.plain.lk.iw Nd.plain.lk.ih Nd.plain.lk.l = _) (cl := Nd.plain.cl) (r := Nd.plain.r)
  exact this.trans plain_chk
theorem mop_ok (v : Int) : OpOk (mop v) := ⟨(show I64 0 from ⟨by decide, by decide⟩), (show I64 0 from ⟨by decide, by decide⟩), fit_lko⟩
theorem mop_do {v : Int} (h : 0 ≤ v ∧ v ≤ 255) (nd : Int → Nd) (ws : Int → Mp) : doS 1 ⟨[], nd, ws⟩ (mop v) = (⟨[], upd nd 0 { nd 0 with op := v }, ws⟩, 0) := by
  have e : doS 1 ⟨[], nd, ws⟩ (mop v) = setS ⟨[], nd, ws⟩ (mop v) := rfl
  rw [e]
  unfold setS
  rw [if_neg (show ¬ has (⟨[], nd, ws⟩ : PSc).t (mop v).i = false from (show ¬ has [] 0 = false by decide)), if_neg (by rw [mop_chk h]; simp)]
  rfl
theorem mop_all : ∀ (l : List Int), (∀ v ∈ l, 0 ≤ v ∧ v ≤ 255) → ∀ (nd : Int → Nd) (ws : Int → Mp), ∃ nd', allS 1 ⟨[], nd, ws⟩ (l.map mop) = (⟨[], nd', ws⟩, l.length, 0) ∧ (nd' 0).op = l.getLast?.getD (nd 0).op
  | [], _, nd, ws => ⟨nd, rfl, rfl⟩
  | v :: l, h, nd, ws => by
    have h1 := mop_do (h v List.mem_cons_self) nd ws
    obtain ⟨nd', h2, h3⟩ := mop_all l (fun v hv => h v (List.mem_cons_of_mem _ hv)) (upd nd 0 { nd 0 with op := v }) ws
    refine ⟨nd', ?_, ?_⟩
    · rw [List.map_cons, allS_cons, h1, if_neg (by simp), h2]
      rfl
    · rw [h3, upd_same]
      cases l with
      | nil => rfl
      | cons u l => rw [List.getLast?_cons_cons]; simp [List.getLast?_cons]
theorem set_root (nd : Int → Nd) (ws : Int → Mp) : ∃ ws', setSt ⟨[], nd, ws⟩ = (⟨[], nd, ws'⟩, 0) := by
  refine ⟨fun i => (worldOf [] nd i).getD (ws i), ?_⟩
  unfold setSt
  rw [if_pos fun i hi => ?_]
  have : i = 0 := by
    rcases has_iff.1 hi with e | e
    · exact e
    · cases e
  rw [this, worldOf_0]
  simp
theorem mop_apply {l : List Int} (h : ∀ v ∈ l, 0 ≤ v ∧ v ≤ 255) (hn : l.length ≤ 1024) : ∃ y : PSc, applyS 1 setSt PSc.new (l.map mop) = (y, ((l.length : Nat) : Int), 0) ∧ y.t = [] ∧ (y.nd 0).op = l.getLast?.getD 255 := by
  obtain ⟨nd', h1, h2⟩ := mop_all l h (fun _ => Nd.plain) (fun _ => Mp.one)
  obtain ⟨ws', h3⟩ := set_root nd' (fun _ => Mp.one)
  refine ⟨⟨[], nd', ws'⟩, ?_, rfl, h2⟩
  unfold applyS PSc.new
  rw [List.length_map, if_neg (by omega), h1, if_neg (by simp), h3, if_neg (by simp)]
theorem mop_many {l : List Int} (hn : 1024 < l.length) : applyS 1 setSt PSc.new (l.map mop) = (PSc.new, 0, 12) := by
  unfold applyS
  rw [List.length_map, if_pos hn]
/-! ### Ops of the call's own -/
def op9z : List Value := Op9.o.cs none 0
theorem info_op : (Try.prog.info? 40).map (fun i => (i.zero, i.size, i.bytes)) = some (some (.agg op9z.toArray), 23, 200) := by kernel_rfl
theorem OpR.cs_plain (q : OpR) : ∀ u ∈ q.cs, u.oneCell' = true := fun u hu => List.all_eq_true.1 (Op9.one _ _ _) u hu
abbrev OOwn (w : World) (base : Nat) (v : Value) (l : List OpR) : Prop := SOwn 40 23 OpR.cs w base v l
theorem bs_op1 (q : OpR) (w : World) : (Instr.buildSlice tOps 1 #[(0, .agg q.cs.toArray)]).run Try.prog w = .ok (.slice (some ⟨w.heap.size, 0, none⟩) 1 1) (w.alloc (.cells q.cs.toArray 40)) := by kernel_rfl
theorem app_op {n0 : Nat} {w : World} {v : Value} {l : List OpR} (h : OOwn w n0 v l) (hb : n0 ≤ w.heap.size) (q : OpR) {c : Nat} (hn : l.length ≤ 900000000) :
    ∃ v' w', (Builtin.append_ #[tOps, tOps] tOps #[v, .slice (some ⟨w.heap.size, 0, none⟩) 1 c]).run Try.prog (w.alloc (.cells q.cs.toArray 40)) = .ok v' w' ∧ OOwn w' n0 v' (l ++ [q]) ∧
      (w.alloc (.cells q.cs.toArray 40)).grownBy w' v.ownBlock ∧ (v'.ownBlock = v.ownBlock ∨ v'.ownBlock = some (w.heap.size + 1)) := by
  obtain ⟨v', w', h1, h2, h3, h4⟩ := SOwn.app (P := Try.prog) (xs := [q]) (c := c) (g := w.heap.size) (o := 0) Try.underlying27 info_op rfl (by decide) (by decide) OpR.cs_len OpR.cs_plain
    (h.below ((Below.refl _ _).alloc (Nat.le_refl _) (.cells q.cs.toArray 40))) (fun _ => srow_new (enc := OpR.cs) OpR.cs_len w [q] _ (by simp)) (by simp; omega) (by simp; omega)
  refine ⟨v', w', h1, h2, h3, ?_⟩
  simpa using h4
end Go.Proofs.Ytehmblcbccceaaa
