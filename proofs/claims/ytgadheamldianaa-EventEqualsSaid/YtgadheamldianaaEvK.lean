/-
  Ops; how many there are.
-/
import Derived.Test.YtgadheamldianaaEvE
import Derived.BigRegion
import Derived.Deep.Cut
import Derived.Deep.Grids
import Derived.Deep.DeepCutAuto
import Derived.Deep.CutBlock

namespace Go.Proofs.Ytgadheamldianaa
open Go.RowKit pxm imm

/-- a look -/
structure Lk where
  k : Int
  W : Int
  H : Int
  p : Nat
  iw : Int
  ih : Int
  l : List Nat
/-- a node -/
structure Nd where
  m : Mp
  op : Int
  hi : Bool
  cl : Bool
  r : Bx
  lk : Lk
/-- an op -/
structure Op9 where
  k : Int
  i : Int
  p : Int
  n : Int
  m : Mp
  r : Bx
  on : Bool
  N : Int
  lk : Lk
def Lk.cs (q : Lk) (A : Option Addr) (c : Nat) : List Value := [.int .i64 q.k, .int .i64 q.W, .int .i64 q.H, .int .u32 (q.p : Nat), .int .i64 q.iw, .int .i64 q.ih, .slice A q.l.length c]
def Bx.cs4 (r : Bx) : List Value := [.int .i64 r.a, .int .i64 r.b, .int .i64 r.c, .int .i64 r.d]
def Nd.cs (n : Nd) (A : Option Addr) (c : Nat) : List Value := [.int .i64 n.m.a, .int .i64 n.m.b, .int .i64 n.m.c, .int .i64 n.m.d, .int .i64 n.m.e, .int .i64 n.m.f, .int .i64 n.op, .bool n.hi, .bool n.cl, .int .i64 n.r.a, .int .i64 n.r.b, .int .i64 n.r.c, .int .i64 n.r.d,
  .int .i64 n.lk.k, .int .i64 n.lk.W, .int .i64 n.lk.H, .int .u32 (n.lk.p : Nat), .int .i64 n.lk.iw, .int .i64 n.lk.ih, .slice A n.lk.l.length c]
def Op9.cs (o : Op9) (A : Option Addr) (c : Nat) : List Value := [.int .i64 o.k, .int .i64 o.i, .int .i64 o.p, .int .i64 o.n, .int .i64 o.m.a, .int .i64 o.m.b, .int .i64 o.m.c, .int .i64 o.m.d, .int .i64 o.m.e, .int .i64 o.m.f, .int .i64 o.r.a, .int .i64 o.r.b, .int .i64 o.r.c, .int .i64 o.r.d, .bool o.on, .int .i64 o.N,
  .int .i64 o.lk.k, .int .i64 o.lk.W, .int .i64 o.lk.H, .int .u32 (o.lk.p : Nat), .int .i64 o.lk.iw, .int .i64 o.lk.ih, .slice A o.lk.l.length c]
def Nd.v (n : Nd) (A : Option Addr) (c : Nat) : Value := .agg (n.cs A c).toArray
def Op9.v (o : Op9) (A : Option Addr) (c : Nat) : Value := .agg (o.cs A c).toArray
theorem Nd.v_eq (n : Nd) (A : Option Addr) (c : Nat) : n.v A c = ndV n.m n.op n.hi n.cl n.r n.lk.k n.lk.W n.lk.H n.lk.p n.lk.iw n.lk.ih A n.lk.l.length c := rfl
theorem Nd.one (n : Nd) (A : Option Addr) (c : Nat) : (n.cs A c).all (·.oneCell') = true := rfl
theorem Lk.one (q : Lk) (A : Option Addr) (c : Nat) : (q.cs A c).all (·.oneCell') = true := rfl
theorem Mp.one1 (m : Mp) : m.cs.all (·.oneCell') = true := rfl
theorem Op9.one (o : Op9) (A : Option Addr) (c : Nat) : (o.cs A c).all (·.oneCell') = true := rfl
def Nd.plain : Nd := ⟨Mp.one, 255, false, false, Bx.o, ⟨0, 0, 0, 0, 0, 0, []⟩⟩

/-- a whole struct out of a row, in one step -/
theorem wpl_row {P : Program} {ops : Array Oper} {rest : List Oper} {o : Oper} {a : Act} {Q : Exit → Act → World → Prop} {w : World} (ty : TypeId) (x : Operand) (ho : o.op = .load ty x) (hgd : Region.wanted o (yielded ops a.tmps) = true) (g f : Nat) (hx : a.eval x = .pointer (some ⟨g, f, none⟩)) (ls : List Value) (hr : w.rangeAt g f ls)
    (d : TypeDesc) (hu : P.underlying ty = some d) (hd : d.isRow = true) (hi : (P.info? ty).map (·.size) = some ls.length) (h : wpList P ops Q rest (a.put o.dst (.agg ls.toArray)) w) : wpList P ops Q (o :: rest) a w := by
  unfold wpList
  rw [if_pos hgd]
  refine .inl ?_
  unfold Oper.wp execOp
  simp only [ho, hx, Instr.loadAt, Instr.sureAddr, Sem.run_bind, Sem.run_pure, Result.andThen_ok, run_loadVar_mid w g f ty ls d hr hu hd hi]
  exact h
/-- an op in a row -/
structure OpR where
  o : Op9
  A : Option Addr
  c : Nat
def OpR.cs (q : OpR) : List Value := q.o.cs q.A q.c
theorem OpR.cs_len (q : OpR) : q.cs.length = 23 := rfl
theorem SRow.blt {α : Type} {k : Nat} {enc : α → List Value} {w : World} {A : Option Addr} {l : List α} (h : SRow k enc w A l) (he : ∀ q, ∃ v r, enc q = v :: r) {a : Addr} (e : A = some a) (hne : l ≠ []) : a.block < w.heap.size := by
  have hn : 0 < l.length := List.length_pos_iff.2 hne
  obtain ⟨b, off, e2, hc⟩ := h hn
  rw [e] at e2
  obtain rfl := Option.some.inj e2
  obtain ⟨v, r, hv⟩ := he l[0]
  exact World.block_lt_of_cell? w ⟨b, off + 0 * k + 0, none⟩ (hc 0 hn 0 v (by rw [hv]; rfl))

def Lk.o : Lk := ⟨0, 0, 0, 0, 0, 0, []⟩
def Op9.o : Op9 := ⟨0, 0, 0, 0, Mp.o, Bx.o, false, 0, Lk.o⟩

abbrev tOps : TypeId := 22
def oN (o : Op9) : OpR := ⟨o, none, 0⟩

/-! ### Ops of the call's own -/
def op9z : List Value := Op9.o.cs none 0
theorem info_op : (Try.prog.info? 52).map (fun i => (i.zero, i.size, i.bytes)) = some (some (.agg op9z.toArray), 23, 200) := by kernel_rfl
theorem OpR.cs_plain (q : OpR) : ∀ u ∈ q.cs, u.oneCell' = true := fun u hu => List.all_eq_true.1 (Op9.one _ _ _) u hu
abbrev OOwn (w : World) (base : Nat) (v : Value) (l : List OpR) : Prop := SOwn 52 23 OpR.cs w base v l
theorem bs_op1 (q : OpR) (w : World) : (Instr.buildSlice tOps 1 #[(0, .agg q.cs.toArray)]).run Try.prog w = .ok (.slice (some ⟨w.heap.size, 0, none⟩) 1 1) (w.alloc (.cells q.cs.toArray 52)) := by kernel_rfl
theorem app_op {n0 : Nat} {w : World} {v : Value} {l : List OpR} (h : OOwn w n0 v l) (hb : n0 ≤ w.heap.size) (q : OpR) {c : Nat} (hn : l.length ≤ 900000000) :
    ∃ v' w', (Builtin.append_ #[tOps, tOps] tOps #[v, .slice (some ⟨w.heap.size, 0, none⟩) 1 c]).run Try.prog (w.alloc (.cells q.cs.toArray 52)) = .ok v' w' ∧ OOwn w' n0 v' (l ++ [q]) ∧
      (w.alloc (.cells q.cs.toArray 52)).grownBy w' v.ownBlock ∧ (v'.ownBlock = v.ownBlock ∨ v'.ownBlock = some (w.heap.size + 1)) := by
  obtain ⟨v', w', h1, h2, h3, h4⟩ := SOwn.app (P := Try.prog) (xs := [q]) (c := c) (g := w.heap.size) (o := 0) Try.underlying22 info_op rfl (by decide) (by decide) OpR.cs_len OpR.cs_plain
    (h.below ((Below.refl _ _).alloc (Nat.le_refl _) (.cells q.cs.toArray 52))) (fun _ => srow_new (enc := OpR.cs) OpR.cs_len w [q] _ (by simp)) (by simp; omega) (by simp; omega)
  refine ⟨v', w', h1, h2, h3, ?_⟩
  simpa using h4


/-- a transaction, as an element -/
structure OpL where
  A : Option Addr
  c : Nat
  l : List OpR
def OpL.cs (q : OpL) : List Value := [.slice q.A q.l.length q.c]
theorem OpL.cs_len (q : OpL) : q.cs.length = 1 := rfl
theorem OpL.cs_plain (q : OpL) : ∀ u ∈ q.cs, u.oneCell' = true := by
  intro u hu
  rw [List.mem_singleton.1 hu]
  rfl
/-- what an argument's op is: its pixels may be many -/
structure OpRaw (o : Op9) : Prop where
  i : I64 o.i
  p : I64 o.p
  c : o.lk.p < 4294967296
  l : ∀ z ∈ o.lk.l, z < 4294967296
  len : o.lk.l.length ≤ maxLen
/-- ops in memory -/
structure OpsR (w : World) (A : Option Addr) (l : List OpR) : Prop where
  row : SRow 23 OpR.cs w A l
  px : ∀ q ∈ l, Row eW w q.A q.o.lk.l ∧ OpRaw q.o
theorem OpsR.below {w w' : World} {A : Option Addr} {l : List OpR} (h : OpsR w A l) (hb : Below w.heap.size w w') : OpsR w' A l := ⟨SRow.below h.row hb, fun q hq => ⟨Row.below (h.px q hq).1 hb, (h.px q hq).2⟩⟩
/-- transactions in memory -/
structure TrAt (w : World) (A : Option Addr) (L : List OpL) : Prop where
  row : SRow 1 OpL.cs w A L
  ops : ∀ q ∈ L, OpsR w q.A q.l
  few : ∀ q ∈ L, q.l.length ≤ 1099511627776
  most : L.length ≤ 9223372036854775807
theorem TrAt.below {w w' : World} {A : Option Addr} {L : List OpL} (h : TrAt w A L) (hb : Below w.heap.size w w') : TrAt w' A L := ⟨SRow.below h.row hb, fun q hq => (h.ops q hq).below hb, h.few, h.most⟩
def total (L : List OpL) : Nat := (L.map fun q => q.l.length).sum
theorem total_snoc (L : List OpL) (q : OpL) : total (L ++ [q]) = total L + q.l.length := by simp [total]
theorem total_le {L : List OpL} (h : ∀ q ∈ L, q.l.length ≤ 1099511627776) : total L ≤ L.length * 1099511627776 := by
  induction L with
  | nil => simp [total]
  | cons q L ih =>
    have h1 := ih fun q hq => h q (List.mem_cons_of_mem _ hq)
    have h2 := h q List.mem_cons_self
    simp only [total, List.map_cons, List.sum_cons, List.length_cons] at h1 ⊢
    omega
theorem total_take {L : List OpL} (j : Nat) : total (L.take j) ≤ total L := by
  have h : total L = total (L.take j) + total (L.drop j) := by
    conv => lhs; rw [← List.take_append_drop j L]
    unfold total
    rw [List.map_append, List.sum_append]
  omega
/-- are there no more pixels than are gone through? -/
def thin (q : OpL) : Prop := ∀ o ∈ q.l, o.o.lk.l.length ≤ 300
def fits (L : List OpL) : Prop := (∀ q ∈ L, thin q) ∧ L.length ≤ 30 ∧ total L ≤ 120
def SizeQ (L : List OpL) (w : World) (e : Ending) (w' : World) : Prop := ∃ n : Int, e = .returned (.int .i64 n) ∧ (0 ≤ n ↔ fits L) ∧ I64 n ∧ Below w.heap.size w w'
theorem wrap_64 (x : Int) : I64 (wrap64 x) := by
  unfold wrap64 I64
  omega
set_option maxHeartbeats 4000000 in
set_option maxRecDepth 100000 in
theorem size_law (L : List OpL) (A : Option Addr) (c : Nat) (w : World) (h : TrAt w A L) :
    Calls Try.prog 6 #[.slice A L.length c] w (SizeQ L w) := by
  have HT := Lib.hid h
  have HM : Hid (L.length ≤ 9223372036854775807) := h.most
  have hlb : (L.length : Int) ≤ 9223372036854775807 := by have := h.most; omega
  clear h
  go_enter Try.func6, Try.ntmps6
  go_wp2_with (fail)
  go_loopw [10, 3] (fun x10 x3 wr => ∃ (j : Nat) (n : Int), j ≤ L.length ∧ x10 = .int .i64 j ∧ x3 = .int .i64 n ∧ Hid (I64 n ∧ (j ≤ 30 → n = (total (L.take j) : Nat))) ∧ Hid (∀ q ∈ L.take j, thin q) ∧ Hid (Below w.heap.size w wr)) (fun x10 _ _ => L.length - (intOf x10).toNat)
  case atStart => exact ⟨0, 0, Nat.zero_le _, rfl, rfl, ⟨⟨by decide, by decide⟩, fun _ => by simp [total]⟩, (fun q hq => by simp at hq), Below.refl _ _⟩
  case round =>
    obtain ⟨j, n, hj, rfl, rfl, HN, HTH, HB⟩ := hrel
    generalize wr = wA at *
    by_cases hlt : j < L.length
    · have t1 : decide (j < L.length) = true := by simpa using hlt
      have HLT := Lib.hid hlt
      obtain ⟨lb, lo, rA, hcell⟩ := (HT.out.below HB.out).row (by omega)
      subst rA
      obtain ⟨q, hq⟩ : ∃ q, q = L[j]'hlt := ⟨_, rfl⟩
      have hqc : wA.cell? ⟨lb, lo + j, none⟩ = some (.slice q.A q.l.length q.c) := by
        have := hcell j hlt 0 (.slice q.A q.l.length q.c) (by rw [hq]; rfl)
        rwa [Nat.mul_one, Nat.add_zero] at this
      have HQM : Hid (q ∈ L) := by rw [hq]; exact List.getElem_mem hlt
      have HTK : Hid (L.take (j + 1) = L.take j ++ [q]) := by rw [hq]; exact List.take_succ_eq_append_getElem hlt
      have HOP := Lib.hid (HT.out.ops q HQM.out)
      have HFW := Lib.hid (HT.out.few q HQM.out)
      have i0 := World.block_lt_of_cell? wA ⟨lb, _, none⟩ hqc
      have hqb : (q.l.length : Int) ≤ 1099511627776 := by have := HFW.out; omega
      obtain ⟨nv, hnv⟩ : ∃ nv, wrap64 (n + (q.l.length : Int)) = nv := ⟨_, rfl⟩
      have HNV : Hid (I64 nv ∧ (j + 1 ≤ 30 → nv = (total (L.take (j + 1)) : Nat))) := by
        refine ⟨by rw [← hnv]; exact wrap_64 _, fun h30 => ?_⟩
        have h1 := HN.out.2 (by omega)
        have h2 := total_le (L := L.take j) fun q hq => HT.out.few q (List.mem_of_mem_take hq)
        rw [List.length_take] at h2
        rw [← hnv, HTK.out, total_snoc, h1]
        have h3 := HFW.out
        have h4 : min j L.length * 1099511627776 ≤ 30 * 1099511627776 := Nat.mul_le_mul_right _ (by omega)
        unfold wrap64
        omega
      clear hcell hq hlt
      go_wp2_with (fail)
      clear hnv hqc i0
      go_loopw [20] (fun x20 wr => ∃ k : Nat, k ≤ q.l.length ∧ x20 = .int .i64 k ∧ Hid (∀ o ∈ q.l.take k, o.o.lk.l.length ≤ 300) ∧ Hid (Below w.heap.size w wr)) (fun x20 _ => q.l.length - (intOf x20).toNat)
      case atStart => exact ⟨0, Nat.zero_le _, rfl, (fun o ho => by simp at ho), HB.out⟩
      case round =>
        obtain ⟨k, hk, rfl, HTK2, HB2⟩ := hrel
        generalize wr = wB at *
        by_cases hkl : k < q.l.length
        · have t2 : decide (k < q.l.length) = true := by simpa using hkl
          have HKL := Lib.hid hkl
          obtain ⟨pb, po, rP, pcell⟩ := (HOP.out.below HB2.out).row (by omega)
          have HRA : Hid (q.A = some ⟨pb, po, none⟩) := rP
          rw [rP]
          obtain ⟨p, hp⟩ : ∃ p, p = q.l[k]'hkl := ⟨_, rfl⟩
          have HPM : Hid (p ∈ q.l) := by rw [hp]; exact List.getElem_mem hkl
          have HPT : Hid (q.l.take (k + 1) = q.l.take k ++ [p]) := by rw [hp]; exact List.take_succ_eq_append_getElem hkl
          have HRG : Hid (wB.rangeAt pb (po + k * 23) p.cs) := by
            rw [hp]
            exact fun i v hv => pcell k hkl i v hv
          have HPL : Hid (p.o.lk.l.length ≤ maxLen) := (HOP.out.px p HPM.out).2.len
          have HZ2 : Hid (Blk (wB.alloc (.cells #[.int .i64 0, .int .i64 0, .int .i64 0, .int .i64 0, .int .i64 0, .int .i64 0, .int .i64 0, .int .i64 0, .int .i64 0, .int .i64 0, .int .i64 0, .int .i64 0, .int .i64 0, .int .i64 0, .bool false, .int .i64 0, .int .i64 0, .int .i64 0, .int .i64 0, .int .u32 0, .int .i64 0, .int .i64 0, .slice none 0 0] 52)) wB.heap.size [.int .i64 0, .int .i64 0, .int .i64 0, .int .i64 0, .int .i64 0, .int .i64 0, .int .i64 0, .int .i64 0, .int .i64 0, .int .i64 0, .int .i64 0, .int .i64 0, .int .i64 0, .int .i64 0, .bool false, .int .i64 0, .int .i64 0, .int .i64 0, .int .i64 0, .int .u32 0, .int .i64 0, .int .i64 0, .slice none 0 0]) := blk_new wB [.int .i64 0, .int .i64 0, .int .i64 0, .int .i64 0, .int .i64 0, .int .i64 0, .int .i64 0, .int .i64 0, .int .i64 0, .int .i64 0, .int .i64 0, .int .i64 0, .int .i64 0, .int .i64 0, .bool false, .int .i64 0, .int .i64 0, .int .i64 0, .int .i64 0, .int .u32 0, .int .i64 0, .int .i64 0, .slice none 0 0] _
          have HBa : Hid (Below wB.heap.size wB (wB.alloc (.cells #[.int .i64 0, .int .i64 0, .int .i64 0, .int .i64 0, .int .i64 0, .int .i64 0, .int .i64 0, .int .i64 0, .int .i64 0, .int .i64 0, .int .i64 0, .int .i64 0, .int .i64 0, .int .i64 0, .bool false, .int .i64 0, .int .i64 0, .int .i64 0, .int .i64 0, .int .u32 0, .int .i64 0, .int .i64 0, .slice none 0 0] 52))) := (Below.refl _ _).alloc (Nat.le_refl _) _
          have c0 := HRG.out 0 (.int .i64 p.o.k) rfl
          have i0 : pb < wB.heap.size := World.block_lt_of_cell? wB ⟨pb, _, none⟩ c0
          clear c0 rP pcell hp hkl
          go_upto_region 9 with (first | ((with_reducible show wpList _ _ _ (Oper.mk _ (Op.load _ _) _ _ _ _ :: _) _ _); refine wpl_row 52 _ rfl rfl _ _ rfl (p.cs) HRG.out _ Try.underlying52 rfl (by kernel_rfl) ?_) | ((with_reducible show wpList _ _ _ (Oper.mk _ (Op.store _ _ _) _ _ _ _ :: _) _ _); refine wpl_stow 52 _ _ rfl rfl rfl _ 0 rfl (p.cs) rfl ([.int .i64 0, .int .i64 0, .int .i64 0, .int .i64 0, .int .i64 0, .int .i64 0, .int .i64 0, .int .i64 0, .int .i64 0, .int .i64 0, .int .i64 0, .int .i64 0, .int .i64 0, .int .i64 0, .bool false, .int .i64 0, .int .i64 0, .int .i64 0, .int .i64 0, .int .u32 0, .int .i64 0, .int .i64 0, .slice none 0 0]) HZ2.out (p.cs) rfl (Nat.le_of_ble_eq_true rfl) (by kernel_rfl) (Op9.one _ _ _) ?_; intro w3 HW3 HK3))
          have HB3 : Hid (Below w.heap.size w w3) := HB2.out.trans ((HW3.out.below HBa.out (Nat.le_refl _)).mono HB2.out.size)
          have c22 : w3.cell? ⟨wB.heap.size, 22, none⟩ = some (.slice p.A p.o.lk.l.length p.c) := HK3.out.cell 22
          have i1 := HK3.out.inside
          have hpl : (p.o.lk.l.length : Int) ≤ 9223372036854775807 := by have := HPL.out; unfold maxLen at this; omega
          clear HZ2 HBa HW3 HRG i0
          by_cases hth : 300 < p.o.lk.l.length
          · have t3 : decide ((300 : Int) < (p.o.lk.l.length : Int)) = true := decide_eq_true (by omega)
            have HNF : Hid (¬ fits L) := fun e => by
              have h1 := e.1 q HQM.out p HPM.out
              omega
            clear hth
            go_wp2_with (fail)
            go_ret
            exact ⟨-1, rfl, ⟨fun e => absurd e (by decide), fun e => absurd e HNF.out⟩, ⟨by decide, by decide⟩, HB3.out⟩
          · have t3 : decide ((300 : Int) < (p.o.lk.l.length : Int)) = false := decide_eq_false (by omega)
            have HTK3 : Hid (∀ o ∈ q.l.take (k + 1), o.o.lk.l.length ≤ 300) := fun o ho => by
              rw [HPT.out] at ho
              rcases List.mem_append.1 ho with h1 | h1
              · exact HTK2.out o h1
              · rw [List.mem_singleton.1 h1]; omega
            clear hth
            go_wp2_with (fail)
            go_roundw
            case rel => exact ⟨k + 1, HKL.out, by go_num, HTK3, HB3⟩
            case measure => have := HKL.out; simp [intOf]; omega
        · obtain rfl : k = q.l.length := by omega
          have t2 : decide (q.l.length < q.l.length) = false := by simp
          have HTH2 : Hid (∀ r ∈ L.take (j + 1), thin r) := fun r hr => by
            rw [HTK.out] at hr
            rcases List.mem_append.1 hr with h1 | h1
            · exact HTH.out r h1
            · rw [List.mem_singleton.1 h1]
              have := HTK2.out
              rwa [List.take_length] at this
          clear hkl
          go_wp2_with (fail)
          go_roundw
          case rel => exact ⟨j + 1, nv, HLT.out, by go_num, rfl, HNV, HTH2, HB2⟩
          case measure => have := HLT.out; simp [intOf]; omega
    · obtain rfl : j = L.length := by omega
      have t1 : decide (L.length < L.length) = false := by simp
      have HTA : Hid (∀ q ∈ L, thin q) := by have := HTH.out; rwa [List.take_length] at this
      clear hlt
      by_cases h30 : 30 < L.length
      · have t3 : decide ((30 : Int) < (L.length : Int)) = true := decide_eq_true (by omega)
        have HNF : Hid (¬ fits L) := fun e => by have := e.2.1; omega
        clear h30
        go_wp2_with (fail)
        go_ret
        exact ⟨-1, rfl, ⟨fun e => absurd e (by decide), fun e => absurd e HNF.out⟩, ⟨by decide, by decide⟩, HB.out⟩
      · have t3 : decide ((30 : Int) < (L.length : Int)) = false := decide_eq_false (by omega)
        have hn : n = (total L : Nat) := by have := HN.out.2 (by omega); rwa [List.take_length] at this
        have h30' : L.length ≤ 30 := by omega
        have HL30 := Lib.hid h30'
        subst hn
        by_cases h120 : 120 < total L
        · have t4 : decide ((120 : Int) < ((total L : Nat) : Int)) = true := decide_eq_true (by omega)
          have HNF : Hid (¬ fits L) := fun e => by have := e.2.2; omega
          clear h30 h120 h30'
          go_wp2_with (fail)
          go_ret
          exact ⟨-1, rfl, ⟨fun e => absurd e (by decide), fun e => absurd e HNF.out⟩, ⟨by decide, by decide⟩, HB.out⟩
        · have t4 : decide ((120 : Int) < ((total L : Nat) : Int)) = false := decide_eq_false (by omega)
          have HF : Hid (fits L) := ⟨HTA.out, h30', by omega⟩
          clear h30 h120 h30'
          go_wp2_with (fail)
          go_ret
          exact ⟨(total L : Nat), rfl, ⟨fun _ => HF.out, fun _ => by omega⟩, HN.out.1, HB.out⟩

theorem SOwn.ge {α : Type} {T : TypeId} {k : Nat} {enc : α → List Value} {w : World} {base n c : Nat} {A : Option Addr} {l : List α} (h : SOwn T k enc w base (.slice A n c) l) {a : Addr} (e : A = some a) : base ≤ a.block ∧ ∃ cs fz, w.heap[a.block]? = some (.cells cs T fz) := by
  rcases h.2 with ⟨e2, _⟩ | ⟨g, cap, cur, e2, hg, hb, _⟩
  · injection e2 with e3 _ _
    rw [e] at e3
    cases e3
  · injection e2 with e3 _ _
    rw [e] at e3
    injection e3 with e3
    rw [e3]
    exact ⟨hg, cur, _, hb⟩
def RefQ3 (m : Mp) (op : Int) (hi cl : Bool) (r : Bx) (k W H : Int) (p : Nat) (iw ih : Int) (l : List Nat) (w : World) (e : Ending) (w' : World) : Prop := ∃ A9 cap, e = .returned (ndV m op hi cl r k W H p iw ih A9 l.length cap) ∧ Row eW w' A9 l ∧ l.length ≤ cap ∧ cap ≤ maxLen ∧ Below w.heap.size w w' ∧ ∀ a, A9 = some a → w.heap.size ≤ a.block ∧ ∃ cs fz, w'.heap[a.block]? = some (.cells cs 44 fz)
set_option maxHeartbeats 4000000 in
set_option maxRecDepth 100000 in
theorem ref_any3 (m : Mp) (op : Int) (hi cl : Bool) (r : Bx) (k W H : Int) (p : Nat) (iw ih : Int) (A : Option Addr) (l : List Nat) (c : Nat) (w : World) (hr : Row eW w A l) (hn : l.length ≤ 20000000) : Calls Try.prog 24 #[ndV m op hi cl r k W H p iw ih A l.length c] w (RefQ3 m op hi cl r k W H p iw ih l w) := by
  have HR := Lib.hid hr
  unfold RefQ3
  clear hr
  unfold ndV at *
  obtain ⟨ma, mb, mc, md, me, mf⟩ := m
  obtain ⟨x0, y0, x1, y1⟩ := r
  simp only
  have HB0 : Hid (Below w.heap.size w ((w.alloc (.cells #[.int .i64 ma, .int .i64 mb, .int .i64 mc, .int .i64 md, .int .i64 me, .int .i64 mf, .int .i64 op, .bool hi, .bool cl, .int .i64 x0, .int .i64 y0, .int .i64 x1, .int .i64 y1, .int .i64 k, .int .i64 W, .int .i64 H, .int .u32 (p : Nat), .int .i64 iw, .int .i64 ih, .slice A l.length c] 68)).alloc (.cells #[.int .i64 0, .int .i64 0, .int .i64 0, .int .i64 0, .int .i64 0, .int .i64 0, .int .i64 0, .bool false, .bool false, .int .i64 0, .int .i64 0, .int .i64 0, .int .i64 0, .int .i64 0, .int .i64 0, .int .i64 0, .int .u32 0, .int .i64 0, .int .i64 0, .slice none 0 0] 65))) := ((Below.refl _ _).alloc (Nat.le_refl _) _).alloc (by simp) _
  have HK0 : Hid (Blk ((w.alloc (.cells #[.int .i64 ma, .int .i64 mb, .int .i64 mc, .int .i64 md, .int .i64 me, .int .i64 mf, .int .i64 op, .bool hi, .bool cl, .int .i64 x0, .int .i64 y0, .int .i64 x1, .int .i64 y1, .int .i64 k, .int .i64 W, .int .i64 H, .int .u32 (p : Nat), .int .i64 iw, .int .i64 ih, .slice A l.length c] 68)).alloc (.cells #[.int .i64 0, .int .i64 0, .int .i64 0, .int .i64 0, .int .i64 0, .int .i64 0, .int .i64 0, .bool false, .bool false, .int .i64 0, .int .i64 0, .int .i64 0, .int .i64 0, .int .i64 0, .int .i64 0, .int .i64 0, .int .u32 0, .int .i64 0, .int .i64 0, .slice none 0 0] 65)) w.heap.size [.int .i64 ma, .int .i64 mb, .int .i64 mc, .int .i64 md, .int .i64 me, .int .i64 mf, .int .i64 op, .bool hi, .bool cl, .int .i64 x0, .int .i64 y0, .int .i64 x1, .int .i64 y1, .int .i64 k, .int .i64 W, .int .i64 H, .int .u32 (p : Nat), .int .i64 iw, .int .i64 ih, .slice A l.length c]) := (blk_new w [.int .i64 ma, .int .i64 mb, .int .i64 mc, .int .i64 md, .int .i64 me, .int .i64 mf, .int .i64 op, .bool hi, .bool cl, .int .i64 x0, .int .i64 y0, .int .i64 x1, .int .i64 y1, .int .i64 k, .int .i64 W, .int .i64 H, .int .u32 (p : Nat), .int .i64 iw, .int .i64 ih, .slice A l.length c] _).alloc _
  have HKr0 : Hid (Blk ((w.alloc (.cells #[.int .i64 ma, .int .i64 mb, .int .i64 mc, .int .i64 md, .int .i64 me, .int .i64 mf, .int .i64 op, .bool hi, .bool cl, .int .i64 x0, .int .i64 y0, .int .i64 x1, .int .i64 y1, .int .i64 k, .int .i64 W, .int .i64 H, .int .u32 (p : Nat), .int .i64 iw, .int .i64 ih, .slice A l.length c] 68)).alloc (.cells #[.int .i64 0, .int .i64 0, .int .i64 0, .int .i64 0, .int .i64 0, .int .i64 0, .int .i64 0, .bool false, .bool false, .int .i64 0, .int .i64 0, .int .i64 0, .int .i64 0, .int .i64 0, .int .i64 0, .int .i64 0, .int .u32 0, .int .i64 0, .int .i64 0, .slice none 0 0] 65)) (w.heap.size + 1) [.int .i64 0, .int .i64 0, .int .i64 0, .int .i64 0, .int .i64 0, .int .i64 0, .int .i64 0, .bool false, .bool false, .int .i64 0, .int .i64 0, .int .i64 0, .int .i64 0, .int .i64 0, .int .i64 0, .int .i64 0, .int .u32 0, .int .i64 0, .int .i64 0, .slice none 0 0]) := blk_at (w.alloc _) _ (by simp) [.int .i64 0, .int .i64 0, .int .i64 0, .int .i64 0, .int .i64 0, .int .i64 0, .int .i64 0, .bool false, .bool false, .int .i64 0, .int .i64 0, .int .i64 0, .int .i64 0, .int .i64 0, .int .i64 0, .int .i64 0, .int .u32 0, .int .i64 0, .int .i64 0, .slice none 0 0] _
  have HSZ : ((w.alloc (.cells #[.int .i64 ma, .int .i64 mb, .int .i64 mc, .int .i64 md, .int .i64 me, .int .i64 mf, .int .i64 op, .bool hi, .bool cl, .int .i64 x0, .int .i64 y0, .int .i64 x1, .int .i64 y1, .int .i64 k, .int .i64 W, .int .i64 H, .int .u32 (p : Nat), .int .i64 iw, .int .i64 ih, .slice A l.length c] 68)).alloc (.cells #[.int .i64 0, .int .i64 0, .int .i64 0, .int .i64 0, .int .i64 0, .int .i64 0, .int .i64 0, .bool false, .bool false, .int .i64 0, .int .i64 0, .int .i64 0, .int .i64 0, .int .i64 0, .int .i64 0, .int .i64 0, .int .u32 0, .int .i64 0, .int .i64 0, .slice none 0 0] 65)).heap.size = w.heap.size + 2 := by simp
  go_enter Try.func24, Try.ntmps24
  go_upto_region 1 with (fail)
  generalize ((w.alloc (.cells #[.int .i64 ma, .int .i64 mb, .int .i64 mc, .int .i64 md, .int .i64 me, .int .i64 mf, .int .i64 op, .bool hi, .bool cl, .int .i64 x0, .int .i64 y0, .int .i64 x1, .int .i64 y1, .int .i64 k, .int .i64 W, .int .i64 H, .int .u32 (p : Nat), .int .i64 iw, .int .i64 ih, .slice A l.length c] 68)).alloc (.cells #[.int .i64 0, .int .i64 0, .int .i64 0, .int .i64 0, .int .i64 0, .int .i64 0, .int .i64 0, .bool false, .bool false, .int .i64 0, .int .i64 0, .int .i64 0, .int .i64 0, .int .i64 0, .int .i64 0, .int .i64 0, .int .u32 0, .int .i64 0, .int .i64 0, .slice none 0 0] 65)) = wz at *
  have HK1 : Hid (Blk (wz.alloc (.cells #[.int .i64 0, .int .i64 0, .int .i64 0, .int .i64 0, .int .i64 0, .int .i64 0] 41)) w.heap.size [.int .i64 ma, .int .i64 mb, .int .i64 mc, .int .i64 md, .int .i64 me, .int .i64 mf, .int .i64 op, .bool hi, .bool cl, .int .i64 x0, .int .i64 y0, .int .i64 x1, .int .i64 y1, .int .i64 k, .int .i64 W, .int .i64 H, .int .u32 (p : Nat), .int .i64 iw, .int .i64 ih, .slice A l.length c]) := HK0.out.alloc _
  have HKr1 : Hid (Blk (wz.alloc (.cells #[.int .i64 0, .int .i64 0, .int .i64 0, .int .i64 0, .int .i64 0, .int .i64 0] 41)) (w.heap.size + 1) [.int .i64 0, .int .i64 0, .int .i64 0, .int .i64 0, .int .i64 0, .int .i64 0, .int .i64 0, .bool false, .bool false, .int .i64 0, .int .i64 0, .int .i64 0, .int .i64 0, .int .i64 0, .int .i64 0, .int .i64 0, .int .u32 0, .int .i64 0, .int .i64 0, .slice none 0 0]) := HKr0.out.alloc _
  have HKm1 : Hid (Blk (wz.alloc (.cells #[.int .i64 0, .int .i64 0, .int .i64 0, .int .i64 0, .int .i64 0, .int .i64 0] 41)) (w.heap.size + 2) [.int .i64 0, .int .i64 0, .int .i64 0, .int .i64 0, .int .i64 0, .int .i64 0]) := blk_at wz _ HSZ.symm [.int .i64 0, .int .i64 0, .int .i64 0, .int .i64 0, .int .i64 0, .int .i64 0] _
  have HB1 : Hid (Below w.heap.size w (wz.alloc (.cells #[.int .i64 0, .int .i64 0, .int .i64 0, .int .i64 0, .int .i64 0, .int .i64 0] 41))) := HB0.out.alloc (by omega) _
  have HSZ1 : (wz.alloc (.cells #[.int .i64 0, .int .i64 0, .int .i64 0, .int .i64 0, .int .i64 0, .int .i64 0] 41)).heap.size = w.heap.size + 3 := by simp; omega
  go_upto_region 2 with (first | (with_reducible show wpList _ _ _ (Oper.mk _ (Op.load _ _) _ _ _ _ :: _) _ _; first | (refine wpl_take 41 _ rfl rfl _ 0 rfl _ HK0.out [.int .i64 ma, .int .i64 mb, .int .i64 mc, .int .i64 md, .int .i64 me, .int .i64 mf] rfl _ Try.underlying41 rfl (by kernel_rfl) ?_)) | (with_reducible show wpList _ _ _ (Oper.mk _ (Op.store _ _ _) _ _ _ _ :: _) _ _; first | (refine wpl_stow 41 _ _ rfl rfl rfl _ 0 rfl [.int .i64 ma, .int .i64 mb, .int .i64 mc, .int .i64 md, .int .i64 me, .int .i64 mf] rfl _ HKm1.out [.int .i64 ma, .int .i64 mb, .int .i64 mc, .int .i64 md, .int .i64 me, .int .i64 mf] rfl (by simp) (by kernel_rfl) rfl ?_; intro w2 HW2 HKm2)))
  have HK2 := Lib.hid (HW2.out.blk (by omega) HK1.out)
  have HKr2 := Lib.hid (HW2.out.blk (by omega) HKr1.out)
  have HB2 := Lib.hid (HW2.out.below HB1.out (by omega))
  have HSZ2 : w2.heap.size = w.heap.size + 3 := HW2.out.size.trans HSZ1
  clear HW2 HK1 HKr1 HKm1 HB1 HSZ1 HB0 HK0 HKr0 HSZ
  have HK3 : Hid (Blk (w2.alloc (.cells #[.int .i64 0, .int .i64 0, .int .i64 0, .int .i64 0, .int .i64 0, .int .i64 0, .int .i64 0, .bool false, .bool false, .int .i64 0, .int .i64 0, .int .i64 0, .int .i64 0, .int .i64 0, .int .i64 0, .int .i64 0, .int .u32 0, .int .i64 0, .int .i64 0, .slice none 0 0] 65)) w.heap.size [.int .i64 ma, .int .i64 mb, .int .i64 mc, .int .i64 md, .int .i64 me, .int .i64 mf, .int .i64 op, .bool hi, .bool cl, .int .i64 x0, .int .i64 y0, .int .i64 x1, .int .i64 y1, .int .i64 k, .int .i64 W, .int .i64 H, .int .u32 (p : Nat), .int .i64 iw, .int .i64 ih, .slice A l.length c]) := HK2.out.alloc _
  have HKr3 : Hid (Blk (w2.alloc (.cells #[.int .i64 0, .int .i64 0, .int .i64 0, .int .i64 0, .int .i64 0, .int .i64 0, .int .i64 0, .bool false, .bool false, .int .i64 0, .int .i64 0, .int .i64 0, .int .i64 0, .int .i64 0, .int .i64 0, .int .i64 0, .int .u32 0, .int .i64 0, .int .i64 0, .slice none 0 0] 65)) (w.heap.size + 1) [.int .i64 0, .int .i64 0, .int .i64 0, .int .i64 0, .int .i64 0, .int .i64 0, .int .i64 0, .bool false, .bool false, .int .i64 0, .int .i64 0, .int .i64 0, .int .i64 0, .int .i64 0, .int .i64 0, .int .i64 0, .int .u32 0, .int .i64 0, .int .i64 0, .slice none 0 0]) := HKr2.out.alloc _
  have HKo3 : Hid (Blk (w2.alloc (.cells #[.int .i64 0, .int .i64 0, .int .i64 0, .int .i64 0, .int .i64 0, .int .i64 0, .int .i64 0, .bool false, .bool false, .int .i64 0, .int .i64 0, .int .i64 0, .int .i64 0, .int .i64 0, .int .i64 0, .int .i64 0, .int .u32 0, .int .i64 0, .int .i64 0, .slice none 0 0] 65)) (w.heap.size + 3) [.int .i64 0, .int .i64 0, .int .i64 0, .int .i64 0, .int .i64 0, .int .i64 0, .int .i64 0, .bool false, .bool false, .int .i64 0, .int .i64 0, .int .i64 0, .int .i64 0, .int .i64 0, .int .i64 0, .int .i64 0, .int .u32 0, .int .i64 0, .int .i64 0, .slice none 0 0]) := blk_at w2 _ HSZ2.symm [.int .i64 0, .int .i64 0, .int .i64 0, .int .i64 0, .int .i64 0, .int .i64 0, .int .i64 0, .bool false, .bool false, .int .i64 0, .int .i64 0, .int .i64 0, .int .i64 0, .int .i64 0, .int .i64 0, .int .i64 0, .int .u32 0, .int .i64 0, .int .i64 0, .slice none 0 0] _
  have HB3 : Hid (Below w.heap.size w (w2.alloc (.cells #[.int .i64 0, .int .i64 0, .int .i64 0, .int .i64 0, .int .i64 0, .int .i64 0, .int .i64 0, .bool false, .bool false, .int .i64 0, .int .i64 0, .int .i64 0, .int .i64 0, .int .i64 0, .int .i64 0, .int .i64 0, .int .u32 0, .int .i64 0, .int .i64 0, .slice none 0 0] 65))) := HB2.out.alloc (by omega) _
  have HSZ3 : (w2.alloc (.cells #[.int .i64 0, .int .i64 0, .int .i64 0, .int .i64 0, .int .i64 0, .int .i64 0, .int .i64 0, .bool false, .bool false, .int .i64 0, .int .i64 0, .int .i64 0, .int .i64 0, .int .i64 0, .int .i64 0, .int .i64 0, .int .u32 0, .int .i64 0, .int .i64 0, .slice none 0 0] 65)).heap.size = w.heap.size + 4 := by simp; omega
  have c6 : w2.cell? ⟨w.heap.size, 6, none⟩ = some (.int .i64 op) := HK2.out.cell 6
  have c7 : w2.cell? ⟨w.heap.size, 7, none⟩ = some (.bool hi) := HK2.out.cell 7
  have c8 : w2.cell? ⟨w.heap.size, 8, none⟩ = some (.bool cl) := HK2.out.cell 8
  have c9 : w2.cell? ⟨w.heap.size, 9, none⟩ = some (.int .i64 x0) := HK2.out.cell 9
  have c10 : w2.cell? ⟨w.heap.size, 10, none⟩ = some (.int .i64 y0) := HK2.out.cell 10
  have c11 : w2.cell? ⟨w.heap.size, 11, none⟩ = some (.int .i64 x1) := HK2.out.cell 11
  have c12 : w2.cell? ⟨w.heap.size, 12, none⟩ = some (.int .i64 y1) := HK2.out.cell 12
  have c13 : w2.cell? ⟨w.heap.size, 13, none⟩ = some (.int .i64 k) := HK2.out.cell 13
  have c14 : w2.cell? ⟨w.heap.size, 14, none⟩ = some (.int .i64 W) := HK2.out.cell 14
  have c15 : w2.cell? ⟨w.heap.size, 15, none⟩ = some (.int .i64 H) := HK2.out.cell 15
  have c16 : w2.cell? ⟨w.heap.size, 16, none⟩ = some (.int .u32 (p : Nat)) := HK2.out.cell 16
  have c17 : w2.cell? ⟨w.heap.size, 17, none⟩ = some (.int .i64 iw) := HK2.out.cell 17
  have c18 : w2.cell? ⟨w.heap.size, 18, none⟩ = some (.int .i64 ih) := HK2.out.cell 18
  have d0 : w2.cell? ⟨(w.heap.size + 2), 0, none⟩ = some (.int .i64 ma) := HKm2.out.cell 0
  have d1 : w2.cell? ⟨(w.heap.size + 2), 1, none⟩ = some (.int .i64 mb) := HKm2.out.cell 1
  have d2 : w2.cell? ⟨(w.heap.size + 2), 2, none⟩ = some (.int .i64 mc) := HKm2.out.cell 2
  have d3 : w2.cell? ⟨(w.heap.size + 2), 3, none⟩ = some (.int .i64 md) := HKm2.out.cell 3
  have d4 : w2.cell? ⟨(w.heap.size + 2), 4, none⟩ = some (.int .i64 me) := HKm2.out.cell 4
  have d5 : w2.cell? ⟨(w.heap.size + 2), 5, none⟩ = some (.int .i64 mf) := HKm2.out.cell 5
  have hlt : w.heap.size < w2.heap.size := by omega
  have hlt2 : w.heap.size + 2 < w2.heap.size := by omega
  go_upto_region 3 with (first | (with_reducible show wpList _ _ _ (Oper.mk _ (Op.store _ _ _) _ _ _ _ :: _) _ _; first | (refine wpl_stow 65 _ _ rfl rfl rfl _ 0 rfl [.int .i64 ma, .int .i64 mb, .int .i64 mc, .int .i64 md, .int .i64 me, .int .i64 mf, .int .i64 op, .bool hi, .bool cl, .int .i64 x0, .int .i64 y0, .int .i64 x1, .int .i64 y1, .int .i64 k, .int .i64 W, .int .i64 H, .int .u32 (p : Nat), .int .i64 iw, .int .i64 ih, .slice none 0 0] rfl _ HKo3.out [.int .i64 ma, .int .i64 mb, .int .i64 mc, .int .i64 md, .int .i64 me, .int .i64 mf, .int .i64 op, .bool hi, .bool cl, .int .i64 x0, .int .i64 y0, .int .i64 x1, .int .i64 y1, .int .i64 k, .int .i64 W, .int .i64 H, .int .u32 (p : Nat), .int .i64 iw, .int .i64 ih, .slice none 0 0] rfl (by simp) (by kernel_rfl) rfl ?_; intro w4 HW4 HKo4)))
  have HK4 := Lib.hid (HW4.out.blk (by omega) HK3.out)
  have HKr4 := Lib.hid (HW4.out.blk (by omega) HKr3.out)
  have HB4 := Lib.hid (HW4.out.below HB3.out (by omega))
  have HSZ4 : w4.heap.size = w.heap.size + 4 := HW4.out.size.trans HSZ3
  clear HW4 HK3 HKr3 HKo3 HB3 HSZ3 HB2 HK2 HKr2 HSZ2 HKm2 c6 c7 c8 c9 c10 c11 c12 c13 c14 c15 c16 c17 c18 d0 d1 d2 d3 d4 d5 hlt hlt2
  have c19 : w4.cell? ⟨w.heap.size, 19, none⟩ = some (.slice A l.length c) := HK4.out.cell 19
  have hlt : w.heap.size < w4.heap.size := by omega
  go_wp2_with (fail)
  clear c19 hlt HK4
  go_loopw [68] (fun i wr => ∃ (k0 : Nat) (A9 : Option Addr) (c9 : Nat), k0 ≤ l.length ∧ i = .int .i64 k0 ∧ Hid (WOwn wr (w.heap.size + 4) (.slice A9 k0 c9) (l.take k0)) ∧ Hid (Blk wr (w.heap.size + 3) [.int .i64 ma, .int .i64 mb, .int .i64 mc, .int .i64 md, .int .i64 me, .int .i64 mf, .int .i64 op, .bool hi, .bool cl, .int .i64 x0, .int .i64 y0, .int .i64 x1, .int .i64 y1, .int .i64 k, .int .i64 W, .int .i64 H, .int .u32 (p : Nat), .int .i64 iw, .int .i64 ih, .slice A9 k0 c9]) ∧ Hid (Blk wr (w.heap.size + 1) [.int .i64 0, .int .i64 0, .int .i64 0, .int .i64 0, .int .i64 0, .int .i64 0, .int .i64 0, .bool false, .bool false, .int .i64 0, .int .i64 0, .int .i64 0, .int .i64 0, .int .i64 0, .int .i64 0, .int .i64 0, .int .u32 0, .int .i64 0, .int .i64 0, .slice none 0 0]) ∧ Hid (Below w.heap.size w wr) ∧ Hid (w.heap.size + 4 ≤ wr.heap.size)) (fun i _ => l.length - (intOf i).toNat)
  case atStart => exact ⟨0, none, 0, Nat.zero_le _, rfl, SOwn.nil _ _, HKo4.out, HKr4.out, HB4.out, Nat.le_of_eq HSZ4.symm⟩
  case round =>
    clear HKo4 HKr4 HB4 HSZ4
    obtain ⟨k0, A9, c9, hk, rfl, HO, HKo, HKr, HB, HS⟩ := hrel
    by_cases hlt : k0 < l.length
    · have t : decide (k0 < l.length) = true := by simpa using hlt
      obtain ⟨b, off, rfl, hc⟩ := (HR.out.below HB.out).at_ hlt
      have hlk : (l.take k0).length = k0 := by rw [List.length_take]; omega
      have HT := Lib.hid (List.take_succ_eq_append_getElem hlt)
      generalize l[k0] = z at *
      unfold eW at hc
      obtain ⟨A8, c8, w6, hrun, ho, hb⟩ := wown_app HO.out z (by omega) HS.out rfl
      rw [hlk] at hrun ho
      have HO6 : Hid (WOwn w6 (w.heap.size + 4) (.slice A8 (k0 + 1) c8) (l.take (k0 + 1))) := by rw [HT.out]; exact ho
      have HKo6 := Lib.hid (HKo.out.below hb (by omega))
      have HKr6 := Lib.hid (HKr.out.below hb (by omega))
      have HB6 : Hid (Below w.heap.size w w6) := HB.out.trans (hb.mono (by omega))
      have HS6 : Hid (w.heap.size + 4 ≤ w6.heap.size) := Nat.le_trans HS.out hb.size
      have c19 : wr.cell? ⟨w.heap.size + 3, 19, none⟩ = some (.slice A9 k0 c9) := HKo.out.cell 19
      have hlt3 : w.heap.size + 3 < wr.heap.size := by have := HS.out; omega
      have d19 : w6.cell? ⟨w.heap.size + 3, 19, none⟩ = some (.slice A9 k0 c9) := HKo6.out.cell 19
      have f19 : w6.frozen? ⟨w.heap.size + 3, 19, none⟩ = false := HKo6.out.free 19
      have hlt4 : w.heap.size + 3 < w6.heap.size := by have := HS6.out; omega
      clear ho hb HT HO HKo HKr
      go_wp2_with (at_builtin; refine wpl_append rfl _ _ 61 61 61 rfl rfl _ _ _ _ rfl rfl hrun ?_; clear hrun)
      go_roundw
      case rel =>
        have hw : Wrote (w.heap.size + 3) w6 (w6.setCell ⟨w.heap.size + 3, 19, none⟩ (.slice A8 (k0 + 1) c8)) := ⟨19, [.slice A8 (k0 + 1) c8], rfl⟩
        exact ⟨k0 + 1, A8, c8, by omega, by go_num, HO6.out.stays (fun g hg => hw.far (by have := (HO6.out.block hg).1; omega)), HKo6.out.set 19 _, hw.blk (by omega) HKr6.out, hw.below HB6.out (by omega), by rw [hw.size]; exact HS6.out⟩
      case measure => simp [intOf]; omega
    · obtain rfl : k0 = l.length := by omega
      have HO2 : Hid (WOwn wr (w.heap.size + 4) (.slice A9 l.length c9) l) := by have := HO.out; rwa [List.take_length] at this
      have t : decide (l.length < l.length) = false := by simp
      clear HO
      go_wp2_with (first | (with_reducible show wpList _ _ _ (Oper.mk _ (Op.load _ _) _ _ _ _ :: _) _ _; first | (refine wpl_take 65 _ rfl rfl _ 0 rfl _ HKo.out [.int .i64 ma, .int .i64 mb, .int .i64 mc, .int .i64 md, .int .i64 me, .int .i64 mf, .int .i64 op, .bool hi, .bool cl, .int .i64 x0, .int .i64 y0, .int .i64 x1, .int .i64 y1, .int .i64 k, .int .i64 W, .int .i64 H, .int .u32 (p : Nat), .int .i64 iw, .int .i64 ih, .slice A9 l.length c9] rfl _ Try.underlying65 rfl (by kernel_rfl) ?_)) | (with_reducible show wpList _ _ _ (Oper.mk _ (Op.store _ _ _) _ _ _ _ :: _) _ _; first | (refine wpl_stow 65 _ _ rfl rfl rfl _ 0 rfl [.int .i64 ma, .int .i64 mb, .int .i64 mc, .int .i64 md, .int .i64 me, .int .i64 mf, .int .i64 op, .bool hi, .bool cl, .int .i64 x0, .int .i64 y0, .int .i64 x1, .int .i64 y1, .int .i64 k, .int .i64 W, .int .i64 H, .int .u32 (p : Nat), .int .i64 iw, .int .i64 ih, .slice A9 l.length c9] rfl _ HKr.out [.int .i64 ma, .int .i64 mb, .int .i64 mc, .int .i64 md, .int .i64 me, .int .i64 mf, .int .i64 op, .bool hi, .bool cl, .int .i64 x0, .int .i64 y0, .int .i64 x1, .int .i64 y1, .int .i64 k, .int .i64 W, .int .i64 H, .int .u32 (p : Nat), .int .i64 iw, .int .i64 ih, .slice A9 l.length c9] rfl (by simp) (by kernel_rfl) rfl ?_; intro w7 HW7 HK7)))
      have HO7 : Hid (WOwn w7 (w.heap.size + 4) (.slice A9 l.length c9) l) := HO2.out.stays (fun g hg => HW7.out.far (by have := (HO2.out.block hg).1; omega))
      obtain ⟨A7, c7, e7, h1, h2, h3⟩ := HO7.out.row eWs_len
      injection e7 with e1 e2 e3
      subst e1; subst e3
      exact blk_ret rfl rfl HK7.out Try.underlying65 rfl (by kernel_rfl) ⟨A9, c9, rfl, h3.row1, h1, h2, HW7.out.below HB.out (by omega), fun a ea => by
        obtain ⟨g1, g2⟩ := SOwn.ge HO7.out ea
        exact ⟨by omega, g2⟩⟩
end Go.Proofs.Ytgadheamldianaa
