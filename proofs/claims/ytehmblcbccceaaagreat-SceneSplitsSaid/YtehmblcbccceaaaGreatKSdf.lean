import Derived.Test.YtehmblcbccceaaaGreatKSceneManyM
import Derived.Deep.Cut
namespace Go.Proofs.YtehmblcbccceaaaGreat
open Go.RowKit pxm imm trm Go.Maps
structure OpL where
 A : Option Addr
 c : Nat
 l : List OpR
def OpL.cs (q : OpL) : List Value := [.slice q.A q.l.length q.c]
theorem OpL.cs_len (q : OpL) : q.cs.length = 1 := rfl
theorem OpL.cs_plain (q : OpL) : ∀ u ∈ q.cs,u.oneCell' = true := by
 intro u hu
 rw [List.mem_singleton.1 hu]
 rfl
structure OpRaw (o : Op9) : Prop where
 i : I64 o.i
 p : I64 o.p
 c : o.lk.p < 4294967296
 l : ∀ z ∈ o.lk.l,z < 4294967296
 len : o.lk.l.length ≤ maxLen
theorem OpRaw.ok {o : Op9} (h : OpRaw o) (hl : o.lk.l.length ≤ 300) : OpOk o := ⟨h.i,h.p,h.c,h.l,hl⟩
structure OpsR (w : World) (A : Option Addr) (l : List OpR) : Prop where
 row : SRow 23 OpR.cs w A l
 px : ∀ q ∈ l,Row eW w q.A q.o.lk.l ∧ OpRaw q.o
theorem OpsR.below {w w' : World} {A : Option Addr} {l : List OpR} (h : OpsR w A l) (hb : Below w.heap.size w w') : OpsR w' A l := ⟨SRow.below h.row hb,fun q hq => ⟨Row.below (h.px q hq).1 hb,(h.px q hq).2⟩⟩
theorem OpsR.at_ {w w' : World} {A : Option Addr} {l : List OpR} {S : Bset} (h : OpsR w A l) (hb : Below w.heap.size w w') (hS : ∀ k,S k → w.heap.size ≤ k) : OpsAt S w' A l :=
 ⟨SRow.below h.row hb,fun a e hne hk => by
  have h1 := h.row.blt (fun _ => ⟨_,_,rfl⟩) e hne
  have h2 := hS _ hk
  omega,fun q hq => ⟨Row.below (h.px q hq).1 hb,fun a e hne hk => by
  have h1 := Row.lt (h.px q hq).1 e hne
  have h2 := hS _ hk
  omega⟩⟩
structure TrAt (w : World) (A : Option Addr) (L : List OpL) : Prop where
 row : SRow 1 OpL.cs w A L
 ops : ∀ q ∈ L,OpsR w q.A q.l
 few : ∀ q ∈ L,q.l.length ≤ 1099511627776
 most : L.length ≤ 9223372036854775807
theorem TrAt.below {w w' : World} {A : Option Addr} {L : List OpL} (h : TrAt w A L) (hb : Below w.heap.size w w') : TrAt w' A L := ⟨SRow.below h.row hb,fun q hq => (h.ops q hq).below hb,h.few,h.most⟩
def total (L : List OpL) : Nat := (L.map fun q => q.l.length).sum
theorem total_snoc (L : List OpL) (q : OpL) : total (L ++ [q]) = total L + q.l.length := by simp [total]
theorem total_le {L : List OpL} (h : ∀ q ∈ L,q.l.length ≤ 1099511627776) : total L ≤ L.length * 1099511627776 := by
 induction L with
 | nil => simp [total]
 | cons q L ih =>
  have h1 := ih fun q hq => h q (List.mem_cons_of_mem _ hq)
  have h2 := h q List.mem_cons_self
  simp only [total,List.map_cons,List.sum_cons,List.length_cons] at h1 ⊢
  omega
def thin (q : OpL) : Prop := ∀ o ∈ q.l,o.o.lk.l.length ≤ 300
def fits (L : List OpL) : Prop := (∀ q ∈ L,thin q) ∧ L.length ≤ 30 ∧ total L ≤ 120
def SizeQ (L : List OpL) (w : World) (e : Ending) (w' : World) : Prop := ∃ n : Int,e = .returned (.int .i64 n) ∧ (0 ≤ n ↔ fits L) ∧ I64 n ∧ Below w.heap.size w w'
theorem wrap_64 (x : Int) : I64 (wrap64 x) := by
 unfold wrap64 I64
 omega
set_option maxHeartbeats 4000000 in
set_option maxRecDepth 100000 in
theorem size_law (L : List OpL) (A : Option Addr) (c : Nat) (w : World) (h : TrAt w A L) :
  Calls Tryz.prog 12 #[.slice A L.length c] w (SizeQ L w) := by
 have HT := Lib.hid h
 have HM : Hid (L.length ≤ 9223372036854775807) := h.most
 have hlb : (L.length : Int) ≤ 9223372036854775807 := by have := h.most; omega
 clear h
 go_enter Tryz.func12,Tryz.ntmps12
 go_wp2_with (fail)
 go_loopw [10,3] (fun x10 x3 wr => ∃ (j : Nat) (n : Int),j ≤ L.length ∧ x10 = .int .i64 j ∧ x3 = .int .i64 n ∧ Hid (I64 n ∧ (j ≤ 30 → n = (total (L.take j) : Nat))) ∧ Hid (∀ q ∈ L.take j,thin q) ∧ Hid (Below w.heap.size w wr)) (fun x10 _ _ => L.length - (intOf x10).toNat)
 case atStart => exact ⟨0,0,Nat.zero_le _,rfl,rfl,⟨⟨by decide,by decide⟩,fun _ => by simp [total]⟩,(fun q hq => by simp at hq),Below.refl _ _⟩
 case round =>
  obtain ⟨j,n,hj,rfl,rfl,HN,HTH,HB⟩ := hrel
  generalize wr = wA at *
  by_cases hlt : j < L.length
  ·have t1 : decide (j < L.length) = true := by simpa using hlt
   have HLT := Lib.hid hlt
   obtain ⟨lb,lo,rA,hcell⟩ := (HT.out.below HB.out).row (by omega)
   subst rA
   obtain ⟨q,hq⟩ : ∃ q,q = L[j]'hlt := ⟨_,rfl⟩
   have hqc : wA.cell? ⟨lb,lo + j,none⟩ = some (.slice q.A q.l.length q.c) := by
    have := hcell j hlt 0 (.slice q.A q.l.length q.c) (by rw [hq]; rfl)
    rwa [Nat.mul_one,Nat.add_zero] at this
   have HQM : Hid (q ∈ L) := by rw [hq]; exact List.getElem_mem hlt
   have HTK : Hid (L.take (j + 1) = L.take j ++ [q]) := by rw [hq]; exact List.take_succ_eq_append_getElem hlt
   have HOP := Lib.hid (HT.out.ops q HQM.out)
   have HFW := Lib.hid (HT.out.few q HQM.out)
   have i0 := World.block_lt_of_cell? wA ⟨lb,_,none⟩ hqc
   have hqb : (q.l.length : Int) ≤ 1099511627776 := by have := HFW.out; omega
   obtain ⟨nv,hnv⟩ : ∃ nv,wrap64 (n + (q.l.length : Int)) = nv := ⟨_,rfl⟩
   have HNV : Hid (I64 nv ∧ (j + 1 ≤ 30 → nv = (total (L.take (j + 1)) : Nat))) := by
    refine ⟨by rw [← hnv]; exact wrap_64 _,fun h30 => ?_⟩
    have h1 := HN.out.2 (by omega)
    have h2 := total_le (L := L.take j) fun q hq => HT.out.few q (List.mem_of_mem_take hq)
    rw [List.length_take] at h2
    rw [← hnv,HTK.out,total_snoc,h1]
    have h3 := HFW.out
    have h4 : min j L.length * 1099511627776 ≤ 30 * 1099511627776 := Nat.mul_le_mul_right _ (by omega)
    unfold wrap64
    omega
   clear hcell hq hlt
   go_wp2_with (fail)
   clear hnv hqc i0
   go_loopw [20] (fun x20 wr => ∃ k : Nat,k ≤ q.l.length ∧ x20 = .int .i64 k ∧ Hid (∀ o ∈ q.l.take k,o.o.lk.l.length ≤ 300) ∧ Hid (Below w.heap.size w wr)) (fun x20 _ => q.l.length - (intOf x20).toNat)
   case atStart => exact ⟨0,Nat.zero_le _,rfl,(fun o ho => by simp at ho),HB.out⟩
   case round =>
    obtain ⟨k,hk,rfl,HTK2,HB2⟩ := hrel
    generalize wr = wB at *
    by_cases hkl : k < q.l.length
    ·have t2 : decide (k < q.l.length) = true := by simpa using hkl
     have HKL := Lib.hid hkl
     obtain ⟨pb,po,rP,pcell⟩ := (HOP.out.below HB2.out).row (by omega)
     have HRA : Hid (q.A = some ⟨pb,po,none⟩) := rP
     rw [rP]
     obtain ⟨p,hp⟩ : ∃ p,p = q.l[k]'hkl := ⟨_,rfl⟩
     have HPM : Hid (p ∈ q.l) := by rw [hp]; exact List.getElem_mem hkl
     have HPT : Hid (q.l.take (k + 1) = q.l.take k ++ [p]) := by rw [hp]; exact List.take_succ_eq_append_getElem hkl
     have HRG : Hid (wB.rangeAt pb (po + k * 23) p.cs) := by
      rw [hp]
      exact fun i v hv => pcell k hkl i v hv
     have HPL : Hid (p.o.lk.l.length ≤ maxLen) := (HOP.out.px p HPM.out).2.len
     have HZ2 : Hid (Blk (wB.alloc (.cells #[.int .i64 0,.int .i64 0,.int .i64 0,.int .i64 0,.int .i64 0,.int .i64 0,.int .i64 0,.int .i64 0,.int .i64 0,.int .i64 0,.int .i64 0,.int .i64 0,.int .i64 0,.int .i64 0,.bool false,.int .i64 0,.int .i64 0,.int .i64 0,.int .i64 0,.int .u32 0,.int .i64 0,.int .i64 0,.slice none 0 0] 77)) wB.heap.size [.int .i64 0,.int .i64 0,.int .i64 0,.int .i64 0,.int .i64 0,.int .i64 0,.int .i64 0,.int .i64 0,.int .i64 0,.int .i64 0,.int .i64 0,.int .i64 0,.int .i64 0,.int .i64 0,.bool false,.int .i64 0,.int .i64 0,.int .i64 0,.int .i64 0,.int .u32 0,.int .i64 0,.int .i64 0,.slice none 0 0]) := blk_new wB [.int .i64 0,.int .i64 0,.int .i64 0,.int .i64 0,.int .i64 0,.int .i64 0,.int .i64 0,.int .i64 0,.int .i64 0,.int .i64 0,.int .i64 0,.int .i64 0,.int .i64 0,.int .i64 0,.bool false,.int .i64 0,.int .i64 0,.int .i64 0,.int .i64 0,.int .u32 0,.int .i64 0,.int .i64 0,.slice none 0 0] _
     have HBa : Hid (Below wB.heap.size wB (wB.alloc (.cells #[.int .i64 0,.int .i64 0,.int .i64 0,.int .i64 0,.int .i64 0,.int .i64 0,.int .i64 0,.int .i64 0,.int .i64 0,.int .i64 0,.int .i64 0,.int .i64 0,.int .i64 0,.int .i64 0,.bool false,.int .i64 0,.int .i64 0,.int .i64 0,.int .i64 0,.int .u32 0,.int .i64 0,.int .i64 0,.slice none 0 0] 77))) := (Below.refl _ _).alloc (Nat.le_refl _) _
     have c0 := HRG.out 0 (.int .i64 p.o.k) rfl
     have i0 : pb < wB.heap.size := World.block_lt_of_cell? wB ⟨pb,_,none⟩ c0
     clear c0 rP pcell hp hkl
     go_upto_region 9 with (first | ((with_reducible show wpList _ _ _ (Oper.mk _ (Op.load _ _) _ _ _ _ :: _) _ _); refine wpl_row 77 _ rfl rfl _ _ rfl (p.cs) HRG.out _ Tryz.underlying77 rfl (by kernel_rfl) ?_) | ((with_reducible show wpList _ _ _ (Oper.mk _ (Op.store _ _ _) _ _ _ _ :: _) _ _); refine wpl_stow 77 _ _ rfl rfl rfl _ 0 rfl (p.cs) rfl ([.int .i64 0,.int .i64 0,.int .i64 0,.int .i64 0,.int .i64 0,.int .i64 0,.int .i64 0,.int .i64 0,.int .i64 0,.int .i64 0,.int .i64 0,.int .i64 0,.int .i64 0,.int .i64 0,.bool false,.int .i64 0,.int .i64 0,.int .i64 0,.int .i64 0,.int .u32 0,.int .i64 0,.int .i64 0,.slice none 0 0]) HZ2.out (p.cs) rfl (Nat.le_of_ble_eq_true rfl) (by kernel_rfl) (Op9.one _ _ _) ?_; intro w3 HW3 HK3))
     have HB3 : Hid (Below w.heap.size w w3) := HB2.out.trans ((HW3.out.below HBa.out (Nat.le_refl _)).mono HB2.out.size)
     have c22 : w3.cell? ⟨wB.heap.size,22,none⟩ = some (.slice p.A p.o.lk.l.length p.c) := HK3.out.cell 22
     have i1 := HK3.out.inside
     have hpl : (p.o.lk.l.length : Int) ≤ 9223372036854775807 := by have := HPL.out; unfold maxLen at this; omega
     clear HZ2 HBa HW3 HRG i0
     by_cases hth : 300 < p.o.lk.l.length
     ·have t3 : decide ((300 : Int) < (p.o.lk.l.length : Int)) = true := decide_eq_true (by omega)
      have HNF : Hid (¬ fits L) := fun e => by
       have h1 := e.1 q HQM.out p HPM.out
       omega
      clear hth
      go_wp2_with (fail)
      go_ret
      exact ⟨-1,rfl,⟨fun e => absurd e (by decide),fun e => absurd e HNF.out⟩,⟨by decide,by decide⟩,HB3.out⟩
     ·have t3 : decide ((300 : Int) < (p.o.lk.l.length : Int)) = false := decide_eq_false (by omega)
      have HTK3 : Hid (∀ o ∈ q.l.take (k + 1),o.o.lk.l.length ≤ 300) := fun o ho => by
       rw [HPT.out] at ho
       rcases List.mem_append.1 ho with h1 | h1
       ·exact HTK2.out o h1
       ·rw [List.mem_singleton.1 h1]; omega
      clear hth
      go_wp2_with (fail)
      go_roundw
      case rel => exact ⟨k + 1,HKL.out,by go_num,HTK3,HB3⟩
      case measure => have := HKL.out; simp [intOf]; omega
    ·obtain rfl : k = q.l.length := by omega
     have t2 : decide (q.l.length < q.l.length) = false := by simp
     have HTH2 : Hid (∀ r ∈ L.take (j + 1),thin r) := fun r hr => by
      rw [HTK.out] at hr
      rcases List.mem_append.1 hr with h1 | h1
      ·exact HTH.out r h1
      ·rw [List.mem_singleton.1 h1]
       have := HTK2.out
       rwa [List.take_length] at this
     clear hkl
     go_wp2_with (fail)
     go_roundw
     case rel => exact ⟨j + 1,nv,HLT.out,by go_num,rfl,HNV,HTH2,HB2⟩
     case measure => have := HLT.out; simp [intOf]; omega
  ·obtain rfl : j = L.length := by omega
   have t1 : decide (L.length < L.length) = false := by simp
   have HTA : Hid (∀ q ∈ L,thin q) := by have := HTH.out; rwa [List.take_length] at this
   clear hlt
   by_cases h30 : 30 < L.length
   ·have t3 : decide ((30 : Int) < (L.length : Int)) = true := decide_eq_true (by omega)
    have HNF : Hid (¬ fits L) := fun e => by have := e.2.1; omega
    clear h30
    go_wp2_with (fail)
    go_ret
    exact ⟨-1,rfl,⟨fun e => absurd e (by decide),fun e => absurd e HNF.out⟩,⟨by decide,by decide⟩,HB.out⟩
   ·have t3 : decide ((30 : Int) < (L.length : Int)) = false := decide_eq_false (by omega)
    have hn : n = (total L : Nat) := by have := HN.out.2 (by omega); rwa [List.take_length] at this
    have h30' : L.length ≤ 30 := by omega
    have HL30 := Lib.hid h30'
    subst hn
    by_cases h120 : 120 < total L
    ·have t4 : decide ((120 : Int) < ((total L : Nat) : Int)) = true := decide_eq_true (by omega)
     have HNF : Hid (¬ fits L) := fun e => by have := e.2.2; omega
     clear h30 h120 h30'
     go_wp2_with (fail)
     go_ret
     exact ⟨-1,rfl,⟨fun e => absurd e (by decide),fun e => absurd e HNF.out⟩,⟨by decide,by decide⟩,HB.out⟩
    ·have t4 : decide ((120 : Int) < ((total L : Nat) : Int)) = false := decide_eq_false (by omega)
     have HF : Hid (fits L) := ⟨HTA.out,h30',by omega⟩
     clear h30 h120 h30'
     go_wp2_with (fail)
     go_ret
     exact ⟨(total L : Nat),rfl,⟨fun _ => HF.out,fun _ => by omega⟩,HN.out.1,HB.out⟩
end Go.Proofs.YtehmblcbccceaaaGreat
