import Derived.Test.YtehmblcbccceaaaGreatLSceneManyM
import Derived.Deep.Cut
namespace Go.Proofs.YtehmblcbccceaaaGreat
open Go.RowKit pxm imm trm Go.Maps
structure OpL where
  A : Option Addr
  c : Nat
  l : List OpR
def OpL.cs (q : OpL) : List Value := [.slice q.A q.l.length q.c]
theorem OpL.cs_len (q : OpL) : q.cs.length = 1 := rfl
theorem OpL.cs_plain (q : OpL) : ∀ u ∈ q.cs,u.oneCell' = true := by
  intro u hu
  rw [List.mem_singleton.1 hu]
  rfl
structure OpRaw (o : Op9) : Prop where
  i : I64 o.i
  p : I64 o.p
  c : o.lk.p < 4294967296
  l : ∀ z ∈ o.lk.l,z < 4294967296
  len : o.lk.l.length ≤ maxLen
theorem OpRaw.ok {o : Op9} (h : OpRaw o) (hl : o.lk.l.length ≤ 300) : OpOk o := ⟨h.i,h.p,h.c,h.l,hl⟩
structure OpsR (w : World) (A : Option Addr) (l : List OpR) : Prop where
  row : SRow 23 OpR.cs w A l
  px : ∀ q ∈ l,Row eW w q.A q.o.lk.l ∧ OpRaw q.o
theorem OpsR.below {w w' : World} {A : Option Addr} {l : List OpR} (h : OpsR w A l) (hb : Below w.heap.size w w') : OpsR w' A l := ⟨SRow.below h.row hb,fun q hq => ⟨Row.below (h.px q hq).1 hb,(h.px q hq).2⟩⟩
theorem OpsR.at_ {w w' : World} {A : Option Addr} {l : List OpR} {S : Bset} (h : OpsR w A l) (hb : Below w.heap.size w w') (hS : ∀ k,S k → w.heap.size ≤ k) : OpsAt S w' A l :=
  ⟨SRow.below h.row hb,fun a e hne hk => by
    have h1 := h.row.blt (fun _ => ⟨_,_,rfl⟩) e hne
    have h2 := hS _ hk
    omega,fun q hq => ⟨Row.below (h.px q hq).1 hb,fun a e hne hk => by
    have h1 := Row.lt (h.px q hq).1 e hne
    have h2 := hS _ hk
    omega⟩⟩
structure TrAt (w : World) (A : Option Addr) (L : List OpL) : Prop where
  row : SRow 1 OpL.cs w A L
  ops : ∀ q ∈ L,OpsR w q.A q.l
  few : ∀ q ∈ L,q.l.length ≤ 1099511627776
  most : L.length ≤ 9223372036854775807
theorem TrAt.below {w w' : World} {A : Option Addr} {L : List OpL} (h : TrAt w A L) (hb : Below w.heap.size w w') : TrAt w' A L := ⟨SRow.below h.row hb,fun q hq => (h.ops q hq).below hb,h.few,h.most⟩
end Go.Proofs.YtehmblcbccceaaaGreat
