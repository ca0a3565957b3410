import Derived.Test.YtehmblcbccceaaaGreatLScT
namespace Go.Proofs.YtehmblcbccceaaaGreat
open Go.RowKit pxm imm trm Go.Maps itr Go.Shelf
theorem SOwn.row0 {α : Type} {T : TypeId} {k : Nat} {enc : α → List Value} {w : World} {base : Nat} {v : Value} {l : List α} (h : SOwn T k enc w base v l) (hk : ∀ x,(enc x).length = k) (hl : 0 < l.length) : ∃ g c,v = .slice (some ⟨g,0,none⟩) l.length c ∧ l.length ≤ c ∧ c ≤ maxLen ∧ SRow k enc w (some ⟨g,0,none⟩) l := by
  rcases h.2 with ⟨rfl,h0⟩ | ⟨g,cap,cur,rfl,hg,hb,hc,hm,rest⟩
  · omega
  · refine ⟨g,cap,rfl,hc,hm,fun _ => ⟨g,0,rfl,fun j hj i v hv => ?_⟩⟩
    have hcell := World.ownsRow.cells h (g := g) rfl
    have e : ∀ i,(⟨g,0,none⟩ : Addr).add i = ⟨g,0 + i,none⟩ := fun i => by unfold Addr.add; split <;> simp_all
    have := hcell _ _ (flat_at hk hj hv)
    rw [e] at this
    rw [Nat.add_assoc]
    exact this
theorem allS_le (M : Int) : ∀ (l : List Op9) (x : PSc),(allS M x l).2.1 ≤ l.length
  | [],_ => Nat.le_refl _
  | o :: l,x => by
    rw [allS_cons]
    split
    · exact Nat.zero_le _
    · have := allS_le M l (doS M x o).1
      simp only [List.length_cons]
      omega
section
variable {w w' : World} {g b m : Nat} {s : Sh} {Z : ZZ} {x : PSc}
theorem SceneAt.kind (h : SceneAt w g b m s Z x) {k : Nat} (hk : SFoot b m s x.t k) : ∃ o,w.heap[k]? = some o ∧ isBk o = false := by
  rcases hk with e | e | e | ⟨i,hi,e | e⟩
  · obtain ⟨es,hm,_⟩ := h.map
    obtain ⟨es',clock,h4,_⟩ := hm.own
    rw [e]
    exact ⟨_,h4,rfl⟩
  · rw [e]
    exact ⟨_,h.tree.raw.blk,rfl⟩
  · obtain ⟨es,hm,_⟩ := h.tree.raw.map
    obtain ⟨es',clock,h4,_⟩ := hm.own
    rw [e]
    exact ⟨_,h4,rfl⟩
  · rw [e]
    exact ⟨_,(h.tree.raw.node i hi).blk,rfl⟩
  · obtain ⟨cur,fr',h4⟩ := (h.tree.raw.node i hi).own.typed e
    exact ⟨_,h4,rfl⟩
theorem Row.bk {B : Nat} {A : Option Addr} {l : List Nat} (h : Row eW w A l) (hb : Bk B w w') : Row eW w' A l := fun hn => by
  obtain ⟨k,off,e,hc⟩ := h hn
  exact ⟨k,off,e,fun j hj => cell_bk hb (hc j hj)⟩
theorem NdOff.bk {B : Nat} {E S : Bset} {n : Nd} {A : Option Addr} (h : NdOff E S w n A) (hb : Bk B w w') : NdOff E S w' n A := ⟨Row.bk h.1 hb,h.2,h.3⟩
theorem SceneAt.bk {B : Nat} (h : SceneAt w g b m s Z x) (hb : Bk B w w') : SceneAt w' g b m s Z x := by
  obtain ⟨es,hm,h1,h2⟩ := h.map
  have hin : ∀ k,SFoot b m s x.t k → w'.heap[k]? = w.heap[k]? := fun k hk => by
    obtain ⟨o,ho,hn⟩ := h.kind hk
    exact (hb.keep ho hn).trans ho.symm
  refine ⟨h.blk.bk hb,h.tree.stays fun k hk => hin k (.inr hk),⟨es,hm.stays (hin m (.inl rfl)),h1,fun i hi => ?_⟩,h.gfar,h.mfar,fun k hk => ⟨Nat.lt_of_lt_of_le (h.old k hk).1 hb.size,(h.old k hk).2⟩⟩
  obtain ⟨v,e,A,c,e2,hv⟩ := h2 i hi
  exact ⟨v,e,A,c,e2,hv.bk hb⟩
theorem TurnP.bk {B : Nat} {S S' : Bset} {w0 : World} (h : TurnP S S' w0 w) (hb : Bk B w w') (hB : w0.heap.size ≤ B) : TurnP S S' w0 w' :=
  ⟨hb.os.trans h.os,hb.tape.trans h.tape,hb.output.trans h.output,Nat.le_trans h.size hb.size,fun k hk hn => ⟨(h.far k hk hn).1,(hb.low (Nat.lt_of_lt_of_le hk h.size) (Nat.lt_of_lt_of_le hk hB)).trans (h.far k hk hn).2⟩⟩
theorem SceneAt.kb {S' : Bset} (h : SceneAt w g b m s Z x) (ht : TurnP (SFoot b m s x.t) S' w w') : KB w w' := fun k o hk ho => by
  refine ((ht.far k (Array.getElem?_eq_some_iff.1 hk).1 fun e => ?_).2).trans hk
  obtain ⟨o',ho',hn⟩ := h.kind e
  rw [hk] at ho'
  cases ho'
  rw [ho] at hn
  cases hn
def SetQ (g b m : Nat) (Z : ZZ) (s : Sh) (x : PSc) (r : PSc × Int) (w : World) (e : Ending) (w' : World) : Prop :=
  ∃ s',e = .returned (.int .i64 r.2) ∧ SceneAt w' g b m s' Z r.1 ∧ TurnP (SFoot b m s x.t) (SFoot b m s' r.1.t) w w'
def applyS (M : Int) (st : PSc → PSc × Int) (x : PSc) (l : List Op9) : PSc × Int × Int :=
  if 1024 < l.length then (x,0,12) else
    if (allS M x l).2.2 ≠ 0 then (x,((allS M x l).2.1 : Nat),(allS M x l).2.2) else
      if (st (allS M x l).1).2 ≠ 0 then (x,((allS M x l).2.1 : Nat),(st (allS M x l).1).2) else ((st (allS M x l).1).1,((allS M x l).2.1 : Nat),0)
def ApplyQ (g b m : Nat) (Z : ZZ) (s : Sh) (x : PSc) (r : PSc × Int × Int) (w : World) (e : Ending) (w' : World) : Prop :=
  ∃ s',e = .returned (.tuple #[.int .i64 r.2.1,.int .i64 r.2.2]) ∧ SceneAt w' g b m s' Z r.1 ∧ TurnP (SFoot b m s x.t) (SFoot b m s' r.1.t) w w'
theorem BackF.turn {bx : Nat} {A : Option Addr} {c : Nat} {l : List (Nat × Array Value)} {S S' : Bset} (h : BackF bx A c l w) (ht : TurnP S S' w w') (h1 : ¬ S bx) (h2 : ∀ a,A = some a → ¬ S a.block) : BackF bx A c l w' := by
  have hc : ∀ (a : Addr) (v : Value),¬ S a.block → w.cell? a = some v → w'.cell? a = some v := fun a v hn hv => by
    have h3 := (ht.far a.block (World.block_lt_of_cell? w a hv) hn).2
    rw [← hv]
    exact World.cell?_of_block h3
  refine ⟨hc _ _ h1 h.box,fun j hj => ?_⟩
  obtain ⟨g,e,hv⟩ := h.at_ j hj
  exact ⟨g,e,hc ⟨g,j,none⟩ _ (h2 ⟨g,0,none⟩ e) hv⟩
end
end Go.Proofs.YtehmblcbccceaaaGreat
