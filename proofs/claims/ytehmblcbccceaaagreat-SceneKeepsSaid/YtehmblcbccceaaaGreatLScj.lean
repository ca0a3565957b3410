import Derived.Test.YtehmblcbccceaaaGreatLSch
import Derived.Test.YtehmblcbccceaaaGreatLSci
namespace Go.Proofs.YtehmblcbccceaaaGreat
open Go.RowKit pxm imm trm Go.Maps
theorem room_len {M : Int} {x : PSc} {l : List Op9} (ok : Ok x.t) (h : Room M x l.length) : (allS M x l).1.t.length ≤ 900 := by
  obtain ⟨h1,h2⟩ := h
  rcases h2 with h2 | ⟨h2,h3⟩
  · have := allS_len (M := M) l ok; omega
  · rcases allS_room (M := M) l ok with h4 | h4
    · omega
    · omega
structure Sane (x : PSc) : Prop where
  ok : Ok x.t
  good : Good x
  set : Settled x fun _ => False
  fit : ∀ i,Fit (x.nd i)
theorem Settled.ops {M : Int} {x : PSc} {l : List Op9} (h : Sane x) (hz : (allS M x l).2.2 = 0) : Settled (allS M x l).1 (tch l) :=
  (Settled.all l h.ok h.set hz).mono fun _ hj => hj.elim (fun e => e.elim) id
theorem setSt_ok {x : PSc} (h : Ok x.t) : Ok (setSt x).1.t := by rw [setSt_t]; exact h
theorem Sane.apply {M : Int} {x : PSc} (h : Sane x) {l : List Op9} (ho : ∀ o ∈ l,OpOk o) : Sane (applyS M setSt x l).1 := by
  unfold applyS
  split
  · exact h
  split
  · exact h
  split
  · exact h
  · rename_i h1 h2 h3
    have hz : (setSt (allS M x l).1).2 = 0 := by simpa using h3
    refine ⟨setSt_ok (allS_ok l h.ok),fun i => ?_,setSt_settled hz,fun i => ?_⟩
    · show ((setSt (allS M x l).1).1.nd i).chk = 0
      rw [setSt_nd]
      exact allS_good l h.good i
    · show Fit ((setSt (allS M x l).1).1.nd i)
      rw [setSt_nd]
      exact allS_fit l ho h.fit i
theorem applied {w : World} {g b m : Nat} {s : Sh} {Z : ZZ} {x : PSc} (h : SceneAt w g b m s Z x) (hx : Sane x) (l : List OpR) (A : Option Addr) (c : Nat) (ho : OpsAt (SFoot b m s x.t) w A l) (hok : ∀ q ∈ l,OpOk q.o) (hn : l.length ≤ 1024 → Room Z.2.2 x l.length) (hlen : l.length ≤ 1000000) :
    Calls Tryz.prog 26 #[.pointer (some ⟨g,0,none⟩),.slice A l.length c] w (ApplyQ g b m Z s x (applyS Z.2.2 setSt x (l.map (·.o))) w) := by
  have hok' : ∀ o ∈ l.map (·.o),OpOk o := fun o ho' => by
    obtain ⟨q,h1,h2⟩ := List.mem_map.1 ho'
    rw [← h2]
    exact hok q h1
  refine apply_any h l A c ho hok hx.fit hn hlen setSt (fun W s1 E hl hz hs hoA => ?_) (fun e => setSt_not e)
  have hr := hn hl
  exact settle_any (Z := ⟨Z.1,Z.2,E⟩) hs (room_len h.tree.ok (by rw [List.length_map]; exact hr)) (allS_good _ hx.good) l A c hoA hok hl (Settled.ops hx hz)
end Go.Proofs.YtehmblcbccceaaaGreat
