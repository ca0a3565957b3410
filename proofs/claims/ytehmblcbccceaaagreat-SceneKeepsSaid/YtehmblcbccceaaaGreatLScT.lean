import Derived.Test.YtehmblcbccceaaaGreatLScS
namespace Go.Proofs.YtehmblcbccceaaaGreat
open Go.RowKit trm itr Go.Shelf
attribute [local go_sem] Oper.semAt_some
set_option maxHeartbeats 1000000 in
theorem backf_call (A : Option Addr) (n c : Nat) (w : World) : Calls Tryz.prog 63 #[.slice A n c] w fun e w' => e = .returned (.func (.func 100) #[] #[.pointer (some ⟨w.heap.size,0,none⟩)]) ∧ w' = w.alloc (.cells #[.slice A n c] 152) := by
  go_enter Tryz.func63,Tryz.ntmps63
  go_wp2_with (fail)
  go_ret
  exact ⟨rfl,rfl⟩
def fv (q : Nat × Array Value) : Value := .func (.func q.1) #[] q.2
structure BackF (bx : Nat) (A : Option Addr) (c : Nat) (l : List (Nat × Array Value)) (W : World) : Prop where
  box : W.cell? ⟨bx,0,none⟩ = some (.slice A l.length c)
  at_ : ∀ j (hj : j < l.length),∃ g,A = some ⟨g,0,none⟩ ∧ W.cell? ⟨g,j,none⟩ = some (fv l[j])
theorem BackF.bk {bx : Nat} {A : Option Addr} {c : Nat} {l : List (Nat × Array Value)} {W W' : World} {B : Nat} (h : BackF bx A c l W) (hb : Bk B W W') : BackF bx A c l W' :=
  ⟨cell_bk hb h.box,fun j hj => by
    obtain ⟨g,e,hc⟩ := h.at_ j hj
    exact ⟨g,e,cell_bk hb hc⟩⟩
def backfE (l : List (Nat × Array Value)) : List (Array Value) := (List.range l.length).map fun j => #[.int .i64 ((l.length : Int) - 1 - (j : Nat)),fv (l.getD (l.length - 1 - j) (0,#[]))]
theorem backfE_len (l : List (Nat × Array Value)) : (backfE l).length = l.length := by simp [backfE]
theorem backfE_at (l : List (Nat × Array Value)) {j : Nat} (hj : j < (backfE l).length) : (backfE l)[j] = #[.int .i64 ((l.length : Int) - 1 - (j : Nat)),fv (l.getD (l.length - 1 - j) (0,#[]))] := by simp [backfE]
set_option maxRecDepth 100000 in
set_option maxHeartbeats 2000000 in
theorem backf_iter {bx : Nat} {A : Option Addr} {c : Nat} {l : List (Nat × Array Value)} {W : World} (hl : l.length ≤ 100000) (h : BackF bx A c l W) :
    IterL Tryz.prog 100 #[.pointer (some ⟨bx,0,none⟩)] (backfE l) (fun _ => Eq) (fun A' B => BackF bx A c l A' → BackF bx A c l B) W := by
  intro lp J Jx _ _ hY h0
  have HY := Lib.hid hY
  have HL := Lib.hid hl
  have c0 := h.box
  have HB := Lib.hid h
  clear hY hl h
  refine (callsIn_wide (n := 0)).1 (callsIn_of_wp Tryz.func100 rfl trivial ?_ rfl)
  simp only [Tryz.ntmps100,List.size_toArray,List.length_cons,List.length_nil,Nat.reduceAdd,Nat.reduceSub,Array.replicate_succ,Array.replicate_zero,List.push_toArray,List.append_toArray,List.nil_append,List.cons_append]
  have hlb : (l.length : Int) ≤ 100000 := by have := HL.out; omega
  gi_wp2_with (fail)
  gi_loopw [3] (fun x wr => ∃ j : Nat,j ≤ l.length ∧ x = .int .i64 ((l.length : Int) - 1 - (j : Nat)) ∧ Hid (J j wr) ∧ Hid (BackF bx A c l wr)) (fun x _ => (intOf x + 1).toNat)
  case atStart => exact ⟨0,Nat.zero_le _,by simp,h0,HB⟩
  case round =>
    obtain ⟨j,hj,rfl,HJ,HK⟩ := hrel
    by_cases hlt : j < l.length
    · have hlt' : j < (backfE l).length := by rw [backfE_len]; exact hlt
      obtain ⟨fn,tmps,assign,body,hy,hR⟩ := HY.out j hlt' wr HJ.out
      rw [backfE_at] at hy
      obtain ⟨m,hm⟩ : ∃ m,l.length - 1 - j = m := ⟨_,rfl⟩
      have e : (l.length : Int) - 1 - (j : Nat) = (m : Nat) := by omega
      have hml : m < l.length := by omega
      have e2 : ((m : Nat) : Int) - 1 = (l.length : Int) - 1 - ((j + 1 : Nat) : Int) := by omega
      obtain ⟨g,rA,k1⟩ := HK.out.at_ m hml
      rw [hm,List.getD_eq_getElem?_getD,List.getElem?_eq_getElem hml,Option.getD_some] at hy
      have cb := HK.out.box
      subst rA
      rw [e] at hy ⊢
      generalize fv l[m] = x at *
      have hmb : ((m : Nat) : Int) ≤ 100000 := by omega
      have HE2 := Lib.hid e2
      have HM := Lib.hid hm
      have HR := Lib.hid hR
      clear e e2 hm hR
      gi_wp2_with (fail)
      refine ⟨rfl,HR.out.mono ?_⟩
      rintro e W3 ⟨-,(⟨rfl,hJ3,hk3⟩ | ⟨rfl,hJx3⟩)⟩
      · have HB3 : Hid (BackF bx (some ⟨g,0,none⟩) c l W3) := hk3 HK.out
        have HJ3 := Lib.hid hJ3
        clear hJ3 hk3 HJ HK
        gi_wp2_with (fail)
        go_roundw
        case rel => exact ⟨j + 1,by omega,by rw [← HE2.out],HJ3,HB3⟩
        case measure => simp [intOf]
      · have HJ3 := Lib.hid hJx3
        clear hJx3 HJ HK
        gi_wp2_with (fail)
        refine bodyPost_ret (results_none rfl _ _ _) rfl ?_
        exact ⟨⟨_,rfl⟩,.inr ⟨j + 1,by rw [backfE_len]; omega,HJ3.out⟩⟩
    · have e : (l.length : Int) - 1 - (j : Nat) = -1 := by omega
      obtain rfl : j = l.length := by omega
      have HJ2 : Hid (J (backfE l).length wr) := by rw [backfE_len]; exact HJ
      rw [e]
      clear e HJ HK
      gi_wp2_with (fail)
      go_end0
      exact ⟨⟨_,rfl⟩,.inl HJ2.out⟩
end Go.Proofs.YtehmblcbccceaaaGreat
