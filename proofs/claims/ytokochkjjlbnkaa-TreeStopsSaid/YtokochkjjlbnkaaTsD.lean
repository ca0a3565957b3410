/-
  Layer 12: a tree's walk, once told, as an iterator.
-/
import Derived.Test.YtokochkjjlbnkaaTsB
namespace Go.Proofs.Ytokochkjjlbnkaa
open Go.RowKit trm itr Go.Shelf

attribute [local go_sem] Oper.semAt_some
/-- what the iterator reads -/
structure Prs (ib db : Nat) (A1 A2 : Option Addr) (c1 c2 : Nat) (l1 l2 : List Int) (W : World) : Prop where
  box1 : W.cell? ⟨ib, 0, none⟩ = some (.slice A1 l1.length c1)
  box2 : W.cell? ⟨db, 0, none⟩ = some (.slice A2 l2.length c2)
  r1 : Row eI W A1 l1
  r2 : Row eI W A2 l2
theorem Prs.cells {ib db : Nat} {A1 A2 : Option Addr} {c1 c2 : Nat} {l1 l2 : List Int} {W W' : World} (h : Prs ib db A1 A2 c1 c2 l1 l2 W) (hk : ∀ a v, W.cell? a = some v → W'.cell? a = some v) : Prs ib db A1 A2 c1 c2 l1 l2 W' :=
  ⟨hk _ _ h.box1, hk _ _ h.box2, fun hn => by
    obtain ⟨b, o, e, hc⟩ := h.r1 hn
    exact ⟨b, o, e, fun j hj => hk _ _ (hc j hj)⟩, fun hn => by
    obtain ⟨b, o, e, hc⟩ := h.r2 hn
    exact ⟨b, o, e, fun j hj => hk _ _ (hc j hj)⟩⟩
def pairE (l1 l2 : List Int) : List (Array Value) := (List.range l1.length).map fun j => #[.int .i64 (l1.getD j 0), .int .i64 (l2.getD j 0)]
theorem pairE_len (l1 l2 : List Int) : (pairE l1 l2).length = l1.length := by simp [pairE]
theorem pairE_at (l1 l2 : List Int) {j : Nat} (hj : j < (pairE l1 l2).length) : (pairE l1 l2)[j] = #[.int .i64 (l1.getD j 0), .int .i64 (l2.getD j 0)] := by simp [pairE]
set_option maxRecDepth 100000 in
set_option maxHeartbeats 2000000 in
theorem pair_iter {ib db : Nat} {A1 A2 : Option Addr} {c1 c2 : Nat} {l1 l2 : List Int} {W : World} (hl : l1.length ≤ 100000) (he : l2.length = l1.length) (h : Prs ib db A1 A2 c1 c2 l1 l2 W) :
    IterL Try.prog 43 #[.pointer (some ⟨ib, 0, none⟩), .pointer (some ⟨db, 0, none⟩)] (pairE l1 l2) (fun _ => Eq) (fun A B => Prs ib db A1 A2 c1 c2 l1 l2 A → Prs ib db A1 A2 c1 c2 l1 l2 B) W := by
  intro lp J Jx _ _ hY h0
  have HY := Lib.hid hY
  have HL := Lib.hid (And.intro hl he)
  have b1 := h.box1
  have HB := Lib.hid h
  clear hY hl h he
  refine (callsIn_wide (n := 0)).1 (callsIn_of_wp Try.func43 rfl trivial ?_ rfl)
  simp only [Try.ntmps43, List.size_toArray, List.length_cons, List.length_nil, Nat.reduceAdd, Nat.reduceSub, Array.replicate_succ, Array.replicate_zero, List.push_toArray, List.append_toArray, List.nil_append, List.cons_append]
  gi_wp2_with (fail)
  gi_loopw [8] (fun x wr => ∃ j : Nat, j ≤ l1.length ∧ x = .int .i64 (j : Nat) ∧ Hid (J j wr) ∧ Hid (Prs ib db A1 A2 c1 c2 l1 l2 wr)) (fun x _ => l1.length - (intOf x).toNat)
  case atStart => exact ⟨0, Nat.zero_le _, rfl, h0, HB⟩
  case round =>
    obtain ⟨j, hj, rfl, HJ, HK⟩ := hrel
    by_cases hlt : j < l1.length
    · have hlt' : j < (pairE l1 l2).length := by rw [pairE_len]; exact hlt
      obtain ⟨fn, tmps, assign, body, hy, hR⟩ := HY.out j hlt' wr HJ.out
      have hlt2 : j < l2.length := by rw [HL.out.2]; exact hlt
      rw [pairE_at, List.getD_eq_getElem?_getD, List.getD_eq_getElem?_getD, List.getElem?_eq_getElem hlt, List.getElem?_eq_getElem hlt2, Option.getD_some, Option.getD_some] at hy
      obtain ⟨g1, o1, rA1, k1⟩ := HK.out.r1.at_ hlt
      obtain ⟨g2, o2, rA2, k2⟩ := HK.out.r2.at_ hlt2
      have cb := HK.out.box2
      subst rA1 rA2
      unfold eI at k1 k2
      rw [HL.out.2] at cb
      generalize l1[j] = x at *
      generalize l2[j] = y at *
      have hmb : ((j : Nat) : Int) ≤ 100000 := by have := HL.out.1; omega
      have t1 : decide (j < l1.length) = true := by simpa using hlt
      have HR := Lib.hid hR
      clear hR hlt'
      gi_wp2_with (fail)
      refine ⟨rfl, HR.out.mono ?_⟩
      rintro e W3 ⟨-, (⟨rfl, hJ3, hk3⟩ | ⟨rfl, hJx3⟩)⟩
      · have HB3 : Hid (Prs ib db (some ⟨g1, o1, none⟩) (some ⟨g2, o2, none⟩) c1 c2 l1 l2 W3) := hk3 HK.out
        have HJ3 := Lib.hid hJ3
        clear hJ3 hk3 HJ HK
        gi_wp2_with (fail)
        go_roundw
        case rel => exact ⟨j + 1, by omega, by go_num, HJ3, HB3⟩
        case measure => simp [intOf]; omega
      · have HJ3 := Lib.hid hJx3
        clear hJx3 HJ HK
        gi_wp2_with (fail)
        refine bodyPost_ret (results_none rfl _ _ _) rfl ?_
        exact ⟨⟨_, rfl⟩, .inr ⟨j + 1, by rw [pairE_len]; omega, HJ3.out⟩⟩
    · obtain rfl : j = l1.length := by omega
      have HJ2 : Hid (J (pairE l1 l2).length wr) := by rw [pairE_len]; exact HJ
      have t1 : decide (l1.length < l1.length) = false := by simp
      clear HJ HK
      gi_wp2_with (fail)
      go_end0
      exact ⟨⟨_, rfl⟩, .inl HJ2.out⟩
end Go.Proofs.Ytokochkjjlbnkaa
