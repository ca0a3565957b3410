import Derived.Test.YtehmblcbccceaaaGreatLScU
import Derived.Deep.Cut
namespace Go.Proofs.YtehmblcbccceaaaGreat
open Go.RowKit pxm imm trm Go.Maps itr Go.Shelf
attribute [local go_sem] Oper.semAt_some
section
variable {w : World} {g b m : Nat} {s : Sh} {Z : ZZ} {x : PSc}
set_option maxHeartbeats 4000000 in
set_option maxRecDepth 100000 in
theorem apply_any (h : SceneAt w g b m s Z x) (l : List OpR) (A : Option Addr) (c : Nat) (ho : OpsAt (SFoot b m s x.t) w A l) (hok : ∀ q ∈ l,OpOk q.o) (hfx : ∀ i,Fit (x.nd i)) (hn : l.length ≤ 1024 → Room Z.2.2 x l.length) (hlen : l.length ≤ 1000000) (st : PSc → PSc × Int)
    (hset : ∀ (W : World) (s1 : Sh) (E : Bset),l.length ≤ 1024 → (allS Z.2.2 x (l.map (·.o))).2.2 = 0 → SceneAt W g b m s1 ⟨Z.1,Z.2,E⟩ (allS Z.2.2 x (l.map (·.o))).1 → OpsAt (SFoot b m s1 (allS Z.2.2 x (l.map (·.o))).1.t) W A l →
      Calls Tryz.prog 62 #[.pointer (some ⟨g,0,none⟩),.slice A l.length c] W (SetQ g b m ⟨Z.1,Z.2,E⟩ s1 (allS Z.2.2 x (l.map (·.o))).1 (st (allS Z.2.2 x (l.map (·.o))).1) W))
    (hst : (st (allS Z.2.2 x (l.map (·.o))).1).2 ≠ 0 → (st (allS Z.2.2 x (l.map (·.o))).1).1 = (allS Z.2.2 x (l.map (·.o))).1) :
    Calls Tryz.prog 26 #[.pointer (some ⟨g,0,none⟩),.slice A l.length c] w (ApplyQ g b m Z s x (applyS Z.2.2 st x (l.map (·.o))) w) := by
  obtain ⟨R,hR⟩ : ∃ R,applyS Z.2.2 st x (l.map (·.o)) = R := ⟨_,rfl⟩
  have HR := Lib.hid hR
  rw [hR]
  unfold applyS at HR
  clear hR
  rw [List.length_map] at HR
  by_cases hm : 1024 < l.length
  · have t1 : decide ((1024 : Int) < (l.length : Int)) = true := decide_eq_true (by omega)
    have t2 : decide (1024 < l.length) = true := decide_eq_true hm
    have HE : Hid (R = (x,0,12)) := by show _ = _; rw [← HR.out,if_pos hm]
    have HS := Lib.hid h
    clear HR hset hst ho hok hfx hn h hm
    refine calls_of_marks Tryz.func26 rfl ?_
    simp only [Tryz.ntmps26,List.size_toArray,List.length_cons,List.length_nil,Nat.reduceAdd,Nat.reduceSub,Array.replicate_succ,Array.replicate_zero,List.push_toArray,List.append_toArray,List.nil_append,List.cons_append]
    go_wp2_with (fail)
    refine postM_ret w.heap.size trivial fun w' hb => ⟨_,results_tmp2 rfl _ _ _,?_⟩
    rw [HE.out]
    exact ⟨s,rfl,HS.out.bk hb,(TurnP.refl _ _).bk hb (Nat.le_refl _)⟩
  have hm1 : l.length ≤ 1024 := by omega
  have t1 : decide ((1024 : Int) < (l.length : Int)) = false := decide_eq_false (by omega)
  have t2 : decide (1024 < l.length) = false := decide_eq_false hm
  rw [if_neg hm] at HR
  have HC := Lib.hid (all_any h l A c ho hok hfx (hn hm1))
  unfold AllQ at HC
  obtain ⟨r,hr⟩ : ∃ r,allS Z.2.2 x (l.map (·.o)) = r := ⟨_,rfl⟩
  have hll : r.2.1 ≤ 1024 := by rw [← hr]; have := allS_le Z.2.2 (l.map (·.o)) x; rw [List.length_map] at this; omega
  rw [hr] at HC HR hset hst
  have HSET := Lib.hid (fun (W : World) (s1 : Sh) (E : Bset) => hset W s1 E hm1)
  have HST := Lib.hid hst
  have HO := Lib.hid ho
  have HS := Lib.hid h
  clear hset hst ho hok hfx hn h hm hm1 hr
  refine calls_of_marks Tryz.func26 rfl ?_
  simp only [Tryz.ntmps26,List.size_toArray,List.length_cons,List.length_nil,Nat.reduceAdd,Nat.reduceSub,Array.replicate_succ,Array.replicate_zero,List.push_toArray,List.append_toArray,List.nil_append,List.cons_append]
  go_wp2_with (fail)
  refine HC.out.mono ?_
  obtain ⟨y,nd,e0⟩ := r
  rintro e w1 ⟨U,uc,vs,s1,rfl,hvl,hown,hsc,ht,hch⟩
  simp only at hvl hsc ht hch
  subst hvl
  have HLL : Hid (vs.length ≤ 1024) := hll
  clear hll
  have HU := Lib.hid hown
  have HY := Lib.hid hsc
  have HT := Lib.hid ht
  have HCH := Lib.hid hch
  clear hown hsc ht hch HC
  dsimp only at HR HSET HST ⊢
  go_upto_region 4 with (fail)
  go_cut [19] from 18 (fun u wx => u = .bool (e0 == 0) ∧ wx = w1)
  case first =>
    go_wp2_with (fail)
    go_meet
    case rel => exact ⟨rfl,rfl⟩
  case rest =>
  obtain ⟨rfl,rfl⟩ := hcut
  rename_i K1 hK1 K2 hK2
  refine hK2 _ _ ?_
  go_cut [5] from 20 (fun u wx => ∃ (e5 : Int) (s2 : Sh) (y2 : PSc),u = .int .i64 e5 ∧ Hid (SceneAt wx g b m s2 ⟨Z.1,Z.2,EO Z (.slice U vs.length uc)⟩ y2) ∧ Hid (TurnP (SFoot b m s x.t) (SFoot b m s2 y2.t) w wx) ∧ Hid (FnOwn wx w.heap.size (.slice U vs.length uc) vs) ∧ Hid (e5 ≠ 0 → Chn g b m Z wx (Sor b m s2 y2.t (EO Z (.slice U vs.length uc))) vs.reverse y2 x) ∧ Hid (R = if e5 ≠ 0 then (x,((vs.length : Nat) : Int),e5) else (y2,((vs.length : Nat) : Int),0)))
  case first =>
    by_cases h0 : e0 = 0
    · subst h0
      have t3 : ((0 : Int) == 0) = true := rfl
      have HC2 := Lib.hid (HSET.out wc s1 _ rfl HY.out (HO.out.turn HT.out))
      have HR2 : Hid (R = if (st y).2 ≠ 0 then (x,((vs.length : Nat) : Int),(st y).2) else ((st y).1,((vs.length : Nat) : Int),0)) := by show _ = _; rw [← HR.out,if_neg (by simp)]
      obtain ⟨⟨y2,e2⟩,hs2⟩ : ∃ q,st y = q := ⟨_,rfl⟩
      rw [hs2] at HC2 HR2 HST
      unfold SetQ at HC2
      clear HR HSET hs2
      dsimp only at HC2 HR2 HST
      go_wp2_with (fail)
      refine HC2.out.mono ?_
      rintro e w2 ⟨s2,rfl,hsc2,ht2⟩
      have HY2 := Lib.hid hsc2
      have HT2 := Lib.hid ht2
      clear hsc2 ht2 HC2
      go_wp2_with (fail)
      go_meet
      case rel =>
        refine ⟨e2,s2,y2,rfl,HY2.out,HT.out.trans HT2.out,HU.out.stays fun k hk => (HT2.out.far k (HU.out.block hk).2 (HY.out.old k (.inr hk)).2.1).2,fun hne => ?_,HR2.out⟩
        have := HCH.out.turn (HT2.out.sor (EO Z (.slice U vs.length uc)))
        rw [← HST.out hne] at this
        exact this
    · have t3 : (e0 == 0) = false := by simpa using h0
      have HR2 : Hid (R = if e0 ≠ 0 then (x,((vs.length : Nat) : Int),e0) else (y,((vs.length : Nat) : Int),0)) := by show _ = _; rw [← HR.out,if_pos h0,if_pos h0]
      clear HR HSET HST h0
      go_wp2_with (fail)
      go_meet
      case rel => exact ⟨e0,s1,y,rfl,HY.out,HT.out,HU.out,fun _ => HCH.out,HR2.out⟩
  case rest =>
    obtain ⟨e5,s2,y2,rfl,HY2,HT2,HU2,HCH2,HR2⟩ := hcut
    clear HY HT HU HCH HR HSET HST
    by_cases h5 : e5 = 0
    · subst h5
      have HE : Hid (R = (y2,((vs.length : Nat) : Int),0)) := by show _ = _; rw [HR2.out,if_neg (by simp)]
      clear HR2 HCH2
      go_wp2_with (fail)
      refine postM_ret w.heap.size trivial fun w' hb => ⟨_,results_tmp2 rfl _ _ _,?_⟩
      rw [HE.out]
      have hY : SceneAt wc g b m s2 Z y2 := HY2.out.part (E' := Z.3) (fun _ _ _ => rfl) fun k hk => ⟨(HY2.out.old k (.inl hk)).1,.inl (.inl hk)⟩
      exact ⟨s2,rfl,hY.bk hb,HT2.out.bk hb (Nat.le_refl _)⟩
    have t5 : (e5 == 0) = false := by simpa using h5
    have HE : Hid (R = (x,((vs.length : Nat) : Int),e5)) := by show _ = _; rw [HR2.out,if_pos h5]
    have HCH5 := Lib.hid (HCH2.out h5)
    clear HR2 HCH2 h5
    go_wp2_with (fail)
    refine (backf_call U vs.length uc wc).mono ?_
    rintro e w3 ⟨rfl,hw3⟩
    have hb3 : Below wc.heap.size wc w3 := by rw [hw3]; exact (Below.refl _ _).alloc (Nat.le_refl _) _
    have hx3 : BlkT w3 wc.heap.size [.slice U vs.length uc] 152 := by rw [hw3]; exact BlkT.new wc _ _
    obtain ⟨bx,hbx⟩ : ∃ bx,wc.heap.size = bx := ⟨_,rfl⟩
    have hsz3 : bx < w3.heap.size := by rw [← hbx]; exact hx3.inside
    obtain ⟨E3,hE3⟩ : ∃ E3 : Bset,E3 = fun k => EO Z (.slice U vs.length uc) k ∨ k = bx := ⟨_,rfl⟩
    have HE3 : Hid (∀ k,EO Z (.slice U vs.length uc) k ∨ k = bx ↔ E3 k) := fun k => by rw [hE3]
    have HY3 : Hid (SceneAt w3 g b m s2 ⟨Z.1,Z.2,E3⟩ y2) := HY2.out.part (fun k h1 _ => hb3.block k h1) fun k hk => by
      rcases (HE3.out k).2 hk with e | e
      · exact ⟨Nat.lt_of_lt_of_le (HY2.out.old k e).1 hb3.size,.inl e⟩
      · rw [e]; exact ⟨hsz3,.inr (by omega)⟩
    have HCH3 : Hid (Chn g b m Z w3 (Sor b m s2 y2.t E3) vs.reverse y2 x) := HCH5.out.part hb3.size (fun k h1 _ => hb3.block k h1) fun k hk => by
      rcases (HE3.out k).2 hk with e | e
      · exact .inl e
      · exact .inr (by omega)
    have HU3 : Hid (FnOwn w3 w.heap.size (.slice U vs.length uc) vs) := HU2.out.below hb3
    have HBF : Hid (BackF bx U uc vs w3) := by
      rw [← hbx]
      refine ⟨hx3.blk.cell 0,fun j hj => ?_⟩
      obtain ⟨g9,c9,e9,-,-,hrow⟩ := SOwn.row0 HU3.out fcs_len (by omega)
      injection e9 with e9 _ _
      obtain ⟨b9,o9,e8,hc⟩ := hrow (by omega)
      injection e8 with e8
      injection e8 with e8 e7
      refine ⟨g9,e9,?_⟩
      have := hc j hj 0 (fv vs[j]) rfl
      rw [← e8,← e7] at this
      simpa using this
    have HT3 : Hid (TurnP (SFoot b m s x.t) (SFoot b m s2 y2.t) w w3) := HT2.out.trans (TurnP.below hb3)
    have HNB : Hid (∀ a,U = some a → E3 a.block) := fun a ea => (HE3.out _).1 (.inl (.inr (by rw [ea]; rfl)))
    have HEB : Hid (E3 bx) := (HE3.out _).1 (.inr rfl)
    have HEZ : Hid (∀ k,Z.3 k → E3 k) := fun k hk => (HE3.out _).1 (.inl (.inl hk))
    have HLE : Hid (vs.length ≤ 100000) := by have := HLL.out; show _ ≤ _; omega
    rw [hbx]
    clear hw3 hb3 hx3 hbx hsz3 hE3 HE3 HY2 HCH5 HU2 HT2
    go_wp2_with (fail)
    refine wp_range (gf := 100) (lb := #[.pointer (some ⟨bx,0,none⟩)]) rfl (enters_of Tryz.func100 (by kernel_rfl) rfl) (es := backfE vs) (R := fun _ => Eq) (Kp := fun A B => BackF bx U uc vs A → BackF bx U uc vs B)
      (fun W1 hb => backf_iter HLE.out (HBF.out.bk hb)) (fun h k x => k (h x)) (fun A B hb h => h.bk hb) (fun n A B e k o _ hk _ => e ▸ hk)
      (fun e he => by obtain ⟨j,_,rfl⟩ := List.mem_map.1 he; rfl)
      (fun k W => ∃ s4 y4,SceneAt W g b m s4 ⟨Z.1,Z.2,E3⟩ y4 ∧ TurnP (SFoot b m s2 y2.t) (SFoot b m s4 y4.t) w3 W ∧ Chn g b m Z w3 (Sor b m s2 y2.t E3) (vs.reverse.drop k) y4 x)
      (fun _ _ _ => False) (fun k A B h hr => ?hI) (fun _ _ _ _ h _ => h.elim) ⟨s2,y2,HY3.out,TurnP.refl _ _,by rw [List.drop_zero]; exact HCH3.out⟩ ?a1 ?assign ?body ?done (fun _ _ _ _ _ _ h _ => h.elim)
    case hI =>
      obtain ⟨s4,y4,h1,h2,h3⟩ := h
      rcases hr with ⟨n,hn,rfl⟩ | hb
      · exact ⟨s4,y4,h1,h2,h3⟩
      · exact ⟨s4,y4,h1.bk hb,h2.bk hb (Nat.le_refl _),h3⟩
    case assign =>
      intro l j hj W9 KK hKK
      rw [backfE_at]
      gi_wp2_with (fail)
      exact hKK
    case body =>
      rintro l j hj W9 ⟨s4,y4,h1,h2,h3⟩
      rw [backfE_len] at hj
      have hd : vs.reverse.drop j = vs[vs.length - 1 - j]?.getD (0,#[]) :: vs.reverse.drop (j + 1) := by
        rw [List.drop_eq_getElem_cons (by simpa using hj),List.getElem_reverse,List.getElem?_eq_getElem (by omega)]
        rfl
      rw [hd] at h3
      clear hd
      obtain ⟨q,hq⟩ : ∃ q,vs[vs.length - 1 - j]?.getD (0,#[]) = q := ⟨_,rfl⟩
      rw [hq] at h3 ⊢
      clear hq
      obtain ⟨y5,⟨K,f,cs,e,hen,hK,hcl⟩,h4⟩ := h3
      have HCL := Lib.hid (hcl W9 s4 E3 (fun k hk => by
        have h5 := h2.far k (hK k hk).1 fun e => (hK k hk).2 (.inl e)
        exact ⟨h5.2,h5.1,fun e => (hK k hk).2 (.inr e)⟩) h1)
      have HS4 := Lib.hid h1
      have HT4 := Lib.hid h2
      have HC4 := Lib.hid h4
      rw [show fv q = .func (.func f) #[] cs from e]
      have hen2 := hen
      unfold Enters at hen2
      clear e hen hK hcl h1 h2 h4
      gi_wp2_with (fail)
      refine ⟨trivial,rfl,CallsIn.inRound l ((callsIn_wide (n := 0)).2 (HCL.out.mono ?_))⟩
      rintro e2 W7 ⟨⟨rv,rfl⟩,s6,h6,h7⟩
      have HS6 := Lib.hid h6
      have HT6 := Lib.hid h7
      clear h6 h7
      gi_wp2_with (fail)
      exact ⟨HS4.out.kb HT6.out,fun hB => hB.turn HT6.out (HS4.out.old _ HEB.out).2.1 fun a ea => (HS4.out.old _ (HNB.out a ea)).2.1,s6,y5,HS6.out,HT4.out.trans HT6.out,HC4.out⟩
    case done =>
      rintro D W9 hD ⟨s4,y4,h1,h2,h3⟩ hd
      rw [backfE_len,List.drop_of_length_le (by simp)] at h3
      obtain rfl : y4 = x := h3
      have HS4 := Lib.hid h1
      have HT4 := Lib.hid h2
      clear h1 h2
      go_wp2_with (fail)
      refine postM_ret w3.heap.size ⟨⟨D,rfl,hD,hd,by simp⟩,trivial⟩ fun w' hb => ⟨_,results_tmp2 rfl _ _ _,?_⟩
      rw [HE.out]
      have hY : SceneAt W9 g b m s4 Z y4 := HS4.out.part (E' := Z.3) (fun _ _ _ => rfl) fun k hk => ⟨(HS4.out.old k (HEZ.out k hk)).1,.inl (HEZ.out k hk)⟩
      exact ⟨s4,rfl,hY.bk hb,(HT3.out.trans HT4.out).bk hb HT3.out.size⟩
end
end Go.Proofs.YtehmblcbccceaaaGreat
