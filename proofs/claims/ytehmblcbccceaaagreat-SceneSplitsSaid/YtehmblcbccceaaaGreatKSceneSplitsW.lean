import Derived.Test.YtehmblcbccceaaaGreatKSdh
namespace Go.Proofs.YtehmblcbccceaaaGreat
open Go.RowKit pxm imm trm Go.Maps
theorem le_total {L : List OpL} {q : OpL} (h : q ∈ L) : q.l.length ≤ total L := by
 induction L with
 | nil => cases h
 | cons r L ih =>
  simp only [total,List.map_cons,List.sum_cons] at ih ⊢
  rcases List.mem_cons.1 h with rfl | h
  ·omega
  ·have := ih h; omega
theorem applyS_at {M : Int} {x : PSc} {l : List Op9} : 0 ≤ (applyS M setSt x l).2.1 ∧ (applyS M setSt x l).2.1 ≤ (l.length : Int) := by
 have h := allS_le M l x
 unfold applyS
 split
 ·exact ⟨by simp,by simp⟩
 split
 ·exact ⟨by simp,by simp; exact h⟩
 split
 ·exact ⟨by simp,by simp; exact h⟩
 ·exact ⟨by simp,by simp; exact h⟩
theorem opsAt_join {w0 w' : World} {base : Nat} {U : Option Addr} {n uc : Nat} {l : List OpR} {S : Bset} (h : OOwn w' base (.slice U n uc) l) (hS : ∀ k,S k → k < base) (hS2 : ∀ k,S k → w0.heap.size ≤ k) (hp : ∀ q ∈ l,Row eW w0 q.A q.o.lk.l) (hb : Below w0.heap.size w0 w') : OpsAt S w' U l := by
 have hbk := fun g => SOwn.block h (g := g)
 obtain ⟨A,c,e,-,-,hrow⟩ := SOwn.row h OpR.cs_len
 injection e with e1 _ _
 subst e1
 exact ⟨hrow,fun a e hne hk => by
  subst e
  have h1 := (hbk a.block rfl).1
  have h2 := hS _ hk
  omega,fun q hq => ⟨Row.below (hp q hq) hb,fun a e hne hk => by
  have h1 := Row.lt (hp q hq) e hne
  have h2 := hS2 _ hk
  omega⟩⟩
section
variable {w : World}
set_option maxHeartbeats 4000000 in
set_option maxRecDepth 100000 in
theorem splits_in (A1 : Option Addr) (L : List OpL) (c1 : Nat) (A2 : Option Addr) (la : List OpR) (c2 : Nat) (A3 : Option Addr) (lb : List OpR) (c3 : Nat) (w : World) (h1 : TrAt w A1 L) (n1 : L.length * 24 ≤ 140737488351232) (h2 : OpsR w A2 la) (n2 : la.length ≤ 1099511627776) (h3 : OpsR w A3 lb) (n3 : lb.length ≤ 1099511627776) :
  Calls Tryz.prog 7 #[.slice A1 L.length c1,.slice A2 la.length c2,.slice A3 lb.length c3] w fun e w' => e = .returned (.bool true) ∧ Below w.heap.size w w' := by
 have H1 := Lib.hid h1
 have H2 := Lib.hid h2
 have H3 := Lib.hid h3
 have HN := Lib.hid (And.intro n1 (And.intro n2 n3))
 have hw1 : Below w.heap.size w (w.alloc (.cells #[] tOps)) := (Below.refl _ _).alloc (Nat.le_refl _) _
 have ho1 : TOwn (w.alloc (.cells #[] tOps)) w.heap.size (.slice (some ⟨w.heap.size,0,none⟩) 0 0) [] := SOwn.lit (T := tOps) (enc := OpL.cs) OpL.cs_len w [] (Nat.le_refl _) (by unfold maxLen; simp)
 obtain ⟨v2,w2,hrun1,ho2,hg2,-⟩ := SOwn.appB (P := Tryz.prog) (c := c1) Tryz.underlying22 info_ops rfl (by decide) OpL.cs_len OpL.cs_plain ho1 (SRow.below h1.row hw1) (by have := h1.most; simp; unfold maxLen; omega) (by simp; omega) (by simp)
 rw [List.nil_append] at ho2
 have hb2 : Below w.heap.size w w2 := hw1.grown hg2 (by simp) fun k hk => (SOwn.block ho1 hk).1
 have hw3 : Below w2.heap.size w2 (w2.alloc (.cells ([(⟨A2,c2,la⟩ : OpL),⟨A3,c3,lb⟩].flatMap OpL.cs).toArray tOps)) := (Below.refl _ _).alloc (Nat.le_refl _) _
 obtain ⟨v4,w4,hrun2,ho4,hg4,-⟩ := SOwn.appB (P := Tryz.prog) (c := 2) Tryz.underlying22 info_ops rfl (by decide) OpL.cs_len OpL.cs_plain (SOwn.below ho2 hw3) (srow_new (enc := OpL.cs) OpL.cs_len w2 [⟨A2,c2,la⟩,⟨A3,c3,lb⟩] tOps rfl) (by have := h1.most; simp; unfold maxLen; omega) (by simp; omega) (by have := hb2.size; simp; omega)
 have hb4 : Below w.heap.size w w4 := (hb2.trans (hw3.mono hb2.size)).grown hg4 (by have := hb2.size; simp; omega) fun k hk => (SOwn.block ho2 hk).1
 obtain ⟨A2',c2',e2,-,-,-⟩ := SOwn.row ho2 OpL.cs_len
 obtain ⟨A4,c4,e4,-,-,hrow4⟩ := SOwn.row ho4 OpL.cs_len
 subst e2 e4
 have HB4 := Lib.hid hb4
 have HT4 : Hid (TrAt w4 A4 (L ++ [⟨A2,c2,la⟩,⟨A3,c3,lb⟩])) := ⟨hrow4,fun q hq => by
  rcases List.mem_append.1 hq with hq | hq
  ·exact (h1.ops q hq).below hb4
  ·simp only [List.mem_cons,List.not_mem_nil,or_false] at hq
   rcases hq with rfl | rfl
   ·exact h2.below hb4
   ·exact h3.below hb4,fun q hq => by
  rcases List.mem_append.1 hq with hq | hq
  ·exact h1.few q hq
  ·simp only [List.mem_cons,List.not_mem_nil,or_false] at hq
   rcases hq with rfl | rfl
   ·exact n2
   ·exact n3,by have := h1.most; simp; omega⟩
 have HSZ := Lib.hid (size_law _ A4 c4 w4 HT4.out)
 unfold SizeQ at HSZ
 rw [show (L ++ [(⟨A2,c2,la⟩ : OpL),⟨A3,c3,lb⟩]).length = L.length + 2 from by simp] at HSZ
 clear h1 h2 h3 n1 n2 n3 hw1 ho1 ho2 hg2 hb2 hw3 ho4 hg4 hb4 hrow4
 go_enter Tryz.func7,Tryz.ntmps7
 go_wp2_with (first | ((with_reducible show wpList _ _ _ (Oper.mk (some 19) (Op.buildSlice _ _ _) _ _ _ _ :: _) _ _); refine wpl_bs _ _ _ rfl rfl (by simp [go_sem]) (bs_tr0 _) ?_) | ((with_reducible show wpList _ _ _ (Oper.mk (some 24) (Op.buildSlice _ _ _) _ _ _ _ :: _) _ _); refine wpl_bs _ _ _ rfl rfl (by simp [go_sem]) (bs_tr2 ⟨A2,c2,la⟩ ⟨A3,c3,lb⟩ _) ?_) | ((with_reducible show wpList _ _ _ (Oper.mk (some 21) (Op.call _) _ _ _ _ :: _) _ _); refine wpl_append rfl _ _ tOpss tOpss tOpss rfl rfl _ _ _ _ rfl rfl hrun1 ?_) | ((with_reducible show wpList _ _ _ (Oper.mk (some 25) (Op.call _) _ _ _ _ :: _) _ _); refine wpl_append rfl _ _ tOpss tOpss tOpss rfl rfl _ _ _ _ rfl rfl hrun2 ?_))
 refine HSZ.out.mono ?_
 rintro e w5 ⟨n,rfl,hn,hn64,hb5⟩
 have HB5 : Hid (Below w.heap.size w w5) := HB4.out.trans (hb5.mono HB4.out.size)
 have HF := Lib.hid hn
 clear hb5 HSZ HT4 HB4 hn
 by_cases hneg : n < 0
 ·have t1 : decide (n < 0) = true := decide_eq_true hneg
  clear hneg
  go_wp2_with (fail)
  refine (awake_any _).mono ?_
  rintro e w6 ⟨rfl,hb6⟩
  have HB6 : Hid (Below w.heap.size w w6) := HB5.out.trans (hb6.mono HB5.out.size)
  clear hb6
  go_wp2_with (fail)
  go_ret
  exact ⟨rfl,HB6.out⟩
 have t1 : decide (n < 0) = false := decide_eq_false hneg
 have hfit := HF.out.1 (by omega)
 have HTH : Hid (∀ q ∈ L,thin q) := fun q hq => hfit.1 q (List.mem_append_left _ hq)
 have HTA : Hid (thin ⟨A2,c2,la⟩) := hfit.1 _ (by simp)
 have HTB : Hid (thin ⟨A3,c3,lb⟩) := hfit.1 _ (by simp)
 have HTL : Hid (la.length + lb.length ≤ 120 ∧ ∀ q ∈ L,q.l.length ≤ 120) := by
  have h1 := hfit.2.2
  simp only [total,List.map_append,List.sum_append,List.map_cons,List.map_nil,List.sum_cons,List.sum_nil] at h1
  refine ⟨by omega,fun q hq => ?_⟩
  have h2 := le_total hq
  unfold total at h2
  omega
 have HLL : Hid (L.length ≤ 30) := by have := hfit.2.1; simp at this; show _ ≤ _; omega
 have hlb : (L.length : Int) ≤ 30 := by have := HLL.out; omega
 clear hneg hfit HF
 go_wp2_with (fail)
 refine (new_ok (w := w5) (lawZ 20 fun _ => False) (fun _ e => e.elim) ⟨by decide,by decide⟩ ⟨by decide,by decide⟩ ⟨by decide,by decide⟩).mono ?_
 rintro e w6 ⟨g,b,m,s,rfl,hs6,hb6,hf6,hg6⟩
 have HM6 : Hid (MyS w g b m s (lawZ 20 fun _ => False) PSc.new w6) := ⟨hs6,fun k hk => Nat.le_trans HB5.out.size (hf6 k hk),HB5.out.trans (hb6.mono HB5.out.size)⟩
 clear hs6 hb6 hf6 hg6 HB5 t1
 go_wp2_with (fail)
 go_loopw [41] (fun x41 wr => ∃ (j : Nat) (s1 : Sh) (y : PSc),j ≤ L.length ∧ x41 = .int .i64 j ∧ Hid (MyS w g b m s1 (lawZ 20 fun _ => False) y wr) ∧ Hid (Sane y) ∧ Hid (y.t.length ≤ 19)) (fun x41 _ => L.length - (intOf x41).toNat)
 case atStart => exact ⟨0,s,PSc.new,Nat.zero_le _,rfl,HM6.out,PSc.new_sane,by show _ ≤ _; decide⟩
 case round =>
  obtain ⟨j,s1,y,hj,rfl,HM,HS,HL⟩ := hrel
  generalize wr = wA at *
  clear HM6
  by_cases hlt : j < L.length
  ·have t1 : decide (j < L.length) = true := by simpa using hlt
   have HLT := Lib.hid hlt
   have HTR := Lib.hid (H1.out.below HM.out.bel)
   obtain ⟨rb,ro,rA,rcell⟩ := HTR.out.row (by omega)
   subst rA
   obtain ⟨q,hq⟩ : ∃ q,q = L[j]'hlt := ⟨_,rfl⟩
   have HQM : Hid (q ∈ L) := by rw [hq]; exact List.getElem_mem hlt
   have hqc : wA.cell? ⟨rb,ro + j,none⟩ = some (.slice q.A q.l.length q.c) := by
    have := rcell j hlt 0 (.slice q.A q.l.length q.c) (by rw [hq]; rfl)
    rwa [Nat.mul_one,Nat.add_zero] at this
   have i0 := World.block_lt_of_cell? wA ⟨rb,_,none⟩ hqc
   have HAP := Lib.hid (applied HM.out.at_ HS.out q.l q.A q.c ((H1.out.ops q HQM.out).at_ HM.out.bel HM.out.ft) (thin_ok (H1.out.ops q HQM.out) (HTH.out q HQM.out)) (fun _ => ⟨by have := HTL.out.2 q HQM.out; omega,.inr ⟨by have := HL.out; omega,by decide⟩⟩) (by have := HTL.out.2 q HQM.out; omega))
   have HSA : Hid (Sane (applyS 20 setSt y (q.l.map (·.o))).1) := HS.out.apply fun o ho => by
    obtain ⟨r,h4,rfl⟩ := List.mem_map.1 ho
    exact thin_ok (H1.out.ops q HQM.out) (HTH.out q HQM.out) r h4
   have HLA : Hid ((applyS 20 setSt y (q.l.map (·.o))).1.t.length ≤ 19) := by
    have := (applyS_len (M := 20) (l := q.l.map (·.o)) HS.out.ok).2
    have := HL.out
    show _ ≤ _
    omega
   rw [show (lawZ 20 fun _ => False).2.2 = 20 from rfl] at HAP
   unfold ApplyQ at HAP
   obtain ⟨R,hR⟩ : ∃ R,applyS 20 setSt y (q.l.map (·.o)) = R := ⟨_,rfl⟩
   rw [hR] at HAP HSA HLA
   clear rcell hq hlt hR
   go_wp2_with (fail)
   refine HAP.out.mono ?_
   rintro e w7 ⟨s7,rfl,hs7,ht7⟩
   have HM7 := Lib.hid (HM.out.turn hs7 ht7)
   clear hs7 ht7 HAP HM hqc i0
   go_wp2_with (fail)
   go_roundw
   case rel => exact ⟨j + 1,s7,R.1,HLT.out,by go_num,HM7,HSA,HLA⟩
   case measure => have := HLT.out; simp [intOf]; omega
  ·obtain rfl : j = L.length := by omega
   have t1 : decide (L.length < L.length) = false := by simp
   clear hlt
   have HZ : Hid (y.t.length ≤ 1000) := Nat.le_trans HL.out (by decide)
   go_wp2_with (fail)
   refine (scopy_any HM.out.at_ HZ.out).mono ?_
   rintro e wB ⟨g2,b2,m2,s2,rfl,hs2,hb2,hf2,hg2⟩
   have HT2 := Lib.hid hs2
   have HF2 : Hid (∀ k,SFoot b2 m2 s2 y.t k → w.heap.size ≤ k) := fun k hk => Nat.le_trans HM.out.bel.size (hf2 k hk)
   have HS2 : Hid (SceneAt wB g b m s1 (lawZ 20 (SFoot b2 m2 s2 y.t)) y) := SceneAt.other (Z := lawZ 20 fun _ => False) HM.out.at_ (TurnP.below (S := fun _ => False) hb2) (fun _ e => e.elim) fun k hk => ⟨hs2.inside k hk,.inr (hf2 k hk)⟩
   have HBB : Hid (Below w.heap.size w wB) := HM.out.bel.trans (hb2.mono HM.out.bel.size)
   have HFS := Lib.hid HM.out.ft
   clear hs2 hb2 hf2 hg2 HM
   go_wp2_with (fail)
   refine (scopy_any HS2.out HZ.out).mono ?_
   rintro e wC ⟨g3,b3,m3,s3,rfl,hs3,hb3,hf3,hg3⟩
   have HU3 : Hid (SceneAt wC g3 b3 m3 s3 (lawZ 20 fun k => SFoot b2 m2 s2 y.t k ∨ SFoot b m s1 y.t k) y) := hs3
   have HBC : Hid (Below w.heap.size w wC) := HBB.out.trans (hb3.mono HBB.out.size)
   have HS3 : Hid (MyS w g b m s1 (lawZ 20 fun k => SFoot b2 m2 s2 y.t k ∨ SFoot b3 m3 s3 y.t k) y wC) := ⟨SceneAt.other (Z := lawZ 20 (SFoot b2 m2 s2 y.t)) HS2.out (TurnP.below (S := fun _ => False) hb3) (fun _ e => e.elim) fun k hk => by
    rcases hk with hk | hk
    ·exact ⟨Nat.lt_of_lt_of_le (HT2.out.inside k hk) hb3.size,.inl hk⟩
    ·exact ⟨hs3.inside k hk,.inr (hf3 k hk)⟩,HFS.out,HBC.out⟩
   have HT3 : Hid (SceneAt wC g2 b2 m2 s2 (lawZ 20 fun k => SFoot b m s1 y.t k ∨ SFoot b3 m3 s3 y.t k) y) := SceneAt.other (Z := lawZ 20 fun k => False ∨ SFoot b m s1 y.t k) HT2.out (TurnP.below (S := fun _ => False) hb3) (fun _ e => e.elim) fun k hk => by
    rcases hk with hk | hk
    ·exact ⟨Nat.lt_of_lt_of_le (HS2.out.inside k hk) hb3.size,.inl (.inr hk)⟩
    ·exact ⟨hs3.inside k hk,.inr (hf3 k hk)⟩
   have HF3 : Hid (∀ k,SFoot b3 m3 s3 y.t k → w.heap.size ≤ k) := fun k hk => Nat.le_trans HBB.out.size (hf3 k hk)
   have HOA := Lib.hid (H2.out.at_ (S := SFoot b m s1 y.t) HBC.out HFS.out)
   have HAP := Lib.hid (applied HS3.out.at_ HS.out la A2 c2 HOA.out (thin_ok (q := ⟨A2,c2,la⟩) H2.out HTA.out) (fun _ => ⟨by have := HTL.out.1; omega,.inr ⟨by have := HL.out; omega,(show (20 : Int) ≤ 900 by decide)⟩⟩) (by have := HTL.out.1; omega))
   have hoa : ∀ o ∈ la.map (·.o),OpOk o := fun o ho => by
    obtain ⟨r,h4,rfl⟩ := List.mem_map.1 ho
    exact thin_ok (q := ⟨A2,c2,la⟩) H2.out HTA.out r h4
   have hob : ∀ o ∈ lb.map (·.o),OpOk o := fun o ho => by
    obtain ⟨r,h4,rfl⟩ := List.mem_map.1 ho
    exact thin_ok (q := ⟨A3,c3,lb⟩) H3.out HTB.out r h4
   have HSA : Hid (Sane (applyS 20 setSt y (la.map (·.o))).1) := HS.out.apply hoa
   have HLA : Hid ((applyS 20 setSt y (la.map (·.o))).1.t.length ≤ 19) := by
    have := (applyS_len (M := 20) (l := la.map (·.o)) HS.out.ok).2
    have := HL.out
    show _ ≤ _
    omega
   have HTWO := Lib.hid (applyS_two (M := 20) (x := y) (a := la.map (·.o)) (b := lb.map (·.o)) (by have := HTL.out.1; simp; omega))
   have HNOT := Lib.hid (applyS_not (M := 20) (x := y) (l := la.map (·.o)))
   have HATB := Lib.hid (applyS_at (M := 20) (x := (applyS 20 setSt y (la.map (·.o))).1) (l := lb.map (·.o)))
   have HSAB : Hid (Sane (applyS 20 setSt y (la.map (·.o) ++ lb.map (·.o))).1) := HS.out.apply fun o ho => (List.mem_append.1 ho).elim (hoa o) (hob o)
   have HSB : Hid (Sane (applyS 20 setSt (applyS 20 setSt y (la.map (·.o))).1 (lb.map (·.o))).1) := HSA.out.apply hob
   rw [show (lawZ 20 fun k => SFoot b2 m2 s2 y.t k ∨ SFoot b3 m3 s3 y.t k).2.2 = 20 from rfl] at HAP
   unfold ApplyQ at HAP
   obtain ⟨⟨y1,ea,at_⟩,hR⟩ : ∃ R : PSc × Int × Int,((applyS 20 setSt y (la.map (·.o))).1,(applyS 20 setSt y (la.map (·.o))).2.2,(applyS 20 setSt y (la.map (·.o))).2.1) = R := ⟨_,rfl⟩
   simp only [Prod.mk.injEq] at hR
   obtain ⟨r1,r2,r3⟩ := hR
   rw [r1] at HSA HLA HTWO HNOT HATB HSB HAP
   rw [r2] at HTWO HNOT HAP
   rw [r3] at HAP
   clear hs3 hb3 hf3 hg3 HBB HS2 HT2 r1 r2 r3 hoa hob
   go_wp2_with (fail)
   refine HAP.out.mono ?_
   rintro e wD ⟨s4,rfl,hs4,ht4⟩
   have HS4 := Lib.hid (HS3.out.turn hs4 ht4)
   have HT4 : Hid (SceneAt wD g2 b2 m2 s2 (lawZ 20 fun k => SFoot b m s4 y1.t k ∨ SFoot b3 m3 s3 y.t k) y) := SceneAt.other (Z := lawZ 20 fun k => SFoot b m s1 y.t k ∨ SFoot b3 m3 s3 y.t k) HT3.out ht4 (fun k hk => .inl hk) fun k hk => by
    rcases hk with hk | hk
    ·exact ⟨hs4.inside k hk,(ht4.new hk).imp .inl id⟩
    ·exact ⟨Nat.lt_of_lt_of_le (HU3.out.inside k hk) ht4.size,.inl (.inr hk)⟩
   have HU4 : Hid (SceneAt wD g3 b3 m3 s3 (lawZ 20 fun k => SFoot b2 m2 s2 y.t k ∨ SFoot b m s4 y1.t k) y) := SceneAt.other (Z := lawZ 20 fun k => SFoot b2 m2 s2 y.t k ∨ SFoot b m s1 y.t k) HU3.out ht4 (fun k hk => .inr hk) fun k hk => by
    rcases hk with hk | hk
    ·exact ⟨Nat.lt_of_lt_of_le (HT3.out.inside k hk) ht4.size,.inl (.inl hk)⟩
    ·exact ⟨hs4.inside k hk,(ht4.new hk).imp .inr id⟩
   clear hs4 ht4 HAP HS3 HT3 HU3 HOA HBC
   by_cases hea : ¬ ea = 0
   ·have t5 : (ea == 0) = false := by simpa using hea
    have hy1 : y1 = y := HNOT.out hea
    have HEQ := Lib.hid (sequal HS4.out.at_ HU4.out HSA.out.fit HS.out.fit (Nat.le_trans HLA.out (by decide)) HZ.out ⟨rfl,rfl⟩)
    unfold EqQ at HEQ
    have HSM : Hid (same y1 y) := by rw [hy1]; exact same_self _
    clear hea hy1
    go_wp2_with (fail)
    refine HEQ.out.mono ?_
    rintro e wE ⟨r9,rfl,hr9,hb9⟩
    obtain rfl : r9 = true := hr9.2 HSM.out
    have HBE : Hid (Below w.heap.size w wE) := HS4.out.bel.trans (hb9.mono HS4.out.bel.size)
    clear hr9 hb9 HEQ
    go_wp2_with (fail)
    refine (awake_any _).mono ?_
    rintro e wF ⟨rfl,hbF⟩
    have HBF : Hid (Below w.heap.size w wF) := HBE.out.trans (hbF.mono HBE.out.size)
    clear hbF
    go_wp2_with (fail)
    go_ret
    exact ⟨rfl,HBF.out⟩
   obtain rfl : ea = 0 := by simpa using hea
   have HTW2 := Lib.hid (HTWO.out rfl)
   clear hea HTWO HNOT
   have HOB := Lib.hid (H3.out.at_ (S := SFoot b m s4 y1.t) HS4.out.bel HS4.out.ft)
   have HAP := Lib.hid (applied HS4.out.at_ HSA.out lb A3 c3 HOB.out (thin_ok (q := ⟨A3,c3,lb⟩) H3.out HTB.out) (fun _ => ⟨by have := HTL.out.1; omega,.inr ⟨by have := HLA.out; omega,(show (20 : Int) ≤ 900 by decide)⟩⟩) (by have := HTL.out.1; omega))
   rw [show (lawZ 20 fun k => SFoot b2 m2 s2 y.t k ∨ SFoot b3 m3 s3 y.t k).2.2 = 20 from rfl] at HAP
   have HLB : Hid ((applyS 20 setSt y1 (lb.map (·.o))).1.t.length ≤ 19) := by
    have := (applyS_len (M := 20) (l := lb.map (·.o)) HSA.out.ok).2
    have := HLA.out
    show _ ≤ _
    omega
   have HNOB := Lib.hid (applyS_not (M := 20) (x := y1) (l := lb.map (·.o)))
   unfold ApplyQ at HAP
   obtain ⟨⟨y2,eb,bt⟩,hR⟩ : ∃ R : PSc × Int × Int,((applyS 20 setSt y1 (lb.map (·.o))).1,(applyS 20 setSt y1 (lb.map (·.o))).2.2,(applyS 20 setSt y1 (lb.map (·.o))).2.1) = R := ⟨_,rfl⟩
   simp only [Prod.mk.injEq] at hR
   obtain ⟨r1,r2,r3⟩ := hR
   rw [r1] at HAP HTW2 HSB HLB HNOB
   rw [r2] at HAP HTW2 HNOB
   rw [r3] at HAP HTW2 HATB
   clear r1 r2 r3
   go_wp2_with (fail)
   refine HAP.out.mono ?_
   rintro e wE ⟨s5,rfl,hs5,ht5⟩
   have HS5 := Lib.hid (HS4.out.turn hs5 ht5)
   have HT5 : Hid (SceneAt wE g2 b2 m2 s2 (lawZ 20 fun k => SFoot b m s5 y2.t k ∨ SFoot b3 m3 s3 y.t k) y) := SceneAt.other (Z := lawZ 20 fun k => SFoot b m s4 y1.t k ∨ SFoot b3 m3 s3 y.t k) HT4.out ht5 (fun k hk => .inl hk) fun k hk => by
    rcases hk with hk | hk
    ·exact ⟨hs5.inside k hk,(ht5.new hk).imp .inl id⟩
    ·exact ⟨Nat.lt_of_lt_of_le (HU4.out.inside k hk) ht5.size,.inl (.inr hk)⟩
   have HU5 : Hid (SceneAt wE g3 b3 m3 s3 (lawZ 20 fun k => SFoot b2 m2 s2 y.t k ∨ SFoot b m s5 y2.t k) y) := SceneAt.other (Z := lawZ 20 fun k => SFoot b2 m2 s2 y.t k ∨ SFoot b m s4 y1.t k) HU4.out ht5 (fun k hk => .inr hk) fun k hk => by
    rcases hk with hk | hk
    ·exact ⟨Nat.lt_of_lt_of_le (HT4.out.inside k hk) ht5.size,.inl (.inl hk)⟩
    ·exact ⟨hs5.inside k hk,(ht5.new hk).imp .inr id⟩
   clear hs5 ht5 HAP HS4 HT4 HU4 HOB
   -- the ops of both,joined
   have hw1 : Below wE.heap.size wE (wE.alloc (.cells #[] 77)) := (Below.refl _ _).alloc (Nat.le_refl _) _
   have ho1 : OOwn (wE.alloc (.cells #[] 77)) wE.heap.size (.slice (some ⟨wE.heap.size,0,none⟩) 0 0) [] := SOwn.lit (T := 77) (enc := OpR.cs) OpR.cs_len wE [] (Nat.le_refl _) (by unfold maxLen; simp)
   have hbE := HS5.out.bel
   obtain ⟨v6,w6,hrun1,ho2,hg2,-⟩ := SOwn.appB (P := Tryz.prog) (c := c2) Tryz.underlying38 info_op rfl (by decide) OpR.cs_len OpR.cs_plain ho1 (SRow.below H2.out.row (hbE.trans (hw1.mono hbE.size))) (by have := HTL.out.1; simp; unfold maxLen; omega) (by have := HTL.out.1; simp; omega) (by simp)
   rw [List.nil_append] at ho2
   have hb6 : Below wE.heap.size wE w6 := hw1.grown hg2 (by simp) fun k hk => (SOwn.block ho1 hk).1
   obtain ⟨v7,w7,hrun2,ho4,hg4,-⟩ := SOwn.appB (P := Tryz.prog) (c := c3) Tryz.underlying38 info_op rfl (by decide) OpR.cs_len OpR.cs_plain ho2 (SRow.below H3.out.row (hbE.trans (hb6.mono hbE.size))) (by have := HTL.out.1; unfold maxLen; omega) (by have := HTL.out.1; omega) hb6.size
   have hb7 : Below wE.heap.size wE w7 := hb6.grown hg4 hb6.size fun k hk => (SOwn.block ho2 hk).1
   obtain ⟨A6,c6,e2,-,-,-⟩ := SOwn.row ho2 OpR.cs_len
   obtain ⟨A7,c7,e4,-,-,-⟩ := SOwn.row ho4 OpR.cs_len
   subst e2 e4
   have HS7 : Hid (MyS w g b m s5 (lawZ 20 fun k => SFoot b2 m2 s2 y.t k ∨ SFoot b3 m3 s3 y.t k) y2 w7) := HS5.out.below hb7
   have HT7 := Lib.hid (HT5.out.below hb7)
   have HU7 := Lib.hid (HU5.out.below hb7)
   have HOC : Hid (OpsAt (SFoot b2 m2 s2 y.t) w7 A7 (la ++ lb)) := opsAt_join (w0 := w) ho4 HT5.out.inside HF2.out (fun q hq => (List.mem_append.1 hq).elim (fun h => (H2.out.px q h).1) fun h => (H3.out.px q h).1) HS7.out.bel
   have HAP := Lib.hid (applied HT7.out HS.out (la ++ lb) A7 c7 HOC.out (fun q hq => (List.mem_append.1 hq).elim (fun h => thin_ok (q := ⟨A2,c2,la⟩) H2.out HTA.out q h) fun h => thin_ok (q := ⟨A3,c3,lb⟩) H3.out HTB.out q h) (fun _ => ⟨by have := HTL.out.1; simp; omega,.inr ⟨by have := HL.out; omega,(show (20 : Int) ≤ 900 by decide)⟩⟩) (by have := HTL.out.1; simp; omega))
   rw [show (lawZ 20 fun k => SFoot b m s5 y2.t k ∨ SFoot b3 m3 s3 y.t k).2.2 = 20 from rfl,List.map_append,List.length_append] at HAP
   unfold ApplyQ at HAP
   rw [List.length_append] at hrun2
   clear hw1 ho1 ho2 hg2 hb6 ho4 hg4 hb7 hbE HS5 HT5 HU5
   obtain ⟨⟨y3,ec,ct⟩,hR⟩ : ∃ R : PSc × Int × Int,((applyS 20 setSt y (la.map (·.o) ++ lb.map (·.o))).1,(applyS 20 setSt y (la.map (·.o) ++ lb.map (·.o))).2.2,(applyS 20 setSt y (la.map (·.o) ++ lb.map (·.o))).2.1) = R := ⟨_,rfl⟩
   simp only [Prod.mk.injEq] at hR
   obtain ⟨r1,r2,r3⟩ := hR
   have HX1 : Hid (eb ≠ 0 → y3 = y ∧ ct = (la.length : Int) + bt ∧ ec = eb) := fun he => by
    have h1 := HTW2.out.1 he
    rw [h1] at r1 r2 r3
    exact ⟨r1.symm,by rw [← r3]; simp,r2.symm⟩
   have HX2 : Hid (eb = 0 → likeW y3 y2 ∧ ct = (la.length : Int) + (lb.length : Int) ∧ ec = 0) := fun he => by
    have h1 := HTW2.out.2 he
    rw [h1.2] at r2 r3
    rw [r1] at h1
    exact ⟨h1.1,by rw [← r3]; simp,r2.symm⟩
   rw [r1] at HAP HSAB
   rw [r2,r3] at HAP
   clear r1 r2 r3 HTW2
   go_wp2_with (first | ((with_reducible show wpList _ _ _ (Oper.mk (some 81) (Op.buildSlice _ _ _) _ _ _ _ :: _) _ _); refine wpl_bs _ _ _ rfl rfl (by simp [go_sem]) (bs_op0 _) ?_) | ((with_reducible show wpList _ _ _ (Oper.mk (some 83) (Op.call _) _ _ _ _ :: _) _ _); refine wpl_append rfl _ _ tOps tOps tOps rfl rfl _ _ _ _ rfl rfl hrun1 ?_) | ((with_reducible show wpList _ _ _ (Oper.mk (some 85) (Op.call _) _ _ _ _ :: _) _ _); refine wpl_append rfl _ _ tOps tOps tOps rfl rfl _ _ _ _ rfl rfl hrun2 ?_))
   refine HAP.out.mono ?_
   rintro e w8 ⟨s8,rfl,hs8,ht8⟩
   have HT8 := Lib.hid hs8
   have HS8 : Hid (SceneAt w8 g b m s5 (lawZ 20 fun _ => False) y2) := SceneAt.other (Z := lawZ 20 fun k => SFoot b2 m2 s2 y.t k ∨ SFoot b3 m3 s3 y.t k) HS7.out.at_ ht8 (fun k hk => .inl hk) fun k hk => hk.elim
   have HU8 : Hid (SceneAt w8 g3 b3 m3 s3 (lawZ 20 fun _ => False) y) := SceneAt.other (Z := lawZ 20 fun k => SFoot b2 m2 s2 y.t k ∨ SFoot b m s5 y2.t k) HU7.out ht8 (fun k hk => .inl hk) fun k hk => hk.elim
   have HB8 : Hid (Below w.heap.size w w8) := HS7.out.bel.trans (ht8.to_below HS7.out.bel.size HF2.out)
   clear hs8 ht8 HAP HT7 HU7 HS7 HOC
   by_cases heb : ¬ eb = 0
   ·have t6 : (eb == 0) = false := by simpa using heb
    obtain ⟨hy3,rfl,rfl⟩ := HX1.out heb
    have HEQ := Lib.hid (sequal HT8.out HU8.out HSAB.out.fit HS.out.fit (by rw [hy3]; exact HZ.out) HZ.out ⟨rfl,rfl⟩)
    unfold EqQ at HEQ
    have HSM : Hid (same y3 y) := by rw [hy3]; exact same_self _
    obtain ⟨b1,b2⟩ := HATB.out
    have hbt : 0 ≤ bt ∧ bt ≤ 120 := ⟨b1,by have := HTL.out.1; simp at b2; omega⟩
    have hla : (la.length : Int) ≤ 120 := by have := HTL.out.1; omega
    have hwr : wrap64 ((la.length : Int) + bt) = (la.length : Int) + bt := by unfold wrap64; omega
    obtain ⟨sm,hsm⟩ : ∃ sm,(la.length : Int) + bt = sm := ⟨_,rfl⟩
    rw [hsm] at hwr ⊢
    clear heb hy3 b1 b2 HX1 HX2
    go_wp2_with (fail)
    refine HEQ.out.mono ?_
    rintro e wE ⟨r9,rfl,hr9,hb9⟩
    obtain rfl : r9 = true := hr9.2 HSM.out
    have HBE : Hid (Below w.heap.size w wE) := HB8.out.trans (hb9.mono HB8.out.size)
    clear hr9 hb9 HEQ
    go_wp2_with (fail)
    refine (awake_any _).mono ?_
    rintro e wF ⟨rfl,hbF⟩
    have HBF : Hid (Below w.heap.size w wF) := HBE.out.trans (hbF.mono HBE.out.size)
    clear hbF
    go_wp2_with (fail)
    go_ret
    exact ⟨rfl,HBF.out⟩
   obtain rfl : eb = 0 := by simpa using heb
   obtain ⟨hlk,rfl,rfl⟩ := HX2.out rfl
   have HEQ := Lib.hid (sequal HS8.out HT8.out HSB.out.fit HSAB.out.fit (Nat.le_trans HLB.out (by decide)) (by rw [hlk.1]; exact Nat.le_trans HLB.out (by decide)) ⟨rfl,rfl⟩)
   unfold EqQ at HEQ
   have HSM : Hid (same y2 y3) := same_like ⟨hlk.1.symm,hlk.2.symm⟩
   have hla : (la.length : Int) + (lb.length : Int) ≤ 240 := by have := HTL.out.1; omega
   have hwr : wrap64 ((la.length : Int) + (lb.length : Int)) = (la.length : Int) + (lb.length : Int) := by unfold wrap64; omega
   obtain ⟨sm,hsm⟩ : ∃ sm,(la.length : Int) + (lb.length : Int) = sm := ⟨_,rfl⟩
   rw [hsm] at hwr ⊢
   clear heb HX1 HX2
   go_wp2_with (fail)
   refine HEQ.out.mono ?_
   rintro e wE ⟨r9,rfl,hr9,hb9⟩
   obtain rfl : r9 = true := hr9.2 HSM.out
   have HBE : Hid (Below w.heap.size w wE) := HB8.out.trans (hb9.mono HB8.out.size)
   clear hr9 hb9 HEQ
   go_wp2_with (fail)
   refine (awake_any _).mono ?_
   rintro e wF ⟨rfl,hbF⟩
   have HBF : Hid (Below w.heap.size w wF) := HBE.out.trans (hbF.mono HBE.out.size)
   clear hbF
   go_wp2_with (fail)
   go_ret
   exact ⟨rfl,HBF.out⟩
end
end Go.Proofs.YtehmblcbccceaaaGreat
