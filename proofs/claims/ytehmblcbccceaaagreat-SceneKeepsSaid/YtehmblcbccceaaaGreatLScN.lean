import Derived.Test.YtehmblcbccceaaaGreatLScM
namespace Go.Proofs.YtehmblcbccceaaaGreat
open Go.RowKit pxm imm trm Go.Maps
structure SMid (w : World) (g b m : Nat) (s : Sh) (Z : ZZ) (t : T) (H : Int → Prop) (nd : Int → Nd) (ws : Int → Mp) : Prop where
  blk : BlkT w g [.iface 109 (.pointer (some ⟨b,0,none⟩)),.pointer (some ⟨b,0,none⟩),.int .i64 Z.1,.int .i64 Z.2.1,.int .i64 Z.2.2,.map (some m)] tScene
  tree : TreeAt w b s t
  map : ∃ es,VM w m es ∧ (∀ i,omap.look es i ≠ none → H i) ∧ ∀ i,H i → ∃ v,omap.look es i = some v ∧ PlAt Z.3 (SFoot b m s t) w v (nd i) (ws i)
  gfar : ¬ SFoot b m s t g
  mfar : ¬ FootT b s t m
  old : ∀ k,Z.3 k → k < w.heap.size ∧ ¬ SFoot b m s t k ∧ k ≠ g
section
variable {w w' : World} {g b m : Nat} {s s' : Sh} {Z : ZZ} {x : PSc} {t t' : T} {H H' : Int → Prop} {nd : Int → Nd} {ws : Int → Mp}
theorem SceneAt.mid (h : SceneAt w g b m s Z x) : SMid w g b m s Z x.t (fun i => has x.t i = true) x.nd x.ws := ⟨h.blk,h.tree,h.map,h.gfar,h.mfar,h.old⟩
theorem SMid.scene (h : SMid w g b m s Z t H nd ws) (hH : ∀ i,H i ↔ has t i = true) : SceneAt w g b m s Z ⟨t,nd,ws⟩ := by
  obtain ⟨es,hm,h1,h2⟩ := h.map
  exact ⟨h.blk,h.tree,⟨es,hm,fun i hi => (hH i).1 (h1 i hi),fun i hi => h2 i ((hH i).2 hi)⟩,h.gfar,h.mfar,h.old⟩
theorem SMid.alike (h : SMid w g b m s Z t H nd ws) (hH : ∀ i,H' i ↔ H i) : SMid w g b m s Z t H' nd ws := by
  obtain ⟨es,hm,h1,h2⟩ := h.map
  exact ⟨h.blk,h.tree,⟨es,hm,fun i hi => (hH i).2 (h1 i hi),fun i hi => h2 i ((hH i).1 hi)⟩,h.gfar,h.mfar,h.old⟩
theorem SMid.inside (h : SMid w g b m s Z t H nd ws) : ∀ k,SFoot b m s t k → k < w.heap.size := by
  rintro k (rfl | hk)
  · obtain ⟨es,hm,_⟩ := h.map
    exact hm.inside
  · exact h.tree.raw.inside k hk
theorem SMid.below (h : SMid w g b m s Z t H nd ws) (hb : Below w.heap.size w w') : SMid w' g b m s Z t H nd ws := by
  obtain ⟨es,hm,h1,h2⟩ := h.map
  refine ⟨h.blk.stays (hb.block _ h.blk.inside),h.tree.below hb,⟨es,hm.below hb,h1,fun i hi => ?_⟩,h.gfar,h.mfar,fun k hk => ⟨Nat.lt_of_lt_of_le (h.old k hk).1 hb.size,(h.old k hk).2⟩⟩
  obtain ⟨v,e,hv⟩ := h2 i hi
  exact ⟨v,e,hv.turn (TurnP.below hb)⟩
theorem SMid.step (h : SMid w g b m s Z t H nd ws) (h1 : TreeAt w' b s' t') (ht : TurnP (FootT b s t) (FootT b s' t') w w') : SMid w' g b m s' Z t' H nd ws ∧ TurnP (SFoot b m s t) (SFoot b m s' t') w w' := by
  obtain ⟨es,hm,e1,e2⟩ := h.map
  have hmf := ht.far m hm.inside h.mfar
  have hT : TurnP (SFoot b m s t) (SFoot b m s' t') w w' := ⟨ht.os,ht.tape,ht.output,ht.size,fun k hk hn => by
    have h3 := ht.far k hk fun e => hn (.inr e)
    exact ⟨fun e => e.elim (fun e => hn (.inl e)) h3.1,h3.2⟩⟩
  have hg := hT.far g h.blk.inside h.gfar
  refine ⟨⟨h.blk.stays hg.2,h1,⟨es,hm.stays hmf.2,e1,fun i hi => ?_⟩,hg.1,hmf.1,fun k hk => ⟨Nat.lt_of_lt_of_le (h.old k hk).1 ht.size,(hT.far k (h.old k hk).1 (h.old k hk).2.1).1,(h.old k hk).2.2⟩⟩,hT⟩
  obtain ⟨v,e,hv⟩ := e2 i hi
  exact ⟨v,e,hv.turn hT⟩
theorem SMid.store (h : SMid w g b m s Z t H nd ws) (hn : t.length ≤ 100000) (hH : ∀ i,H i → has t i = true) {i : Int} (hi : I64 i) {v : Value} {n : Nd} {u : Mp} (hv : PlAt Z.3 (SFoot b m s t) w v n u) :
    ∃ w',(Instr.mapUpdate tPlaces (.map (some m)) (.int .i64 i) v).run Tryz.prog w = .ok () w' ∧ SMid w' g b m s Z t (fun j => j = i ∨ H j) (upd nd i n) (upd ws i u) ∧ TurnP (SFoot b m s t) (SFoot b m s t) w w' := by
  obtain ⟨es,hm,h1,h2⟩ := h.map
  have hle := es_le hm.rises fun j hj => hH j (h1 j hj)
  obtain ⟨w',hrun,hm',hg⟩ := hm.store und_places hi v (by have := vput_len i v es; omega)
  have ht : TurnP (SFoot b m s t) (SFoot b m s t) w w' := TurnP.refl_grown hg (.inl rfl)
  refine ⟨w',hrun,⟨h.blk.stays (ht.far g h.blk.inside h.gfar).2,h.tree.stays fun k hk => hg.block k (h.tree.raw.inside k hk) fun e => ?_,⟨_,hm',fun j hj => ?_,fun j hj => ?_⟩,h.gfar,h.mfar,fun k hk => ⟨Nat.lt_of_lt_of_le (h.old k hk).1 ht.size,(h.old k hk).2⟩⟩,ht⟩
  · exact h.mfar (Option.some.inj e ▸ hk)
  · rw [omap.look_put] at hj
    by_cases e : j = i
    · exact .inl e
    · rw [if_neg e] at hj; exact .inr (h1 j hj)
  · rw [omap.look_put]
    by_cases e : j = i
    · subst e
      rw [if_pos rfl]
      exact ⟨v,rfl,by simp only [upd_same]; exact hv.turn ht⟩
    · rw [if_neg e]
      obtain ⟨v',e',hv'⟩ := h2 j (hj.resolve_left e)
      exact ⟨v',e',by simp only [upd_ne _ e]; exact hv'.turn ht⟩
theorem SMid.drop (h : SMid w g b m s Z t H nd ws) {i : Int} (hi : I64 i) (ty : TypeId) :
    ∃ w',(Builtin.delete_ #[tPlaces,3] ty #[.map (some m),.int .i64 i]).run Tryz.prog w = .ok (.tuple #[]) w' ∧ SMid w' g b m s Z t (fun j => j ≠ i ∧ H j) nd ws ∧ TurnP (SFoot b m s t) (SFoot b m s t) w w' := by
  obtain ⟨es,hm,h1,h2⟩ := h.map
  obtain ⟨w',hrun,hm',hg⟩ := hm.drop und_places hi ty
  have ht : TurnP (SFoot b m s t) (SFoot b m s t) w w' := TurnP.refl_grown hg (.inl rfl)
  refine ⟨w',hrun,⟨h.blk.stays (ht.far g h.blk.inside h.gfar).2,h.tree.stays fun k hk => hg.block k (h.tree.raw.inside k hk) fun e => ?_,⟨_,hm',fun j hj => ?_,fun j hj => ?_⟩,h.gfar,h.mfar,fun k hk => ⟨Nat.lt_of_lt_of_le (h.old k hk).1 ht.size,(h.old k hk).2⟩⟩,ht⟩
  · exact h.mfar (Option.some.inj e ▸ hk)
  · rw [omap.look_del] at hj
    by_cases e : j = i
    · rw [if_pos e] at hj; exact absurd rfl hj
    · rw [if_neg e] at hj; exact ⟨e,h1 j hj⟩
  · rw [omap.look_del,if_neg hj.1]
    obtain ⟨v',e',hv'⟩ := h2 j hj.2
    exact ⟨v',e',hv'.turn ht⟩
end
structure MidJ (w0 : World) (g b m : Nat) (s : Sh) (Z : ZZ) (t : T) (H : Int → Prop) (nd : Int → Nd) (ws : Int → Mp) (t' : T) (d : Bool) (w : World) : Prop where
  no : d = false → SMid w g b m s Z t H nd ws
  yes : d = true → ∃ s',SMid w g b m s' Z t' H nd ws ∧ TurnP (SFoot b m s t) (SFoot b m s' t') w0 w
structure MapJ (g b m : Nat) (s : Sh) (Z : ZZ) (t : T) (H : Int → Prop) (nd : Int → Nd) (ws : Int → Mp) (H' : Int → Prop) (nd' : Int → Nd) (ws' : Int → Mp) (d : Bool) (w : World) : Prop where
  no : d = false → SMid w g b m s Z t H nd ws
  yes : d = true → SMid w g b m s Z t H' nd' ws'
/-! ### A node that was just made is taken away -/
theorem kids_fresh {t : T} (ok : Ok t) {i p : Int} {n : Nat} (hi : ¬ has t i = true) (hp : has t p = true) (hl : n ≤ (kids t p).length) : kids (put (i,p) n t) i = [] := by
  rw [kids_put ok.nd hl,if_neg (show ¬ i = p from fun e => hi (by rw [e]; exact hp))]
  exact kids_none ok hi
theorem addS_back {t t' : T} {i p n : Int} (ok : Ok t) (h : addS t i p n = (t',0)) : Ok t' ∧ i ∈ ids t' ∧ ¬ has t i = true ∧ (∀ j,has t' j = true ↔ j = i ∨ has t j = true) ∧ trm.walk t' i = [i] ∧ ∀ q,kids (gone [i] t') q = kids t q := by
  have hok := (addS_ok ok i p n).1
  unfold addS at h hok
  by_cases h1 : i < 1 ∨ 65535 < i
  · rw [if_pos h1] at h; cases h
  rw [if_neg h1] at h hok
  by_cases h2 : has t i = true
  · rw [if_pos h2] at h; cases h
  rw [if_neg h2] at h hok
  by_cases h3 : has t p = false
  · rw [if_pos h3] at h; cases h
  rw [if_neg h3] at h hok
  by_cases h4 : n < 0 ∨ ((kids t p).length : Int) < n
  · rw [if_pos h4] at h; cases h
  rw [if_neg h4] at h hok
  obtain rfl := (Prod.mk.inj h).1
  have h3' : has t p = true := by simpa using h3
  have hl : n.toNat ≤ (kids t p).length := by omega
  have hk := fun q => kids_put (r := (i,p)) ok.nd hl q
  have hi : i ∈ ids (put (i,p) n.toNat t) := ids_put.2 (.inl rfl)
  have hnk : ∀ q,i ∉ kids t q := fun q hq => h2 (has_iff.2 (.inr (ok.kid hq).1))
  refine ⟨hok,hi,h2,fun j => ?_,?_,fun q => ?_⟩
  · rw [has_iff,ids_put,has_iff]
    constructor
    · rintro (h | h | h)
      · exact .inr (.inl h)
      · exact .inl h
      · exact .inr (.inr h)
    · rintro (h | h | h)
      · exact .inr (.inl h)
      · exact .inl h
      · exact .inr (.inr h)
  · rw [walk_eq hok,kids_fresh ok h2 h3' hl]; rfl
  · rw [kids_gone,hk]
    have e : ∀ L : List Int,(L.filter fun k => decide (k ∉ [i])) = L.filter fun k => decide (k ≠ i) := fun L => List.filter_congr fun k _ => by simp
    rw [e]
    by_cases hq : q = p
    · rw [if_pos hq,filter_ins _ _ _ (hnk q)]
    · rw [if_neg hq]
      exact List.filter_eq_self.2 fun k hk => by rw [decide_eq_true_eq]; intro e; exact hnk q (e ▸ hk)
section
variable {w : World} {g b m : Nat} {s : Sh} {Z : ZZ} {x : PSc}
set_option maxHeartbeats 2000000 in
set_option maxRecDepth 100000 in
theorem create_back (h : SceneAt w g b m s Z x) (hn : x.t.length ≤ 1000) {kb ki : Nat} {ci : Int} (hb : Blk w kb [.pointer (some ⟨g,0,none⟩)]) (hc : Blk w ki [.int .i64 ci]) (h1 : ¬ SFoot b m s x.t kb) (h2 : ¬ SFoot b m s x.t ki) (hi : I64 ci) (hx : ci ∈ ids x.t) (hwk : trm.walk x.t ci = [ci]) :
    Calls Tryz.prog 154 #[.pointer (some ⟨kb,0,none⟩),.pointer (some ⟨ki,0,none⟩)] w fun e w' => (∃ r,e = .returned r) ∧ ∃ s',SMid w' g b m s' Z (gone [ci] x.t) (fun j => j ≠ ci ∧ has x.t j = true) x.nd x.ws ∧ TurnP (SFoot b m s x.t) (SFoot b m s' (gone [ci] x.t)) w w' := by
  have HRM : Hid (remS x.t ci = (gone [ci] x.t,[ci],0)) := by
    show _ = _
    unfold remS
    rw [if_neg (h.tree.ok.ne0 hx),if_neg (by rw [has_iff.2 (.inr hx)]; simp),hwk]
  have HS := Lib.hid h
  have HN := Lib.hid hn
  have HB := Lib.hid hb
  have HC := Lib.hid hc
  have HNB := Lib.hid h1
  have HNC := Lib.hid h2
  have HGT := Lib.hid h.blk
  have HNG := Lib.hid h.gfar
  have HI := Lib.hid hi
  clear h hn hb hc h1 h2 hi hx hwk
  go_enter Tryz.func154,Tryz.ntmps154
  go_upto_region 0 with (fail)
  refine regs.wp_region_put (TurnP (SFoot b m s x.t) (SFoot b m s x.t)) (fun L wx => MidJ w g b m s Z x.t (fun i => has x.t i = true) x.nd x.ws ((gone [ci] x.t)) (L 5) wx) [2,3,4,5,6,7] (by kernel_rfl) (by kernel_rfl) (fun _ => TurnP.refl _ _) (fun _ _ _ h k => h.trans k) (fun i => (match i with
    | 0 => regs.Say.val _ (.pointer (some ⟨g,0,none⟩))
    | 1 => regs.Say.val _ (.pointer (some ⟨g,0,none⟩))
    | 2 => regs.Say.val _ (.pointer (some ⟨g,1,none⟩))
    | 3 => regs.Say.val _ (.pointer (some ⟨b,0,none⟩))
    | 4 => regs.Say.val _ (.int .i64 ci)
    | 5 => regs.Say.any _
    | _ => regs.Say.any _ : regs.Say (TurnP (SFoot b m s x.t) (SFoot b m s x.t))).p) (fun _ => regs.Say.mono _) (by kernel_rfl) (TurnP.below (Below.refl _ _).drew) (⟨fun _ => HS.out.mid.below (Below.refl _ _).drew,(fun e => nomatch e)⟩) ⟨?_,?_,?_,?_,?_,?_,trivial⟩ ?_
  · refine regs.StepOK.plain rfl fun L a w1 hh => ?_
    have h0 : a.tmps[0]?.getD undef = .pointer (some ⟨kb,0,none⟩) := by rw [← Array.getD_eq_getD_getElem?]; exact hh.old 0 rfl
    have hB := Lib.hid (HB.out.off HNB.out hh.rel)
    have c0 : w1.cell? ⟨kb,0,none⟩ = some (.pointer (some ⟨g,0,none⟩)) := hB.out.cell 0
    have i0 := hB.out.inside
    have hJ := Lib.hid hh.st
    clear hh
    go_simp
    exact ⟨_,rfl,TurnP.refl _ _,rfl,hJ.out⟩
  · refine regs.StepOK.plain rfl fun L a w1 hh => ?_
    have h2 : a.tmps[2]?.getD undef = .pointer (some ⟨g,0,none⟩) := by rw [← Array.getD_eq_getD_getElem?]; exact hh.dep 0 2 (by kernel_rfl) (by kernel_rfl)
    have hJ := Lib.hid hh.st
    clear hh
    go_simp
    exact ⟨_,rfl,TurnP.refl _ _,rfl,hJ.out⟩
  · refine regs.StepOK.plain rfl fun L a w1 hh => ?_
    have h3 : a.tmps[3]?.getD undef = .pointer (some ⟨g,0,none⟩) := by rw [← Array.getD_eq_getD_getElem?]; exact hh.dep 1 3 (by kernel_rfl) (by kernel_rfl)
    have i0 := ((BlkT.off HGT.out HNG.out hh.rel).blk).inside
    have hJ := Lib.hid hh.st
    clear hh
    go_simp
    exact ⟨_,rfl,TurnP.refl _ _,rfl,hJ.out⟩
  · refine regs.StepOK.plain rfl fun L a w1 hh => ?_
    have h4 : a.tmps[4]?.getD undef = .pointer (some ⟨g,1,none⟩) := by rw [← Array.getD_eq_getD_getElem?]; exact hh.dep 2 4 (by kernel_rfl) (by kernel_rfl)
    have hB := Lib.hid ((BlkT.off HGT.out HNG.out hh.rel).blk)
    have c0 : w1.cell? ⟨g,1,none⟩ = some (.pointer (some ⟨b,0,none⟩)) := hB.out.cell 1
    have i0 := hB.out.inside
    have hJ := Lib.hid hh.st
    clear hh
    go_simp
    exact ⟨_,rfl,TurnP.refl _ _,rfl,hJ.out⟩
  · refine regs.StepOK.plain rfl fun L a w1 hh => ?_
    have h1 : a.tmps[1]?.getD undef = .pointer (some ⟨ki,0,none⟩) := by rw [← Array.getD_eq_getD_getElem?]; exact hh.old 1 rfl
    have hB := Lib.hid (HC.out.off HNC.out hh.rel)
    have c0 : w1.cell? ⟨ki,0,none⟩ = some (.int .i64 ci) := hB.out.cell 0
    have i0 := hB.out.inside
    have hJ := Lib.hid hh.st
    clear hh
    go_simp
    exact ⟨_,rfl,TurnP.refl _ _,rfl,hJ.out⟩
  · refine regs.StepOK.plain rfl fun L a w1 hh => ?_
    have h5 : a.tmps[5]?.getD undef = .pointer (some ⟨b,0,none⟩) := by rw [← Array.getD_eq_getD_getElem?]; exact hh.dep 3 5 (by kernel_rfl) (by kernel_rfl)
    have h6 : a.tmps[6]?.getD undef = .int .i64 ci := by rw [← Array.getD_eq_getD_getElem?]; exact hh.dep 4 6 (by kernel_rfl) (by kernel_rfl)
    have hS := Lib.hid (hh.st.no hh.un)
    have hR := Lib.hid (show TurnP (SFoot b m s x.t) (SFoot b m s x.t) w w1 from hh.rel)
    have hB := Lib.hid (show ∀ wq,regs.bl w1 wq → True from fun _ _ => trivial)
    clear hh hB
    go_simp
    refine (tremove hS.out.tree HN.out ci HI.out).mono ?_
    rintro e w9 ⟨s9,v9,rfl,ht9,-,hu9⟩
    rw [HRM.out] at ht9 hu9
    have hm := hS.out.step ht9 hu9
    exact ⟨_,rfl,hm.2.wide (fun _ k => k),trivial,⟨(fun e => nomatch e),fun _ => ⟨_,hm.1,hR.out.trans hm.2⟩⟩⟩
  intro L w4 val hL hJ hR hv
  have HR4 := Lib.hid hR
  obtain ⟨s5,hmq,htq⟩ := hJ.yes (hL 5 (by decide))
  have HM4 := Lib.hid hmq
  have HT4 := Lib.hid htq
  clear hv hL hJ hR hmq htq
  simp only [regs.putAll,List.map_cons,List.map_nil]
  simp only [Act.put,List.setIfInBounds_toArray,List.set_cons_zero,List.set_cons_succ]
  generalize val 2 = v2 at *
  generalize val 3 = v3 at *
  generalize val 4 = v4 at *
  generalize val 5 = v5 at *
  generalize val 6 = v6 at *
  generalize val 7 = v7 at *
  have HB2 : Hid (Blk w4 kb [.pointer (some ⟨g,0,none⟩)]) := HB.out.off HNB.out HT4.out
  have HC2 : Hid (Blk w4 ki [.int .i64 ci]) := HC.out.off HNC.out HT4.out
  have HNB2 : Hid (¬ SFoot b m s5 (gone [ci] x.t) kb) := (HT4.out.far kb HB.out.inside HNB.out).1
  have HNC2 : Hid (¬ SFoot b m s5 (gone [ci] x.t) ki) := (HT4.out.far ki HC.out.inside HNC.out).1
  have HGT2 := Lib.hid HM4.out.blk
  have HNG2 := Lib.hid HM4.out.gfar
  go_upto_region 1 with (fail)
  refine regs.wp_region_put (TurnP (SFoot b m s5 (gone [ci] x.t)) (SFoot b m s5 (gone [ci] x.t))) (fun L wx => MapJ g b m s5 Z (gone [ci] x.t) (fun i => has x.t i = true) x.nd x.ws (fun j => j ≠ ci ∧ has x.t j = true) x.nd x.ws (L 5) wx) [8,9,10,11,12] (by kernel_rfl) (by kernel_rfl) (fun _ => TurnP.refl _ _) (fun _ _ _ h k => h.trans k) (fun i => (match i with
    | 0 => regs.Say.val _ (.pointer (some ⟨g,0,none⟩))
    | 1 => regs.Say.val _ (.pointer (some ⟨g,0,none⟩))
    | 2 => regs.Say.val _ (.pointer (some ⟨g,5,none⟩))
    | 3 => regs.Say.val _ (.map (some m))
    | 4 => regs.Say.val _ (.int .i64 ci)
    | 5 => regs.Say.any _
    | _ => regs.Say.any _ : regs.Say (TurnP (SFoot b m s5 (gone [ci] x.t)) (SFoot b m s5 (gone [ci] x.t)))).p) (fun _ => regs.Say.mono _) (by kernel_rfl) (TurnP.below (Below.refl _ _).drew) (⟨fun _ => HM4.out.below (Below.refl _ _).drew,(fun e => nomatch e)⟩) ⟨?_,?_,?_,?_,?_,?_,trivial⟩ ?_
  · refine regs.StepOK.plain rfl fun L a w1 hh => ?_
    have h0 : a.tmps[0]?.getD undef = .pointer (some ⟨kb,0,none⟩) := by rw [← Array.getD_eq_getD_getElem?]; exact hh.old 0 rfl
    have hB := Lib.hid (HB2.out.off HNB2.out hh.rel)
    have c0 : w1.cell? ⟨kb,0,none⟩ = some (.pointer (some ⟨g,0,none⟩)) := hB.out.cell 0
    have i0 := hB.out.inside
    have hJ := Lib.hid hh.st
    clear hh
    go_simp
    exact ⟨_,rfl,TurnP.refl _ _,rfl,hJ.out⟩
  · refine regs.StepOK.plain rfl fun L a w1 hh => ?_
    have h8 : a.tmps[8]?.getD undef = .pointer (some ⟨g,0,none⟩) := by rw [← Array.getD_eq_getD_getElem?]; exact hh.dep 0 8 (by kernel_rfl) (by kernel_rfl)
    have hJ := Lib.hid hh.st
    clear hh
    go_simp
    exact ⟨_,rfl,TurnP.refl _ _,rfl,hJ.out⟩
  · refine regs.StepOK.plain rfl fun L a w1 hh => ?_
    have h9 : a.tmps[9]?.getD undef = .pointer (some ⟨g,0,none⟩) := by rw [← Array.getD_eq_getD_getElem?]; exact hh.dep 1 9 (by kernel_rfl) (by kernel_rfl)
    have i0 := ((BlkT.off HGT2.out HNG2.out hh.rel).blk).inside
    have hJ := Lib.hid hh.st
    clear hh
    go_simp
    exact ⟨_,rfl,TurnP.refl _ _,rfl,hJ.out⟩
  · refine regs.StepOK.plain rfl fun L a w1 hh => ?_
    have h10 : a.tmps[10]?.getD undef = .pointer (some ⟨g,5,none⟩) := by rw [← Array.getD_eq_getD_getElem?]; exact hh.dep 2 10 (by kernel_rfl) (by kernel_rfl)
    have hB := Lib.hid ((BlkT.off HGT2.out HNG2.out hh.rel).blk)
    have c0 : w1.cell? ⟨g,5,none⟩ = some (.map (some m)) := hB.out.cell 5
    have i0 := hB.out.inside
    have hJ := Lib.hid hh.st
    clear hh
    go_simp
    exact ⟨_,rfl,TurnP.refl _ _,rfl,hJ.out⟩
  · refine regs.StepOK.plain rfl fun L a w1 hh => ?_
    have h1 : a.tmps[1]?.getD undef = .pointer (some ⟨ki,0,none⟩) := by rw [← Array.getD_eq_getD_getElem?]; exact hh.old 1 rfl
    have hB := Lib.hid (HC2.out.off HNC2.out hh.rel)
    have c0 : w1.cell? ⟨ki,0,none⟩ = some (.int .i64 ci) := hB.out.cell 0
    have i0 := hB.out.inside
    have hJ := Lib.hid hh.st
    clear hh
    go_simp
    exact ⟨_,rfl,TurnP.refl _ _,rfl,hJ.out⟩
  · refine regs.StepOK.plain rfl fun L a w1 hh => ?_
    have h11 : a.tmps[11]?.getD undef = .map (some m) := by rw [← Array.getD_eq_getD_getElem?]; exact hh.dep 3 11 (by kernel_rfl) (by kernel_rfl)
    have h12 : a.tmps[12]?.getD undef = .int .i64 ci := by rw [← Array.getD_eq_getD_getElem?]; exact hh.dep 4 12 (by kernel_rfl) (by kernel_rfl)
    obtain ⟨w9,hrun,hs9,ht9⟩ := (hh.st.no hh.un).drop HI.out 0
    have hS9 := Lib.hid hs9
    have hT9 := Lib.hid ht9
    clear hh hs9 ht9
    go_simp
    exact ⟨hT9.out,⟨undef,trivial⟩,(fun e => nomatch e),fun _ => hS9.out⟩
  intro L w6 val hL hJ hR hv
  have HR6 := Lib.hid hR
  have HM6 := Lib.hid (hJ.yes (hL 5 (by decide)))
  clear hv hL hJ hR
  simp only [regs.putAll,List.map_cons,List.map_nil]
  simp only [Act.put,List.setIfInBounds_toArray,List.set_cons_zero,List.set_cons_succ]
  generalize val 8 = v8 at *
  generalize val 9 = v9 at *
  generalize val 10 = v10 at *
  generalize val 11 = v11 at *
  generalize val 12 = v12 at *
  go_wp2_with (fail)
  go_end0
  exact ⟨⟨_,rfl⟩,s5,HM6.out,HT4.out.trans HR6.out⟩
theorem inv_len (v : Value) (w : World) : (invoke (.fn (.method "Len") #[]) #[.iface 109 v]).run Tryz.prog w = .ok (.enter 217 #[v]) w := by kernel_rfl
theorem build_plain (w : World) : (Instr.build tPlaced #[(0,.agg (Nd.plain.cs none 0).toArray)]).run Tryz.prog w = .ok (.agg (plcs Nd.plain none 0 Mp.o).toArray) w := by kernel_rfl
theorem enters_create1 : Enters Tryz.prog 154 := enters_of Tryz.func154 (by kernel_rfl) rfl
def createS (most : Int) (x : PSc) (i p n : Int) : PSc × Int :=
  if (addS x.t i p n).2 ≠ 0 then (x,(addS x.t i p n).2) else if most < ((x.t.length + 2 : Nat) : Int) then (x,36) else (⟨(addS x.t i p n).1,upd x.nd i Nd.plain,upd x.ws i Mp.o⟩,0)
theorem addS_not {t : T} {i p n : Int} (h : (addS t i p n).2 ≠ 0) : (addS t i p n).1 = t := by
  unfold addS at h ⊢
  by_cases h1 : i < 1 ∨ 65535 < i
  · rw [if_pos h1]
  rw [if_neg h1] at h ⊢
  by_cases h2 : has t i = true
  · rw [if_pos h2]
  rw [if_neg h2] at h ⊢
  by_cases h3 : has t p = false
  · rw [if_pos h3]
  rw [if_neg h3] at h ⊢
  by_cases h4 : n < 0 ∨ ((kids t p).length : Int) < n
  · rw [if_pos h4]
  rw [if_neg h4] at h
  exact absurd rfl h
theorem addS_len {t t' : T} {i p n : Int} (ok : Ok t) (h : addS t i p n = (t',0)) : t'.length = t.length + 1 := by
  unfold addS at h
  by_cases h1 : i < 1 ∨ 65535 < i
  · rw [if_pos h1] at h; cases h
  rw [if_neg h1] at h
  by_cases h2 : has t i = true
  · rw [if_pos h2] at h; cases h
  rw [if_neg h2] at h
  by_cases h3 : has t p = false
  · rw [if_pos h3] at h; cases h
  rw [if_neg h3] at h
  by_cases h4 : n < 0 ∨ ((kids t p).length : Int) < n
  · rw [if_pos h4] at h; cases h
  rw [if_neg h4] at h
  obtain rfl := (Prod.mk.inj h).1
  exact trm.put_len ok.nd _ _
theorem MapJ.below {t : T} {H H' : Int → Prop} {nd nd' : Int → Nd} {ws ws' : Int → Mp} {d : Bool} {w' : World} (h : MapJ g b m s Z t H nd ws H' nd' ws' d w) (hb : Below w.heap.size w w') : MapJ g b m s Z t H nd ws H' nd' ws' d w' :=
  ⟨fun e => (h.no e).below hb,fun e => (h.yes e).below hb⟩
set_option maxHeartbeats 4000000 in
set_option maxRecDepth 100000 in
theorem create_any (h : SceneAt w g b m s Z x) (hn : x.t.length ≤ 900) (ci cp cn : Int) (hi : I64 ci) (hp : I64 cp) :
    Calls Tryz.prog 127 #[.pointer (some ⟨g,0,none⟩),.int .i64 ci,.int .i64 cp,.int .i64 cn] w (OpQ g b m Z s x (createS Z.2.2 x ci cp cn) w) := by
  have hb0 : Below w.heap.size w ((w.alloc (.cells #[.pointer (some ⟨g,0,none⟩)] 25)).alloc (.cells #[.int .i64 ci] 3)) := ((Below.refl _ _).alloc (Nat.le_refl _) _).alloc (by simp) _
  have HB0 := Lib.hid hb0
  have HB : Hid (Blk ((w.alloc (.cells #[.pointer (some ⟨g,0,none⟩)] 25)).alloc (.cells #[.int .i64 ci] 3)) w.heap.size [.pointer (some ⟨g,0,none⟩)]) := (blk_new w [.pointer (some ⟨g,0,none⟩)] _).alloc _
  have HC : Hid (Blk ((w.alloc (.cells #[.pointer (some ⟨g,0,none⟩)] 25)).alloc (.cells #[.int .i64 ci] 3)) (w.heap.size + 1) [.int .i64 ci]) := blk_at (w.alloc _) _ (by simp) [.int .i64 ci] _
  have HS : Hid (SceneAt ((w.alloc (.cells #[.pointer (some ⟨g,0,none⟩)] 25)).alloc (.cells #[.int .i64 ci] 3)) g b m s Z x) := h.below hb0
  have HNB : Hid (¬ SFoot b m s x.t w.heap.size) := fun e => by have := h.inside _ e; omega
  have HNC : Hid (¬ SFoot b m s x.t (w.heap.size + 1)) := fun e => by have := h.inside _ e; omega
  have HEB : Hid (¬ Z.3 w.heap.size) := fun e => by have := (h.old _ e).1; omega
  have HEC : Hid (¬ Z.3 (w.heap.size + 1)) := fun e => by have := (h.old _ e).1; omega
  have HGT := Lib.hid HS.out.blk
  have HNG := Lib.hid h.gfar
  have HOK := Lib.hid h.tree.ok
  have HN : Hid (x.t.length ≤ 1000) := by show _ ≤ _; omega
  have HN2 := Lib.hid hn
  have HI := Lib.hid hi
  have HP := Lib.hid hp
  obtain ⟨R,hR⟩ : ∃ R,createS Z.2.2 x ci cp cn = R := ⟨_,rfl⟩
  obtain ⟨⟨t1,e0⟩,had⟩ : ∃ r,addS x.t ci cp cn = r := ⟨_,rfl⟩
  have HAD := Lib.hid had
  have HR : Hid (R = if e0 ≠ 0 then (x,e0) else if Z.2.2 < ((x.t.length + 2 : Nat) : Int) then (x,36) else (⟨t1,upd x.nd ci Nd.plain,upd x.ws ci Mp.o⟩,0)) := by
    show _ = _
    rw [← hR]
    unfold createS
    rw [had]
  rw [hR]
  clear hR h hn hi hp hb0 had
  go_enter Tryz.func127,Tryz.ntmps127
  go_upto_region 1 with (fail)
  generalize ((w.alloc (.cells #[.pointer (some ⟨g,0,none⟩)] 25)).alloc (.cells #[.int .i64 ci] 3)) = wz at *
  refine regs.wp_region_put (TurnP (SFoot b m s x.t) (SFoot b m s x.t)) (fun L wx => MidJ wz g b m s Z x.t (fun i => has x.t i = true) x.nd x.ws t1 (L 7) wx) [11,12,13,14,15,16,17,18,10] (by kernel_rfl) (by kernel_rfl) (fun _ => TurnP.refl _ _) (fun _ _ _ h k => h.trans k) (fun i => (match i with
    | 0 => regs.Say.val _ (.pointer (some ⟨g,0,none⟩))
    | 1 => regs.Say.val _ (.pointer (some ⟨g,0,none⟩))
    | 2 => regs.Say.val _ (.pointer (some ⟨g,1,none⟩))
    | 3 => regs.Say.val _ (.pointer (some ⟨b,0,none⟩))
    | 4 => regs.Say.val _ (.int .i64 ci)
    | 5 => regs.Say.val _ (.int .i64 cp)
    | 6 => regs.Say.val _ (.int .i64 cn)
    | 7 => regs.Say.val _ (.int .i64 e0)
    | 8 => regs.Say.val _ (.int .i64 e0)
    | _ => regs.Say.any _ : regs.Say (TurnP (SFoot b m s x.t) (SFoot b m s x.t))).p) (fun _ => regs.Say.mono _) (by kernel_rfl) (TurnP.below (Below.refl _ _).drew) (⟨fun _ => HS.out.mid.below (Below.refl _ _).drew,(fun e => nomatch e)⟩) ⟨?_,?_,?_,?_,?_,?_,?_,?_,?_,trivial⟩ ?_
  · refine regs.StepOK.plain rfl fun L a w1 hh => ?_
    have h4 : a.tmps[4]?.getD undef = .pointer (some ⟨w.heap.size,0,none⟩) := by rw [← Array.getD_eq_getD_getElem?]; exact hh.old 4 rfl
    have hB := Lib.hid (HB.out.off HNB.out hh.rel)
    have c0 : w1.cell? ⟨w.heap.size,0,none⟩ = some (.pointer (some ⟨g,0,none⟩)) := hB.out.cell 0
    have i0 := hB.out.inside
    have hJ := Lib.hid hh.st
    clear hh
    go_simp
    exact ⟨_,rfl,TurnP.refl _ _,rfl,hJ.out⟩
  · refine regs.StepOK.plain rfl fun L a w1 hh => ?_
    have h11 : a.tmps[11]?.getD undef = .pointer (some ⟨g,0,none⟩) := by rw [← Array.getD_eq_getD_getElem?]; exact hh.dep 0 11 (by kernel_rfl) (by kernel_rfl)
    have hJ := Lib.hid hh.st
    clear hh
    go_simp
    exact ⟨_,rfl,TurnP.refl _ _,rfl,hJ.out⟩
  · refine regs.StepOK.plain rfl fun L a w1 hh => ?_
    have h12 : a.tmps[12]?.getD undef = .pointer (some ⟨g,0,none⟩) := by rw [← Array.getD_eq_getD_getElem?]; exact hh.dep 1 12 (by kernel_rfl) (by kernel_rfl)
    have i0 := ((BlkT.off HGT.out HNG.out hh.rel).blk).inside
    have hJ := Lib.hid hh.st
    clear hh
    go_simp
    exact ⟨_,rfl,TurnP.refl _ _,rfl,hJ.out⟩
  · refine regs.StepOK.plain rfl fun L a w1 hh => ?_
    have h13 : a.tmps[13]?.getD undef = .pointer (some ⟨g,1,none⟩) := by rw [← Array.getD_eq_getD_getElem?]; exact hh.dep 2 13 (by kernel_rfl) (by kernel_rfl)
    have hB := Lib.hid ((BlkT.off HGT.out HNG.out hh.rel).blk)
    have c0 : w1.cell? ⟨g,1,none⟩ = some (.pointer (some ⟨b,0,none⟩)) := hB.out.cell 1
    have i0 := hB.out.inside
    have hJ := Lib.hid hh.st
    clear hh
    go_simp
    exact ⟨_,rfl,TurnP.refl _ _,rfl,hJ.out⟩
  · refine regs.StepOK.plain rfl fun L a w1 hh => ?_
    have h5 : a.tmps[5]?.getD undef = .pointer (some ⟨(w.heap.size + 1),0,none⟩) := by rw [← Array.getD_eq_getD_getElem?]; exact hh.old 5 rfl
    have hB := Lib.hid (HC.out.off HNC.out hh.rel)
    have c0 : w1.cell? ⟨(w.heap.size + 1),0,none⟩ = some (.int .i64 ci) := hB.out.cell 0
    have i0 := hB.out.inside
    have hJ := Lib.hid hh.st
    clear hh
    go_simp
    exact ⟨_,rfl,TurnP.refl _ _,rfl,hJ.out⟩
  · refine regs.StepOK.plain rfl fun L a w1 hh => ?_
    have h2 : a.tmps[2]?.getD undef = .int .i64 cp := by rw [← Array.getD_eq_getD_getElem?]; exact hh.old 2 rfl
    have hJ := Lib.hid hh.st
    clear hh
    go_simp
    exact ⟨_,rfl,TurnP.refl _ _,rfl,hJ.out⟩
  · refine regs.StepOK.plain rfl fun L a w1 hh => ?_
    have h3 : a.tmps[3]?.getD undef = .int .i64 cn := by rw [← Array.getD_eq_getD_getElem?]; exact hh.old 3 rfl
    have hJ := Lib.hid hh.st
    clear hh
    go_simp
    exact ⟨_,rfl,TurnP.refl _ _,rfl,hJ.out⟩
  · refine regs.StepOK.plain rfl fun L a w1 hh => ?_
    have h14 : a.tmps[14]?.getD undef = .pointer (some ⟨b,0,none⟩) := by rw [← Array.getD_eq_getD_getElem?]; exact hh.dep 3 14 (by kernel_rfl) (by kernel_rfl)
    have h15 : a.tmps[15]?.getD undef = .int .i64 ci := by rw [← Array.getD_eq_getD_getElem?]; exact hh.dep 4 15 (by kernel_rfl) (by kernel_rfl)
    have h16 : a.tmps[16]?.getD undef = .int .i64 cp := by rw [← Array.getD_eq_getD_getElem?]; exact hh.dep 5 16 (by kernel_rfl) (by kernel_rfl)
    have h17 : a.tmps[17]?.getD undef = .int .i64 cn := by rw [← Array.getD_eq_getD_getElem?]; exact hh.dep 6 17 (by kernel_rfl) (by kernel_rfl)
    have hS := Lib.hid (hh.st.no hh.un)
    have hR := Lib.hid (show TurnP (SFoot b m s x.t) (SFoot b m s x.t) wz w1 from hh.rel)
    have hB := Lib.hid (show ∀ wq,regs.bl w1 wq → True from fun _ _ => trivial)
    clear hh hB
    go_simp
    refine (tadd hS.out.tree HN.out ci cp cn HI.out HP.out).mono ?_
    rw [HAD.out]
    rintro e w9 ⟨s9,rfl,ht9,hu9⟩
    have hm := hS.out.step ht9 hu9
    exact ⟨_,rfl,hm.2.wide (fun _ k => k),rfl,⟨(fun e => nomatch e),fun _ => ⟨_,hm.1,hR.out.trans hm.2⟩⟩⟩
  · refine regs.StepOK.plain rfl fun L a w1 hh => ?_
    have h18 : a.tmps[18]?.getD undef = .int .i64 e0 := by rw [← Array.getD_eq_getD_getElem?]; exact hh.dep 7 18 (by kernel_rfl) (by kernel_rfl)
    have hJ := Lib.hid hh.st
    clear hh
    go_simp
    exact ⟨_,rfl,TurnP.refl _ _,rfl,hJ.out⟩
  intro L w4 val hL hJ hR hv
  have h10 : val 10 = .int .i64 e0 := hv 8 10 (by kernel_rfl)
  have HR4 := Lib.hid hR
  obtain ⟨s5,hmq,htq⟩ := hJ.yes (hL 7 (by decide))
  have HM4 := Lib.hid hmq
  have HT4 := Lib.hid htq
  clear hv hL hJ hR hmq htq
  simp only [regs.putAll,List.map_cons,List.map_nil,h10]
  simp only [Act.put,List.setIfInBounds_toArray,List.set_cons_zero,List.set_cons_succ]
  clear h10
  generalize val 11 = v11 at *
  generalize val 12 = v12 at *
  generalize val 13 = v13 at *
  generalize val 14 = v14 at *
  generalize val 15 = v15 at *
  generalize val 16 = v16 at *
  generalize val 17 = v17 at *
  generalize val 18 = v18 at *
  by_cases h0 : ¬ e0 = 0
  · have t5 : (e0 == 0) = false := by simpa using h0
    have HE2 : Hid (R = (x,e0)) := by show _ = _; rw [HR.out,if_pos h0]
    have HNZ := Lib.hid h0
    have HT1 : Hid (t1 = x.t) := by
      have := addS_not (t := x.t) (i := ci) (p := cp) (n := cn) (by rw [HAD.out]; exact h0)
      rw [HAD.out] at this
      exact this
    clear h0 HR
    go_wp2_with (fail)
    go_ret2
    rw [HE2.out]
    rw [HT1.out] at HM4 HT4
    exact ⟨_,s5,rfl,HM4.out.scene fun _ => Iff.rfl,(TurnP.below HB0.out).trans HT4.out,fun e => absurd e HNZ.out⟩
  obtain rfl : e0 = 0 := by simpa using h0
  have HE2 : Hid (R = if Z.2.2 < ((x.t.length + 2 : Nat) : Int) then (x,36) else (⟨t1,upd x.nd ci Nd.plain,upd x.ws ci Mp.o⟩,0)) := by show _ = _; rw [HR.out,if_neg (by simp)]
  have HAB := Lib.hid (addS_back HOK.out HAD.out)
  have HLE := Lib.hid (addS_len HOK.out HAD.out)
  have HN1 : Hid (t1.length ≤ 1000) := by show _ ≤ _; have := HLE.out; have := HN2.out; omega
  have HN9 : Hid (t1.length ≤ 100000) := by show _ ≤ _; have := HN1.out; omega
  clear h0 HR
  have HB4 : Hid (Blk w4 w.heap.size [.pointer (some ⟨g,0,none⟩)]) := HB.out.off HNB.out HT4.out
  have HC4 : Hid (Blk w4 (w.heap.size + 1) [.int .i64 ci]) := HC.out.off HNC.out HT4.out
  have HNB4 : Hid (¬ SFoot b m s5 t1 w.heap.size) := (HT4.out.far _ HB.out.inside HNB.out).1
  have HNC4 : Hid (¬ SFoot b m s5 t1 (w.heap.size + 1)) := (HT4.out.far _ HC.out.inside HNC.out).1
  obtain ⟨NL,hNL⟩ : ∃ NL : Nat,t1.length + 1 = NL := ⟨_,rfl⟩
  have HLEN : Hid (∀ W,regs.bl w4 W → Calls Tryz.prog 217 #[.pointer (some ⟨b,0,none⟩)] W fun e w' => e = .returned (.int .i64 (NL : Int)) ∧ Below W.heap.size W w') := fun W hb => by
    have := tlen (HM4.out.below hb).tree
    rw [hNL] at this
    exact this
  have HNL : Hid (x.t.length + 2 = NL) := by show _ = _; have := HLE.out; omega
  rw [HNL.out] at HE2
  clear hNL HB HC HS HGT HNG HNB HNC
  by_cases hm : Z.2.2 < (NL : Int)
  · have t5 : decide (Z.2.2 < (NL : Int)) = true := decide_eq_true hm
    have HE3 : Hid (R = (x,36)) := by show _ = _; rw [HE2.out,if_pos hm]
    have HRM : Hid (remS t1 ci = (gone [ci] t1,[ci],0)) := by
      show _ = _
      unfold remS
      rw [if_neg (HAB.out.1.ne0 HAB.out.2.1),if_neg (by rw [has_iff.2 (.inr HAB.out.2.1)]; simp),HAB.out.2.2.2.2.1]
    clear hm HE2
    go_wp2_with (fail)
    refine regs.wp_region_put (regs.bl) (regs.noJ) [22,23,24,25,26,27,28,29,30,31,32] (by kernel_rfl) (by kernel_rfl) (fun _ => regs.bl_refl _) (regs.bl_trans) (fun i => (match i with
      | 0 => regs.Say.val _ (.pointer (some ⟨g,0,none⟩))
      | 1 => regs.Say.val _ (.pointer (some ⟨g,0,none⟩))
      | 2 => regs.Say.val _ (.pointer (some ⟨g,0,none⟩))
      | 3 => regs.Say.val _ (.iface 109 (.pointer (some ⟨b,0,none⟩)))
      | 4 => regs.Say.val _ (.int .i64 (NL : Int))
      | 5 => regs.Say.val _ (.pointer (some ⟨g,0,none⟩))
      | 6 => regs.Say.val _ (.pointer (some ⟨g,0,none⟩))
      | 7 => regs.Say.val _ (.pointer (some ⟨g,2,none⟩))
      | 8 => regs.Say.val _ (.pointer (some ⟨g,4,none⟩))
      | 9 => regs.Say.val _ (.int .i64 Z.2.2)
      | 10 => regs.Say.val _ (.bool true)
      | _ => regs.Say.any _ : regs.Say (regs.bl)).p) (fun _ => regs.Say.mono _) (by kernel_rfl) ((Below.refl _ _).drew) (regs.noJ_ok _ _) ⟨?_,?_,?_,?_,?_,?_,?_,?_,?_,?_,?_,trivial⟩ ?_
    · refine regs.StepOK.plain rfl fun L a w1 hh => ?_
      have h4 : a.tmps[4]?.getD undef = .pointer (some ⟨w.heap.size,0,none⟩) := by rw [← Array.getD_eq_getD_getElem?]; exact hh.old 4 rfl
      have hB := Lib.hid ((HB4.out.below' hh.rel))
      have c0 : w1.cell? ⟨w.heap.size,0,none⟩ = some (.pointer (some ⟨g,0,none⟩)) := hB.out.cell 0
      have i0 := hB.out.inside
      have hJ := Lib.hid hh.st
      clear hh
      go_simp
      exact ⟨_,rfl,regs.bl_refl _,rfl,hJ.out⟩
    · refine regs.StepOK.plain rfl fun L a w1 hh => ?_
      have h22 : a.tmps[22]?.getD undef = .pointer (some ⟨g,0,none⟩) := by rw [← Array.getD_eq_getD_getElem?]; exact hh.dep 0 22 (by kernel_rfl) (by kernel_rfl)
      have hJ := Lib.hid hh.st
      clear hh
      go_simp
      exact ⟨_,rfl,regs.bl_refl _,rfl,hJ.out⟩
    · refine regs.StepOK.plain rfl fun L a w1 hh => ?_
      have h23 : a.tmps[23]?.getD undef = .pointer (some ⟨g,0,none⟩) := by rw [← Array.getD_eq_getD_getElem?]; exact hh.dep 1 23 (by kernel_rfl) (by kernel_rfl)
      have i0 := ((HM4.out.below hh.rel).blk.blk).inside
      have hJ := Lib.hid hh.st
      clear hh
      go_simp
      exact ⟨_,rfl,regs.bl_refl _,rfl,hJ.out⟩
    · refine regs.StepOK.plain rfl fun L a w1 hh => ?_
      have h24 : a.tmps[24]?.getD undef = .pointer (some ⟨g,0,none⟩) := by rw [← Array.getD_eq_getD_getElem?]; exact hh.dep 2 24 (by kernel_rfl) (by kernel_rfl)
      have hB := Lib.hid ((HM4.out.below hh.rel).blk.blk)
      have c0 : w1.cell? ⟨g,0,none⟩ = some (.iface 109 (.pointer (some ⟨b,0,none⟩))) := hB.out.cell 0
      have i0 := hB.out.inside
      have hJ := Lib.hid hh.st
      clear hh
      go_simp
      exact ⟨_,rfl,regs.bl_refl _,rfl,hJ.out⟩
    · refine regs.StepOK.plain rfl fun L a w1 hh => ?_
      have h25 : a.tmps[25]?.getD undef = .iface 109 (.pointer (some ⟨b,0,none⟩)) := by rw [← Array.getD_eq_getD_getElem?]; exact hh.dep 3 25 (by kernel_rfl) (by kernel_rfl)
      have hinv := inv_len (.pointer (some ⟨b,0,none⟩))
      have hC := Lib.hid (HLEN.out _ hh.rel)
      have hJ := Lib.hid hh.st
      clear hh
      go_simp
      refine hC.out.mono ?_
      rintro e w9 ⟨rfl,hb9⟩
      exact ⟨_,rfl,hb9,rfl,hJ.out⟩
    · refine regs.StepOK.plain rfl fun L a w1 hh => ?_
      have h4 : a.tmps[4]?.getD undef = .pointer (some ⟨w.heap.size,0,none⟩) := by rw [← Array.getD_eq_getD_getElem?]; exact hh.old 4 rfl
      have hB := Lib.hid ((HB4.out.below' hh.rel))
      have c0 : w1.cell? ⟨w.heap.size,0,none⟩ = some (.pointer (some ⟨g,0,none⟩)) := hB.out.cell 0
      have i0 := hB.out.inside
      have hJ := Lib.hid hh.st
      clear hh
      go_simp
      exact ⟨_,rfl,regs.bl_refl _,rfl,hJ.out⟩
    · refine regs.StepOK.plain rfl fun L a w1 hh => ?_
      have h27 : a.tmps[27]?.getD undef = .pointer (some ⟨g,0,none⟩) := by rw [← Array.getD_eq_getD_getElem?]; exact hh.dep 5 27 (by kernel_rfl) (by kernel_rfl)
      have hJ := Lib.hid hh.st
      clear hh
      go_simp
      exact ⟨_,rfl,regs.bl_refl _,rfl,hJ.out⟩
    · refine regs.StepOK.plain rfl fun L a w1 hh => ?_
      have h28 : a.tmps[28]?.getD undef = .pointer (some ⟨g,0,none⟩) := by rw [← Array.getD_eq_getD_getElem?]; exact hh.dep 6 28 (by kernel_rfl) (by kernel_rfl)
      have i0 := ((HM4.out.below hh.rel).blk.blk).inside
      have hJ := Lib.hid hh.st
      clear hh
      go_simp
      exact ⟨_,rfl,regs.bl_refl _,rfl,hJ.out⟩
    · refine regs.StepOK.plain rfl fun L a w1 hh => ?_
      have h29 : a.tmps[29]?.getD undef = .pointer (some ⟨g,2,none⟩) := by rw [← Array.getD_eq_getD_getElem?]; exact hh.dep 7 29 (by kernel_rfl) (by kernel_rfl)
      have i0 := ((HM4.out.below hh.rel).blk.blk).inside
      have hJ := Lib.hid hh.st
      clear hh
      go_simp
      exact ⟨_,rfl,regs.bl_refl _,rfl,hJ.out⟩
    · refine regs.StepOK.plain rfl fun L a w1 hh => ?_
      have h30 : a.tmps[30]?.getD undef = .pointer (some ⟨g,4,none⟩) := by rw [← Array.getD_eq_getD_getElem?]; exact hh.dep 8 30 (by kernel_rfl) (by kernel_rfl)
      have hB := Lib.hid ((HM4.out.below hh.rel).blk.blk)
      have c0 : w1.cell? ⟨g,4,none⟩ = some (.int .i64 Z.2.2) := hB.out.cell 4
      have i0 := hB.out.inside
      have hJ := Lib.hid hh.st
      clear hh
      go_simp
      exact ⟨_,rfl,regs.bl_refl _,rfl,hJ.out⟩
    · refine regs.StepOK.plain rfl fun L a w1 hh => ?_
      have h26 : a.tmps[26]?.getD undef = .int .i64 (NL : Int) := by rw [← Array.getD_eq_getD_getElem?]; exact hh.dep 4 26 (by kernel_rfl) (by kernel_rfl)
      have h31 : a.tmps[31]?.getD undef = .int .i64 Z.2.2 := by rw [← Array.getD_eq_getD_getElem?]; exact hh.dep 9 31 (by kernel_rfl) (by kernel_rfl)
      have hJ := Lib.hid hh.st
      clear hh
      go_simp
      exact ⟨_,rfl,regs.bl_refl _,rfl,hJ.out⟩
    intro L w5 val hL hJ hR hv
    have h32 : val 32 = .bool true := hv 10 32 (by kernel_rfl)
    have HR5 := Lib.hid hR
    clear hv hL hJ hR
    simp only [regs.putAll,List.map_cons,List.map_nil,h32]
    simp only [Act.put,List.setIfInBounds_toArray,List.set_cons_zero,List.set_cons_succ]
    clear h32
    generalize val 22 = v22 at *
    generalize val 23 = v23 at *
    generalize val 24 = v24 at *
    generalize val 25 = v25 at *
    generalize val 26 = v26 at *
    generalize val 27 = v27 at *
    generalize val 28 = v28 at *
    generalize val 29 = v29 at *
    generalize val 30 = v30 at *
    generalize val 31 = v31 at *
    have HM5 := Lib.hid (HM4.out.below HR5.out)
    have HT5 : Hid (TurnP (SFoot b m s x.t) (SFoot b m s5 t1) wz w5) := HT4.out.trans (TurnP.below HR5.out)
    have HB5 := Lib.hid (HB4.out.below' HR5.out)
    have HC5 := Lib.hid (HC4.out.below' HR5.out)
    have HGT5 := Lib.hid HM5.out.blk
    have HNG5 := Lib.hid HM5.out.gfar
    clear HM4 HT4 HB4 HC4 HLEN HR5
    go_upto_region 5 with (fail)
    refine regs.wp_region_put (TurnP (SFoot b m s5 t1) (SFoot b m s5 t1)) (fun L wx => MidJ w5 g b m s5 Z t1 (fun i => has x.t i = true) x.nd x.ws ((gone [ci] t1)) (L 5) wx) [33,34,35,36,37,38] (by kernel_rfl) (by kernel_rfl) (fun _ => TurnP.refl _ _) (fun _ _ _ h k => h.trans k) (fun i => (match i with
      | 0 => regs.Say.val _ (.pointer (some ⟨g,0,none⟩))
      | 1 => regs.Say.val _ (.pointer (some ⟨g,0,none⟩))
      | 2 => regs.Say.val _ (.pointer (some ⟨g,1,none⟩))
      | 3 => regs.Say.val _ (.pointer (some ⟨b,0,none⟩))
      | 4 => regs.Say.val _ (.int .i64 ci)
      | 5 => regs.Say.any _
      | _ => regs.Say.any _ : regs.Say (TurnP (SFoot b m s5 t1) (SFoot b m s5 t1))).p) (fun _ => regs.Say.mono _) (by kernel_rfl) (TurnP.below (Below.refl _ _).drew) (⟨fun _ => HM5.out.below (Below.refl _ _).drew,(fun e => nomatch e)⟩) ⟨?_,?_,?_,?_,?_,?_,trivial⟩ ?_
    · refine regs.StepOK.plain rfl fun L a w1 hh => ?_
      have h4 : a.tmps[4]?.getD undef = .pointer (some ⟨w.heap.size,0,none⟩) := by rw [← Array.getD_eq_getD_getElem?]; exact hh.old 4 rfl
      have hB := Lib.hid (HB5.out.off HNB4.out hh.rel)
      have c0 : w1.cell? ⟨w.heap.size,0,none⟩ = some (.pointer (some ⟨g,0,none⟩)) := hB.out.cell 0
      have i0 := hB.out.inside
      have hJ := Lib.hid hh.st
      clear hh
      go_simp
      exact ⟨_,rfl,TurnP.refl _ _,rfl,hJ.out⟩
    · refine regs.StepOK.plain rfl fun L a w1 hh => ?_
      have h33 : a.tmps[33]?.getD undef = .pointer (some ⟨g,0,none⟩) := by rw [← Array.getD_eq_getD_getElem?]; exact hh.dep 0 33 (by kernel_rfl) (by kernel_rfl)
      have hJ := Lib.hid hh.st
      clear hh
      go_simp
      exact ⟨_,rfl,TurnP.refl _ _,rfl,hJ.out⟩
    · refine regs.StepOK.plain rfl fun L a w1 hh => ?_
      have h34 : a.tmps[34]?.getD undef = .pointer (some ⟨g,0,none⟩) := by rw [← Array.getD_eq_getD_getElem?]; exact hh.dep 1 34 (by kernel_rfl) (by kernel_rfl)
      have i0 := ((BlkT.off HGT5.out HNG5.out hh.rel).blk).inside
      have hJ := Lib.hid hh.st
      clear hh
      go_simp
      exact ⟨_,rfl,TurnP.refl _ _,rfl,hJ.out⟩
    · refine regs.StepOK.plain rfl fun L a w1 hh => ?_
      have h35 : a.tmps[35]?.getD undef = .pointer (some ⟨g,1,none⟩) := by rw [← Array.getD_eq_getD_getElem?]; exact hh.dep 2 35 (by kernel_rfl) (by kernel_rfl)
      have hB := Lib.hid ((BlkT.off HGT5.out HNG5.out hh.rel).blk)
      have c0 : w1.cell? ⟨g,1,none⟩ = some (.pointer (some ⟨b,0,none⟩)) := hB.out.cell 1
      have i0 := hB.out.inside
      have hJ := Lib.hid hh.st
      clear hh
      go_simp
      exact ⟨_,rfl,TurnP.refl _ _,rfl,hJ.out⟩
    · refine regs.StepOK.plain rfl fun L a w1 hh => ?_
      have h5 : a.tmps[5]?.getD undef = .pointer (some ⟨(w.heap.size + 1),0,none⟩) := by rw [← Array.getD_eq_getD_getElem?]; exact hh.old 5 rfl
      have hB := Lib.hid (HC5.out.off HNC4.out hh.rel)
      have c0 : w1.cell? ⟨(w.heap.size + 1),0,none⟩ = some (.int .i64 ci) := hB.out.cell 0
      have i0 := hB.out.inside
      have hJ := Lib.hid hh.st
      clear hh
      go_simp
      exact ⟨_,rfl,TurnP.refl _ _,rfl,hJ.out⟩
    · refine regs.StepOK.plain rfl fun L a w1 hh => ?_
      have h36 : a.tmps[36]?.getD undef = .pointer (some ⟨b,0,none⟩) := by rw [← Array.getD_eq_getD_getElem?]; exact hh.dep 3 36 (by kernel_rfl) (by kernel_rfl)
      have h37 : a.tmps[37]?.getD undef = .int .i64 ci := by rw [← Array.getD_eq_getD_getElem?]; exact hh.dep 4 37 (by kernel_rfl) (by kernel_rfl)
      have hS := Lib.hid (hh.st.no hh.un)
      have hR := Lib.hid (show TurnP (SFoot b m s5 t1) (SFoot b m s5 t1) w5 w1 from hh.rel)
      have hB := Lib.hid (show ∀ wq,regs.bl w1 wq → True from fun _ _ => trivial)
      clear hh hB
      go_simp
      refine (tremove hS.out.tree HN1.out ci HI.out).mono ?_
      rw [HRM.out]
      rintro e w9 ⟨s9,v9,rfl,ht9,-,hu9⟩
      have hm := hS.out.step ht9 hu9
      exact ⟨_,rfl,hm.2.wide (fun _ k => k),trivial,⟨(fun e => nomatch e),fun _ => ⟨_,hm.1,hR.out.trans hm.2⟩⟩⟩
    intro L w6 val hL hJ hR hv
    have HR6 := Lib.hid hR
    obtain ⟨s7,hmq,htq⟩ := hJ.yes (hL 5 (by decide))
    have HM6 := Lib.hid hmq
    have HT6 := Lib.hid htq
    clear hv hL hJ hR hmq htq
    simp only [regs.putAll,List.map_cons,List.map_nil]
    simp only [Act.put,List.setIfInBounds_toArray,List.set_cons_zero,List.set_cons_succ]
    generalize val 33 = v33 at *
    generalize val 34 = v34 at *
    generalize val 35 = v35 at *
    generalize val 36 = v36 at *
    generalize val 37 = v37 at *
    generalize val 38 = v38 at *
    go_wp2_with (fail)
    go_ret2
    rw [HE3.out]
    have hal := HAB.out.2.2.2.2.2
    have hoky : Ok (gone [ci] t1) := HM6.out.tree.ok
    have hsc := HM6.out.scene (fun j => by rw [alike_has hal])
    have hT := ((TurnP.below HB0.out).trans HT5.out).trans HT6.out
    rw [SFoot.alike hal] at hT
    exact ⟨_,s7,rfl,hsc.like ⟨HOK.out,hal,fun _ _ => rfl,fun _ _ => rfl⟩,hT,fun e => nomatch e⟩
  have t5 : decide (Z.2.2 < (NL : Int)) = false := decide_eq_false hm
  have HE3 : Hid (R = (⟨t1,upd x.nd ci Nd.plain,upd x.ws ci Mp.o⟩,0)) := by show _ = _; rw [HE2.out,if_neg hm]
  clear hm HE2
  go_wp2_with (fail)
  refine regs.wp_region_put (regs.bl) (regs.noJ) [22,23,24,25,26,27,28,29,30,31,32] (by kernel_rfl) (by kernel_rfl) (fun _ => regs.bl_refl _) (regs.bl_trans) (fun i => (match i with
    | 0 => regs.Say.val _ (.pointer (some ⟨g,0,none⟩))
    | 1 => regs.Say.val _ (.pointer (some ⟨g,0,none⟩))
    | 2 => regs.Say.val _ (.pointer (some ⟨g,0,none⟩))
    | 3 => regs.Say.val _ (.iface 109 (.pointer (some ⟨b,0,none⟩)))
    | 4 => regs.Say.val _ (.int .i64 (NL : Int))
    | 5 => regs.Say.val _ (.pointer (some ⟨g,0,none⟩))
    | 6 => regs.Say.val _ (.pointer (some ⟨g,0,none⟩))
    | 7 => regs.Say.val _ (.pointer (some ⟨g,2,none⟩))
    | 8 => regs.Say.val _ (.pointer (some ⟨g,4,none⟩))
    | 9 => regs.Say.val _ (.int .i64 Z.2.2)
    | 10 => regs.Say.val _ (.bool false)
    | _ => regs.Say.any _ : regs.Say (regs.bl)).p) (fun _ => regs.Say.mono _) (by kernel_rfl) ((Below.refl _ _).drew) (regs.noJ_ok _ _) ⟨?_,?_,?_,?_,?_,?_,?_,?_,?_,?_,?_,trivial⟩ ?_
  · refine regs.StepOK.plain rfl fun L a w1 hh => ?_
    have h4 : a.tmps[4]?.getD undef = .pointer (some ⟨w.heap.size,0,none⟩) := by rw [← Array.getD_eq_getD_getElem?]; exact hh.old 4 rfl
    have hB := Lib.hid ((HB4.out.below' hh.rel))
    have c0 : w1.cell? ⟨w.heap.size,0,none⟩ = some (.pointer (some ⟨g,0,none⟩)) := hB.out.cell 0
    have i0 := hB.out.inside
    have hJ := Lib.hid hh.st
    clear hh
    go_simp
    exact ⟨_,rfl,regs.bl_refl _,rfl,hJ.out⟩
  · refine regs.StepOK.plain rfl fun L a w1 hh => ?_
    have h22 : a.tmps[22]?.getD undef = .pointer (some ⟨g,0,none⟩) := by rw [← Array.getD_eq_getD_getElem?]; exact hh.dep 0 22 (by kernel_rfl) (by kernel_rfl)
    have hJ := Lib.hid hh.st
    clear hh
    go_simp
    exact ⟨_,rfl,regs.bl_refl _,rfl,hJ.out⟩
  · refine regs.StepOK.plain rfl fun L a w1 hh => ?_
    have h23 : a.tmps[23]?.getD undef = .pointer (some ⟨g,0,none⟩) := by rw [← Array.getD_eq_getD_getElem?]; exact hh.dep 1 23 (by kernel_rfl) (by kernel_rfl)
    have i0 := ((HM4.out.below hh.rel).blk.blk).inside
    have hJ := Lib.hid hh.st
    clear hh
    go_simp
    exact ⟨_,rfl,regs.bl_refl _,rfl,hJ.out⟩
  · refine regs.StepOK.plain rfl fun L a w1 hh => ?_
    have h24 : a.tmps[24]?.getD undef = .pointer (some ⟨g,0,none⟩) := by rw [← Array.getD_eq_getD_getElem?]; exact hh.dep 2 24 (by kernel_rfl) (by kernel_rfl)
    have hB := Lib.hid ((HM4.out.below hh.rel).blk.blk)
    have c0 : w1.cell? ⟨g,0,none⟩ = some (.iface 109 (.pointer (some ⟨b,0,none⟩))) := hB.out.cell 0
    have i0 := hB.out.inside
    have hJ := Lib.hid hh.st
    clear hh
    go_simp
    exact ⟨_,rfl,regs.bl_refl _,rfl,hJ.out⟩
  · refine regs.StepOK.plain rfl fun L a w1 hh => ?_
    have h25 : a.tmps[25]?.getD undef = .iface 109 (.pointer (some ⟨b,0,none⟩)) := by rw [← Array.getD_eq_getD_getElem?]; exact hh.dep 3 25 (by kernel_rfl) (by kernel_rfl)
    have hinv := inv_len (.pointer (some ⟨b,0,none⟩))
    have hC := Lib.hid (HLEN.out _ hh.rel)
    have hJ := Lib.hid hh.st
    clear hh
    go_simp
    refine hC.out.mono ?_
    rintro e w9 ⟨rfl,hb9⟩
    exact ⟨_,rfl,hb9,rfl,hJ.out⟩
  · refine regs.StepOK.plain rfl fun L a w1 hh => ?_
    have h4 : a.tmps[4]?.getD undef = .pointer (some ⟨w.heap.size,0,none⟩) := by rw [← Array.getD_eq_getD_getElem?]; exact hh.old 4 rfl
    have hB := Lib.hid ((HB4.out.below' hh.rel))
    have c0 : w1.cell? ⟨w.heap.size,0,none⟩ = some (.pointer (some ⟨g,0,none⟩)) := hB.out.cell 0
    have i0 := hB.out.inside
    have hJ := Lib.hid hh.st
    clear hh
    go_simp
    exact ⟨_,rfl,regs.bl_refl _,rfl,hJ.out⟩
  · refine regs.StepOK.plain rfl fun L a w1 hh => ?_
    have h27 : a.tmps[27]?.getD undef = .pointer (some ⟨g,0,none⟩) := by rw [← Array.getD_eq_getD_getElem?]; exact hh.dep 5 27 (by kernel_rfl) (by kernel_rfl)
    have hJ := Lib.hid hh.st
    clear hh
    go_simp
    exact ⟨_,rfl,regs.bl_refl _,rfl,hJ.out⟩
  · refine regs.StepOK.plain rfl fun L a w1 hh => ?_
    have h28 : a.tmps[28]?.getD undef = .pointer (some ⟨g,0,none⟩) := by rw [← Array.getD_eq_getD_getElem?]; exact hh.dep 6 28 (by kernel_rfl) (by kernel_rfl)
    have i0 := ((HM4.out.below hh.rel).blk.blk).inside
    have hJ := Lib.hid hh.st
    clear hh
    go_simp
    exact ⟨_,rfl,regs.bl_refl _,rfl,hJ.out⟩
  · refine regs.StepOK.plain rfl fun L a w1 hh => ?_
    have h29 : a.tmps[29]?.getD undef = .pointer (some ⟨g,2,none⟩) := by rw [← Array.getD_eq_getD_getElem?]; exact hh.dep 7 29 (by kernel_rfl) (by kernel_rfl)
    have i0 := ((HM4.out.below hh.rel).blk.blk).inside
    have hJ := Lib.hid hh.st
    clear hh
    go_simp
    exact ⟨_,rfl,regs.bl_refl _,rfl,hJ.out⟩
  · refine regs.StepOK.plain rfl fun L a w1 hh => ?_
    have h30 : a.tmps[30]?.getD undef = .pointer (some ⟨g,4,none⟩) := by rw [← Array.getD_eq_getD_getElem?]; exact hh.dep 8 30 (by kernel_rfl) (by kernel_rfl)
    have hB := Lib.hid ((HM4.out.below hh.rel).blk.blk)
    have c0 : w1.cell? ⟨g,4,none⟩ = some (.int .i64 Z.2.2) := hB.out.cell 4
    have i0 := hB.out.inside
    have hJ := Lib.hid hh.st
    clear hh
    go_simp
    exact ⟨_,rfl,regs.bl_refl _,rfl,hJ.out⟩
  · refine regs.StepOK.plain rfl fun L a w1 hh => ?_
    have h26 : a.tmps[26]?.getD undef = .int .i64 (NL : Int) := by rw [← Array.getD_eq_getD_getElem?]; exact hh.dep 4 26 (by kernel_rfl) (by kernel_rfl)
    have h31 : a.tmps[31]?.getD undef = .int .i64 Z.2.2 := by rw [← Array.getD_eq_getD_getElem?]; exact hh.dep 9 31 (by kernel_rfl) (by kernel_rfl)
    have hJ := Lib.hid hh.st
    clear hh
    go_simp
    exact ⟨_,rfl,regs.bl_refl _,rfl,hJ.out⟩
  intro L w5 val hL hJ hR hv
  have h32 : val 32 = .bool false := hv 10 32 (by kernel_rfl)
  have HR5 := Lib.hid hR
  clear hv hL hJ hR
  simp only [regs.putAll,List.map_cons,List.map_nil,h32]
  simp only [Act.put,List.setIfInBounds_toArray,List.set_cons_zero,List.set_cons_succ]
  clear h32
  generalize val 22 = v22 at *
  generalize val 23 = v23 at *
  generalize val 24 = v24 at *
  generalize val 25 = v25 at *
  generalize val 26 = v26 at *
  generalize val 27 = v27 at *
  generalize val 28 = v28 at *
  generalize val 29 = v29 at *
  generalize val 30 = v30 at *
  generalize val 31 = v31 at *
  have HM5 := Lib.hid (HM4.out.below HR5.out)
  have HT5 : Hid (TurnP (SFoot b m s x.t) (SFoot b m s5 t1) wz w5) := HT4.out.trans (TurnP.below HR5.out)
  have HB5 := Lib.hid (HB4.out.below' HR5.out)
  have HC5 := Lib.hid (HC4.out.below' HR5.out)
  have HGT5 := Lib.hid HM5.out.blk
  have HNG5 := Lib.hid HM5.out.gfar
  clear HM4 HT4 HB4 HC4 HLEN HR5
  go_upto_region 7 with (fail)
  refine regs.wp_region_put (TurnP (SFoot b m s5 t1) (SFoot b m s5 t1)) (fun L wx => MapJ g b m s5 Z t1 (fun i => has x.t i = true) x.nd x.ws (fun j => j = ci ∨ has x.t j = true) (upd x.nd ci Nd.plain) (upd x.ws ci Mp.o) (L 7) wx) [39,40,41,42,43,44,45] (by kernel_rfl) (by kernel_rfl) (fun _ => TurnP.refl _ _) (fun _ _ _ h k => h.trans k) (fun i => (match i with
    | 0 => regs.Say.val _ (.pointer (some ⟨g,0,none⟩))
    | 1 => regs.Say.val _ (.pointer (some ⟨g,0,none⟩))
    | 2 => regs.Say.val _ (.pointer (some ⟨g,5,none⟩))
    | 3 => regs.Say.val _ (.map (some m))
    | 4 => regs.Say.val _ (.int .i64 ci)
    | 5 => regs.Say.val _ (.agg (Nd.plain.cs none 0).toArray)
    | 6 => regs.Say.val _ (.agg (plcs Nd.plain none 0 Mp.o).toArray)
    | 7 => regs.Say.any _
    | _ => regs.Say.any _ : regs.Say (TurnP (SFoot b m s5 t1) (SFoot b m s5 t1))).p) (fun _ => regs.Say.mono _) (by kernel_rfl) (TurnP.below (Below.refl _ _).drew) (⟨fun _ => HM5.out.below (Below.refl _ _).drew,(fun e => nomatch e)⟩) ⟨?_,?_,?_,?_,?_,?_,?_,?_,trivial⟩ ?_
  · refine regs.StepOK.plain rfl fun L a w1 hh => ?_
    have h4 : a.tmps[4]?.getD undef = .pointer (some ⟨w.heap.size,0,none⟩) := by rw [← Array.getD_eq_getD_getElem?]; exact hh.old 4 rfl
    have hB := Lib.hid (HB5.out.off HNB4.out hh.rel)
    have c0 : w1.cell? ⟨w.heap.size,0,none⟩ = some (.pointer (some ⟨g,0,none⟩)) := hB.out.cell 0
    have i0 := hB.out.inside
    have hJ := Lib.hid hh.st
    clear hh
    go_simp
    exact ⟨_,rfl,TurnP.refl _ _,rfl,hJ.out⟩
  · refine regs.StepOK.plain rfl fun L a w1 hh => ?_
    have h39 : a.tmps[39]?.getD undef = .pointer (some ⟨g,0,none⟩) := by rw [← Array.getD_eq_getD_getElem?]; exact hh.dep 0 39 (by kernel_rfl) (by kernel_rfl)
    have hJ := Lib.hid hh.st
    clear hh
    go_simp
    exact ⟨_,rfl,TurnP.refl _ _,rfl,hJ.out⟩
  · refine regs.StepOK.plain rfl fun L a w1 hh => ?_
    have h40 : a.tmps[40]?.getD undef = .pointer (some ⟨g,0,none⟩) := by rw [← Array.getD_eq_getD_getElem?]; exact hh.dep 1 40 (by kernel_rfl) (by kernel_rfl)
    have i0 := ((BlkT.off HGT5.out HNG5.out hh.rel).blk).inside
    have hJ := Lib.hid hh.st
    clear hh
    go_simp
    exact ⟨_,rfl,TurnP.refl _ _,rfl,hJ.out⟩
  · refine regs.StepOK.plain rfl fun L a w1 hh => ?_
    have h41 : a.tmps[41]?.getD undef = .pointer (some ⟨g,5,none⟩) := by rw [← Array.getD_eq_getD_getElem?]; exact hh.dep 2 41 (by kernel_rfl) (by kernel_rfl)
    have hB := Lib.hid ((BlkT.off HGT5.out HNG5.out hh.rel).blk)
    have c0 : w1.cell? ⟨g,5,none⟩ = some (.map (some m)) := hB.out.cell 5
    have i0 := hB.out.inside
    have hJ := Lib.hid hh.st
    clear hh
    go_simp
    exact ⟨_,rfl,TurnP.refl _ _,rfl,hJ.out⟩
  · refine regs.StepOK.plain rfl fun L a w1 hh => ?_
    have h5 : a.tmps[5]?.getD undef = .pointer (some ⟨(w.heap.size + 1),0,none⟩) := by rw [← Array.getD_eq_getD_getElem?]; exact hh.old 5 rfl
    have hB := Lib.hid (HC5.out.off HNC4.out hh.rel)
    have c0 : w1.cell? ⟨(w.heap.size + 1),0,none⟩ = some (.int .i64 ci) := hB.out.cell 0
    have i0 := hB.out.inside
    have hJ := Lib.hid hh.st
    clear hh
    go_simp
    exact ⟨_,rfl,TurnP.refl _ _,rfl,hJ.out⟩
  · refine regs.StepOK.plain rfl fun L a w1 hh => ?_
    have hC := Lib.hid (plain_nd w1)
    have hJ := Lib.hid hh.st
    clear hh
    go_simp
    refine hC.out.mono ?_
    rintro e w9 ⟨rfl,hb9⟩
    exact ⟨_,rfl,TurnP.below hb9,rfl,hJ.out.below hb9⟩
  · refine regs.StepOK.plain rfl fun L a w1 hh => ?_
    have h44 : a.tmps[44]?.getD undef = .agg (Nd.plain.cs none 0).toArray := by rw [← Array.getD_eq_getD_getElem?]; exact hh.dep 5 44 (by kernel_rfl) (by kernel_rfl)
    have hJ := Lib.hid hh.st
    exact wp_build _ _ rfl (by simp [go_sem,h44]) (build_plain w1) ⟨_,rfl,TurnP.refl _ _,rfl,hJ.out⟩
  · refine regs.StepOK.plain rfl fun L a w1 hh => ?_
    have h42 : a.tmps[42]?.getD undef = .map (some m) := by rw [← Array.getD_eq_getD_getElem?]; exact hh.dep 3 42 (by kernel_rfl) (by kernel_rfl)
    have h43 : a.tmps[43]?.getD undef = .int .i64 ci := by rw [← Array.getD_eq_getD_getElem?]; exact hh.dep 4 43 (by kernel_rfl) (by kernel_rfl)
    have h45 : a.tmps[45]?.getD undef = .agg (plcs Nd.plain none 0 Mp.o).toArray := by rw [← Array.getD_eq_getD_getElem?]; exact hh.dep 6 45 (by kernel_rfl) (by kernel_rfl)
    obtain ⟨w9,hrun,hs9,ht9⟩ := (hh.st.no hh.un).store HN9.out (fun j hj => (HAB.out.2.2.2.1 j).2 (.inr hj)) HI.out (show PlAt Z.3 (SFoot b m s5 t1) w1 (.agg (plcs Nd.plain none 0 Mp.o).toArray) Nd.plain Mp.o from ⟨_,_,rfl,row_none rfl _,fun a e => (nomatch e),fun a e => (nomatch e)⟩)
    have hS9 := Lib.hid hs9
    have hT9 := Lib.hid ht9
    clear hh hs9 ht9
    go_simp
    exact ⟨hT9.out,⟨undef,trivial⟩,(fun e => nomatch e),fun _ => hS9.out⟩
  intro L w7 val hL hJ hR hv
  have HR7 := Lib.hid hR
  have HM7 := Lib.hid (hJ.yes (hL 7 (by decide)))
  clear hv hL hJ hR
  simp only [regs.putAll,List.map_cons,List.map_nil]
  simp only [Act.put,List.setIfInBounds_toArray,List.set_cons_zero,List.set_cons_succ]
  generalize val 39 = v39 at *
  generalize val 40 = v40 at *
  generalize val 41 = v41 at *
  generalize val 42 = v42 at *
  generalize val 43 = v43 at *
  generalize val 44 = v44 at *
  generalize val 45 = v45 at *
  go_wp2_with (fail)
  go_ret2
  rw [HE3.out]
  have hsc : SceneAt w7 g b m s5 Z ⟨t1,upd x.nd ci Nd.plain,upd x.ws ci Mp.o⟩ := HM7.out.scene fun j => (HAB.out.2.2.2.1 j).symm
  refine ⟨_,s5,rfl,hsc,((TurnP.below HB0.out).trans HT5.out).trans HR7.out,fun _ => ⟨fun k => k = w.heap.size ∨ k = w.heap.size + 1,_,_,rfl,enters_create1,?_,?_⟩⟩
  · rintro k (rfl | rfl)
    · exact ⟨Nat.lt_of_lt_of_le HB5.out.inside HR7.out.size,fun e => e.elim HNB4.out HEB.out⟩
    · exact ⟨Nat.lt_of_lt_of_le HC5.out.inside HR7.out.size,fun e => e.elim HNC4.out HEC.out⟩
  · intro W s1 E hK hs1
    have hblk : ∀ {k : Nat} {cs : List Value},Blk w5 k cs → ¬ SFoot b m s5 t1 k → W.heap[k]? = w7.heap[k]? → Blk W k cs := fun h1 h2 h3 => h1.stays (h3.trans (HR7.out.far _ h1.inside h2).2)
    refine (create_back hs1 HN1.out (hblk HB5.out HNB4.out (hK _ (.inl rfl)).1) (hblk HC5.out HNC4.out (hK _ (.inr rfl)).1) (hK _ (.inl rfl)).2.1 (hK _ (.inr rfl)).2.1 HI.out HAB.out.2.1 HAB.out.2.2.2.2.1).mono ?_
    rintro e W' ⟨he,s2,h5,h6⟩
    have hal := HAB.out.2.2.2.2.2
    have h7 := h5.scene (fun j => by
      rw [alike_has hal,HAB.out.2.2.2.1]
      constructor
      · rintro ⟨h1,h2 | h2⟩
        · exact absurd h2 h1
        · exact h2
      · exact fun h2 => ⟨fun e => HAB.out.2.2.1 (e ▸ h2),.inr h2⟩)
    rw [SFoot.alike hal] at h6
    have hne : ∀ j,has (gone [ci] t1) j = true → j ≠ ci := fun j hj e => by rw [alike_has hal,e] at hj; exact HAB.out.2.2.1 hj
    exact ⟨he,s2,h7.like ⟨HOK.out,hal,fun j hj => (upd_ne _ (hne j hj) _).symm,fun j hj => (upd_ne _ (hne j hj) _).symm⟩,h6⟩
end
end Go.Proofs.YtehmblcbccceaaaGreat
