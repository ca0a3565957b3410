import Derived.Test.YtehmblcbccceaaaGreatLSce
namespace Go.Proofs.YtehmblcbccceaaaGreat
open Go.RowKit pxm imm trm Go.Maps
abbrev tSeen : TypeId := 250
theorem und_seen : Tryz.prog.underlying tSeen = some (.map 3 276) := Tryz.underlying250
theorem zero_unit (w : World) : (zeroValue 276).run Tryz.prog w = .ok (.agg #[]) w := by kernel_rfl
def SeenM (w : World) (ms : Nat) (Sn : Int → Prop) : Prop := ∃ es,VM w ms es ∧ (∀ j,omap.look es j ≠ none ↔ Sn j) ∧ ∀ j v,omap.look es j = some v → v = .agg #[]
section
variable {w w' : World} {ms : Nat} {Sn Sn' : Int → Prop}
theorem SeenM.inside (h : SeenM w ms Sn) : ms < w.heap.size := h.elim fun _ h => h.1.inside
theorem SeenM.stays (h : SeenM w ms Sn) (hb : w'.heap[ms]? = w.heap[ms]?) : SeenM w' ms Sn := by
  obtain ⟨es,h1,h2⟩ := h
  exact ⟨es,h1.stays hb,h2⟩
theorem SeenM.below (h : SeenM w ms Sn) (hb : Below w.heap.size w w') : SeenM w' ms Sn := h.stays (hb.block _ h.inside)
theorem SeenM.as (h : SeenM w ms Sn) (e : ∀ j,Sn j ↔ Sn' j) : SeenM w ms Sn' := by
  obtain ⟨es,h1,h2⟩ := h
  exact ⟨es,h1,fun j => (h2.1 j).trans (e j),h2.2⟩
theorem SeenM.look (h : SeenM w ms Sn) {i : Int} (hi : I64 i) : ∃ q,(Instr.lookup tSeen (.map (some ms)) (.int .i64 i) true).run Tryz.prog w = .ok (.tuple #[.agg #[],.bool q]) w ∧ (q = true ↔ Sn i) := by
  obtain ⟨es,h1,h2,h3⟩ := h
  have hl := h1.look_ok und_seen (zero_unit w) hi
  have h4 := h2 i
  have h5 := h3 i
  cases hq : omap.look es i with
  | none => rw [hq] at hl h4; exact ⟨false,hl,by simpa using h4⟩
  | some v =>
    rw [hq] at hl h4
    rw [h5 v hq] at hl
    exact ⟨true,hl,by simpa using h4⟩
theorem SeenM.put (h : SeenM w ms Sn) {t : T} (hs : ∀ j,Sn j → has t j = true) (hn : t.length ≤ 100000) {i : Int} (hi : I64 i) :
    ∃ w',(Instr.mapUpdate tSeen (.map (some ms)) (.int .i64 i) (.agg #[])).run Tryz.prog w = .ok () w' ∧ SeenM w' ms (fun j => Sn j ∨ j = i) ∧ w.grownBy w' (some ms) := by
  obtain ⟨es,h1,h2,h3⟩ := h
  have hle := es_le (t := t) h1.rises fun j hj => hs j ((h2 j).1 hj)
  obtain ⟨w',hrun,hm,hg⟩ := h1.store und_seen hi (.agg #[]) (by have := vput_len i (.agg #[]) es; omega)
  refine ⟨w',hrun,⟨_,hm,fun j => ?_,fun j v hv => ?_⟩,hg⟩
  · rw [omap.look_put]
    by_cases e : j = i
    · rw [if_pos e]; simp [e]
    · rw [if_neg e,h2]; simp [e]
  · rw [omap.look_put] at hv
    by_cases e : j = i
    · rw [if_pos e] at hv; exact (Option.some.inj hv).symm
    · rw [if_neg e] at hv; exact h3 j v hv
end
def ApV (v u : Value) : Prop := ∀ k,v.ownBlock = some k → u.ownBlock ≠ some k
theorem SOwn.apart {α : Type} {T : TypeId} {k : Nat} {enc : α → List Value} {w w' : World} {base : Nat} {v u : Value} {l : List α} (h : SOwn T k enc w base v l) (ha : ApV v u) (ht : TurnP (Ow u) (Ow u) w w') : SOwn T k enc w' base v l := h.stays fun g hg => (ht.far g (h.block hg).2 fun e => ha g hg e).2
def UnQ (t : T) (ms : Nat) (Sn : Int → Prop) (i : Int) (w : World) (e : Ending) (w' : World) : Prop :=
  ∃ (A : Option Addr) (c : Nat) (row next : List Int) (k : Nat),e = .returned (.slice A row.length c) ∧ IOwn w' w.heap.size (.slice A row.length c) row ∧ UnI t Sn i k next row ∧ next.length ≤ k ∧ SeenM w' ms (fun j => Sn j ∨ j ∈ row) ∧ TurnP (fun q => q = ms) (fun q => q = ms) w w'
theorem SRow.nil_of_none {α : Type} {k : Nat} {enc : α → List Value} {w : World} {l : List α} (h : SRow k enc w none l) : l = [] := by
  cases l with
  | nil => rfl
  | cons x l =>
    obtain ⟨b,off,e,_⟩ := h (by simp)
    cases e
theorem app_ints {w : World} {base b2 : Nat} {v u : Value} {l xs : List Int} (h : IOwn w base v l) (k : IOwn w b2 u xs) (hn : l.length + xs.length ≤ 1000000) (hb : base ≤ w.heap.size) :
    ∃ v' w',(Builtin.append_ #[45,45] 45 #[v,u]).run Tryz.prog w = .ok v' w' ∧ IOwn w' base v' (l ++ xs) ∧ w.grownBy w' v.ownBlock ∧ (v'.ownBlock = v.ownBlock ∨ v'.ownBlock = some w.heap.size) := by
  obtain ⟨A,c,rfl,-,-,hr⟩ := SOwn.row k ic_len
  cases A with
  | none =>
    obtain rfl := SRow.nil_of_none hr
    obtain ⟨A2,c2,rfl,hle,-,-⟩ := SOwn.row h ic_len
    obtain ⟨i,hi,hz,hsize,hby⟩ := info_parts info_int
    refine ⟨.slice A2 l.length c2,w,?_,by simpa using h,World.grownBy.refl _ _,.inl rfl⟩
    rw [show (([] : List Int).length) = 0 from rfl]
    cases A2 <;> simp [Builtin.append_,run_underlying Tryz.underlying45,sizeOf,typeInfo,hi,Builtin.lenOf,hle,run_firstCells_none,storeCells]
  | some a =>
    by_cases hx : xs = []
    · subst hx
      obtain ⟨A2,c2,rfl,hle,-,-⟩ := SOwn.row h ic_len
      obtain ⟨i,hi,hz,hsize,hby⟩ := info_parts info_int
      refine ⟨.slice A2 l.length c2,w,?_,by simpa using h,World.grownBy.refl _ _,.inl rfl⟩
      rw [show (([] : List Int).length) = 0 from rfl]
      have hf := run_firstCells_some (P := Tryz.prog) w i.size 0 a 0 c [] (by simp) (by simp)
      cases A2 <;> simp [Builtin.append_,run_underlying Tryz.underlying45,sizeOf,typeInfo,hi,Builtin.lenOf,hle,hf,storeCells,Result.andThen]
    · obtain ⟨b,off,e,-⟩ := hr (List.length_pos_iff.2 hx)
      obtain rfl := Option.some.inj e
      exact SOwn.app (P := Tryz.prog) Tryz.underlying45 info_int rfl (by decide) (by decide) ic_len ic_plain h (fun _ => hr) (by omega) hb
theorem bs_int1 (z : Int) (w : World) : (Instr.buildSlice 45 1 #[(0,.int .i64 z)]).run Tryz.prog w = .ok (.slice (some ⟨w.heap.size,0,none⟩) 1 1) (w.alloc (.cells #[.int .i64 z] 3)) := by kernel_rfl
section
variable {w : World} {g b m : Nat} {s : Sh} {Z : ZZ} {x : PSc}
set_option maxHeartbeats 4000000 in
set_option maxRecDepth 100000 in
theorem unseen_any (ms : Nat) (FS : ∀ W,TurnP (fun q => q = ms) (fun q => q = ms) w W → SceneAt W g b m s Z x) (hn : x.t.length ≤ 900) (Sn : Int → Prop) (hm : SeenM w ms Sn) (hs : ∀ j,Sn j → has x.t j = true) (i : Int) (hi : has x.t i = true) :
    Calls Tryz.prog 132 #[.pointer (some ⟨g,0,none⟩),.int .i64 i,.map (some ms)] w (UnQ x.t ms Sn i w) := by
  have HFS := Lib.hid FS
  have HN := Lib.hid hn
  have HSN := Lib.hid hs
  have HI := Lib.hid hi
  have HOK : Hid (Ok x.t) := (FS w (TurnP.refl _ _)).tree.ok
  have hb3 : Below w.heap.size w (w.alloc (.cells #[.int .i64 i] 3)) := (Below.refl _ _).alloc (Nat.le_refl _) _
  have HM3 : Hid (SeenM (w.alloc (.cells #[.int .i64 i] 3)) ms (fun j => Sn j ∨ j ∈ ([] : List Int))) := (hm.below hb3).as fun j => by simp
  have HT3 : Hid (TurnP (fun q => q = ms) (fun q => q = ms) w (w.alloc (.cells #[.int .i64 i] 3))) := TurnP.below hb3
  have HO3 : Hid (IOwn (w.alloc (.cells #[.int .i64 i] 3)) w.heap.size (.slice (some ⟨w.heap.size,0,none⟩) [i].length 1) [i]) := SOwn.lit (T := 3) (enc := ic) ic_len w [i] (Nat.le_refl _) (by unfold maxLen; simp)
  have HU3 : Hid (UnI x.t Sn i 0 [i] []) := UnI.start hi
  have HMB : Hid (ms < w.heap.size) := hm.inside
  clear FS hn hs hi hm hb3
  go_enter Tryz.func132,Tryz.ntmps132
  go_wp2_with ((with_reducible show wpList _ _ _ (Oper.mk _ (Op.buildSlice _ _ _) _ _ _ _ :: _) _ _); refine wpl_bs _ _ _ rfl rfl (by simp [go_sem]) (bs_int1 i _) ?_)
  go_loopw [9,8,7] (fun x9 x8 x7 wr => ∃ (k : Nat) (A : Option Addr) (c : Nat) (nx : List Int) (B : Option Addr) (d : Nat) (row : List Int),x9 = .int .i64 k ∧ x8 = .slice A nx.length c ∧ x7 = .slice B row.length d ∧ Hid (IOwn wr w.heap.size (.slice A nx.length c) nx) ∧ Hid (IOwn wr w.heap.size (.slice B row.length d) row) ∧ Hid (ApV (.slice A nx.length c) (.slice B row.length d)) ∧ Hid (SeenM wr ms (fun j => Sn j ∨ j ∈ row)) ∧ Hid (TurnP (fun q => q = ms) (fun q => q = ms) w wr) ∧ Hid (UnI x.t Sn i k nx row)) (fun x9 _ _ _ => x.t.length + 2 - (intOf x9).toNat)
  case atStart => exact ⟨0,_,1,[i],none,0,[],rfl,rfl,rfl,HO3.out,SOwn.nil _ _,(fun k _ e => nomatch e),HM3.out,HT3.out,HU3.out⟩
  case round =>
    obtain ⟨k,A,c,nx,B,d,row,rfl,rfl,rfl,HO,HR,HA,HM,HT,HU⟩ := hrel
    generalize wr = wA at *
    clear HO3 HM3 HT3 HU3
    have HNL : Hid (nx.length ≤ x.t.length + 1) := HU.out.len
    have hll : (nx.length : Int) ≤ 100000 := by have := HNL.out; have := HN.out; omega
    by_cases hlt : k < nx.length
    · have hkb : (k : Int) ≤ 100000 := by omega
      have HMS : Hid (k < x.t.length + 1) := by have := HNL.out; show _ < _; omega
      have t1 : decide (k < nx.length) = true := by simpa using hlt
      have HLT := Lib.hid hlt
      obtain ⟨A',c',ev,-,-,hrow⟩ := IOwn.irow HO.out
      obtain ⟨lb,lo,eA,hcell⟩ := hrow.at_ hlt
      have ec : A' = A := by injection ev with e1 _ _; exact e1.symm
      subst ec
      subst eA
      unfold eI at hcell
      have hmem : nx[k] ∈ nx := List.getElem_mem hlt
      have HY : Hid (has x.t nx[k] = true) := (HU.out.deep _ hmem).1
      have HSK : Hid (Sn nx[k] → UnI x.t Sn i (k + 1) nx row) := HU.out.skip hlt
      have HGO : Hid (¬ Sn nx[k] → UnI x.t Sn i (k + 1) (nx ++ kids x.t nx[k]) (row ++ [nx[k]])) := HU.out.go HOK.out (has_iff.1 HI.out) hlt
      have HNW : Hid (nx[k] ∉ row) := HU.out.new hlt
      clear ev hrow hmem
      generalize nx[k] = y at *
      have HY64 : Hid (I64 y) := has_64 HOK.out HY.out
      obtain ⟨q,hlk,hq⟩ := HM.out.look HY64.out
      have HQ : Hid (q = true ↔ Sn y) := hq.trans ⟨fun e => e.resolve_right HNW.out,.inl⟩
      clear hq
      have HDP : Hid (∀ j,Sn j ∨ j ∈ row → has x.t j = true) := fun j hj => hj.elim (HSN.out j) fun h => (HU.out.deep _ (List.mem_of_mem_take ((HU.out.sub j).1 h).1)).1
      have HRL : Hid (row.length ≤ x.t.length + 1) := by
        have := len_of_sub (m := nx) HU.out.rnd fun j hj => List.mem_of_mem_take ((HU.out.sub j).1 hj).1
        exact Nat.le_trans this HNL.out
      go_upto_region 8 with (fail)
      have HB7 : Hid (Below wA.heap.size wA (wA.alloc (.cells #[] 276))) := (Below.refl _ _).alloc (Nat.le_refl _) _
      generalize wA.alloc (.cells #[] 276) = w7 at *
      have HO7 := Lib.hid (SOwn.below HO.out HB7.out)
      have HR7 := Lib.hid (SOwn.below HR.out HB7.out)
      have HM7 := Lib.hid (HM.out.below HB7.out)
      have HT7 : Hid (TurnP (fun q => q = ms) (fun q => q = ms) w w7) := HT.out.trans (TurnP.below HB7.out)
      clear hlk hcell HO HR HM HT t1 hlt HB7
      cases q with
      | true =>
        have HU9 := Lib.hid (HSK.out (HQ.out.1 rfl))
        clear HSK HGO HU
        go_wp2_with (fail)
        go_roundw
        case rel => exact ⟨k + 1,_,c,nx,B,d,row,by go_num,rfl,rfl,HO7,HR7,HA,HM7,HT7,HU9⟩
        case measure => have := HMS.out; simp [intOf]; omega
      | false =>
        have HNS : Hid (¬ Sn y) := fun e => by have := HQ.out.2 e; cases this
        have HU9 := Lib.hid (HGO.out HNS.out)
        obtain ⟨w8,hrun8,hm8,hg8⟩ := HM7.out.put HDP.out (by have := HN.out; omega) HY64.out
        have HT8 : Hid (TurnP (fun q => q = ms) (fun q => q = ms) w w8) := HT7.out.trans (TurnP.grown hg8 fun k e => (Option.some.inj e).symm)
        have HO8 : Hid (IOwn w8 w.heap.size (.slice (some ⟨lb,lo,none⟩) nx.length c) nx) := SOwn.stays HO7.out fun e he => hg8.block e (SOwn.block HO7.out he).2 fun h => by
          have h1 := Option.some.inj h
          have h2 := (SOwn.block HO7.out he).1
          have h3 := HMB.out
          omega
        have HR8 : Hid (IOwn w8 w.heap.size (.slice B row.length d) row) := SOwn.stays HR7.out fun e he => hg8.block e (SOwn.block HR7.out he).2 fun h => by
          have h1 := Option.some.inj h
          have h2 := (SOwn.block HR7.out he).1
          have h3 := HMB.out
          omega
        have HM8 : Hid (SeenM w8 ms (fun j => Sn j ∨ j ∈ row ++ [y])) := hm8.as fun j => by simp [or_assoc]
        clear hm8 hg8 HSK HGO HU HQ HM7 HO7 HR7 HT7 HDP
        go_upto_region 10 with (fail)
        clear hrun8
        obtain ⟨v9,w9,hrun,ho9,hg9,hn9⟩ := app_one HR8.out y (c := 1) (by have := HRL.out; have := HN.out; omega) HT8.out.size
        have ht9 : TurnP (Ow (.slice B row.length d)) (Ow (.slice B row.length d)) w8 w9 := (TurnP.below ((Below.refl _ _).alloc (Nat.le_refl _) _)).trans (TurnP.grown hg9 fun k hk => hk)
        have HT9 : Hid (TurnP (fun q => q = ms) (fun q => q = ms) w w9) := HT8.out.own ht9 fun k hk => (SOwn.block HR8.out hk).1
        have HO9 : Hid (IOwn w9 w.heap.size (.slice (some ⟨lb,lo,none⟩) nx.length c) nx) := SOwn.apart HO8.out HA.out ht9
        have HM9 : Hid (SeenM w9 ms (fun j => Sn j ∨ j ∈ row ++ [y])) := HM8.out.stays (ht9.far ms HM8.out.inside fun e => by
          have h2 := (SOwn.block HR8.out e).1
          have h3 := HMB.out
          omega).2
        obtain ⟨B9,d9,rfl,-,-,-⟩ := SOwn.row ho9 ic_len
        have HR9 := Lib.hid ho9
        have HA9 : Hid (ApV (.slice (some ⟨lb,lo,none⟩) nx.length c) (.slice B9 (row ++ [y]).length d9)) := fun k hk e => by
          rcases hn9 with h | h
          · exact HA.out k hk (h ▸ e)
          · have h1 := Option.some.inj (h.symm.trans e)
            have h2 := (SOwn.block HO8.out hk).2
            omega
        clear ho9 hg9 hn9 ht9 HT8 HO8 HR8 HM8 HA
        go_upto_region 11 with (first | ((with_reducible show wpList _ _ _ (Oper.mk _ (Op.buildSlice _ _ _) _ _ _ _ :: _) _ _); refine wpl_bs _ _ _ rfl rfl (by simp [go_sem]) (bs_int1 y _) ?_) | (at_builtin; refine wpl_append rfl _ _ 45 45 45 rfl rfl _ _ _ _ rfl rfl hrun ?_; clear hrun))
        have HKC := Lib.hid (tkids (HFS.out w9 HT9.out).tree (by have := HN.out; omega) y HY64.out)
        unfold KidsQ at HKC
        obtain ⟨⟨c0,-,-,-,-,-⟩,i0⟩ := (HFS.out w9 HT9.out).top
        have hinv := inv_kids (.pointer (some ⟨b,0,none⟩))
        go_wp2_with (fail)
        refine HKC.out.mono ?_
        rintro e w10 ⟨kv,rfl,ho10,hb10⟩
        obtain ⟨KA,KC,rfl,-,-,-⟩ := SOwn.row ho10 ic_len
        have HT10 : Hid (TurnP (fun q => q = ms) (fun q => q = ms) w w10) := HT9.out.trans (TurnP.below hb10)
        have HO10 := Lib.hid (SOwn.below HO9.out hb10)
        have HR10 := Lib.hid (SOwn.below HR9.out hb10)
        have HM10 := Lib.hid (HM9.out.below hb10)
        obtain ⟨v11,w11,hrun,ho11,hg11,hn11⟩ := app_ints HO10.out ho10 (by have := kids_le x.t y; have := HNL.out; have := HN.out; omega) HT10.out.size
        have ht11 : TurnP (Ow (.slice (some ⟨lb,lo,none⟩) nx.length c)) (Ow (.slice (some ⟨lb,lo,none⟩) nx.length c)) w10 w11 := TurnP.grown hg11 fun k hk => hk
        have HT11 : Hid (TurnP (fun q => q = ms) (fun q => q = ms) w w11) := HT10.out.own ht11 fun k hk => (SOwn.block HO10.out hk).1
        have HR11 : Hid (IOwn w11 w.heap.size (.slice B9 (row ++ [y]).length d9) (row ++ [y])) := SOwn.apart HR10.out (fun k hk e => HA9.out k e hk) ht11
        have HM11 : Hid (SeenM w11 ms (fun j => Sn j ∨ j ∈ row ++ [y])) := HM10.out.stays (ht11.far ms HM10.out.inside fun e => by
          have h2 := (SOwn.block HO10.out e).1
          have h3 := HMB.out
          omega).2
        obtain ⟨A11,c11,rfl,-,-,-⟩ := SOwn.row ho11 ic_len
        have HO11 := Lib.hid ho11
        have HA11 : Hid (ApV (.slice A11 (nx ++ kids x.t y).length c11) (.slice B9 (row ++ [y]).length d9)) := fun k hk e => by
          rcases hn11 with h | h
          · exact HA9.out k (h ▸ hk) e
          · have h1 := Option.some.inj (h.symm.trans hk)
            have h2 := (SOwn.block HR10.out e).2
            omega
        clear ho10 hb10 ho11 hg11 hn11 ht11 HT10 HO10 HR10 HM10 HT9 HO9 HR9 HM9 HA9 HKC c0 i0 hinv
        go_wp2_with (at_builtin; refine wpl_append rfl _ _ 45 45 45 rfl rfl _ _ _ _ rfl rfl hrun ?_; clear hrun)
        go_roundw
        case rel => exact ⟨k + 1,A11,c11,nx ++ kids x.t y,B9,d9,row ++ [y],by go_num,by simp,by simp,HO11,HR11,HA11,HM11,HT11,HU9⟩
        case measure => have := HMS.out; simp [intOf]; omega
    · have t1 : decide (k < nx.length) = false := by simpa using hlt
      have HKK : Hid (nx.length ≤ k) := Nat.le_of_not_lt hlt
      clear hlt
      go_wp2_with (fail)
      go_ret
      exact ⟨B,d,row,nx,k,rfl,HR.out,HU.out,HKK.out,HM.out,HT.out⟩
end
end Go.Proofs.YtehmblcbccceaaaGreat
