import Derived.Test.YtehmblcbccceaaaGreatLScK
namespace Go.Proofs.YtehmblcbccceaaaGreat
open Go.RowKit pxm imm trm Go.Maps
abbrev tScene : TypeId := 114
abbrev tPlaced : TypeId := 128
abbrev tPlaces : TypeId := 112
theorem und_places : Tryz.prog.underlying tPlaces = some (.map 3 tPlaced) := Tryz.underlying112
def plzs : List Value := plcs ⟨⟨0,0,0,0,0,0⟩,0,false,false,⟨0,0,0,0⟩,⟨0,0,0,0,0,0,[]⟩⟩ none 0 ⟨0,0,0,0,0,0⟩
theorem zero_placed (w : World) : (zeroValue tPlaced).run Tryz.prog w = .ok (.agg plzs.toArray) w := by kernel_rfl
structure PSc where
  t : T
  nd : Int → Nd
  ws : Int → Mp
def upd {α : Type} (f : Int → α) (i : Int) (y : α) : Int → α := fun j => if j = i then y else f j
theorem upd_same {α : Type} (f : Int → α) (i : Int) (y : α) : upd f i y i = y := if_pos rfl
theorem upd_ne {α : Type} (f : Int → α) {i j : Int} (h : j ≠ i) (y : α) : upd f i y j = f j := if_neg h
def SFoot (b m : Nat) (s : Sh) (t : T) : Bset := fun k => k = m ∨ FootT b s t k
def Sor (b m : Nat) (s : Sh) (t : T) (E : Bset) : Bset := fun k => SFoot b m s t k ∨ E k
structure ZR where
  b : Int
  c : Int
structure ZZ where
  a : Int
  r : ZR
  E : Bset
structure NdOff (E S : Bset) (w : World) (n : Nd) (A : Option Addr) : Prop where
  row : Row eW w A n.lk.l
  off : ∀ a,A = some a → n.lk.l ≠ [] → ¬ S a.block
  e : ∀ a,A = some a → n.lk.l ≠ [] → ¬ E a.block
def PlAt (E S : Bset) (w : World) (v : Value) (n : Nd) (u : Mp) : Prop := ∃ A c,v = plv n A c u ∧ NdOff E S w n A
structure Fit (n : Nd) : Prop where
  p : n.lk.p < 4294967296
  l : ∀ z ∈ n.lk.l,z < 4294967296
  len : n.lk.l.length ≤ 300
theorem Row.stays {w w' : World} {A : Option Addr} {l : List Nat} (h : Row eW w A l) (hb : ∀ a,A = some a → l ≠ [] → w'.heap[a.block]? = w.heap[a.block]?) : Row eW w' A l := fun hn => by
  obtain ⟨b,off,e,hc⟩ := h hn
  have hne : l ≠ [] := fun e => by rw [e] at hn; exact absurd hn (by simp)
  refine ⟨b,off,e,fun j hj => ?_⟩
  have h1 := hb _ e hne
  have h2 := hc j hj
  rw [← h2]
  unfold World.cell?
  simp only at h1 ⊢
  rw [h1]
theorem Row.lt {w : World} {A : Option Addr} {l : List Nat} (h : Row eW w A l) {a : Addr} (e : A = some a) (hne : l ≠ []) : a.block < w.heap.size := by
  have hn : 0 < l.length := List.length_pos_iff.2 hne
  obtain ⟨b,off,e2,hc⟩ := h hn
  rw [e] at e2
  obtain rfl := Option.some.inj e2
  exact World.block_lt_of_cell? w ⟨b,_,none⟩ (hc 0 hn)
section
variable {E S S' : Bset} {w w' : World} {n : Nd} {A : Option Addr} {v : Value} {u : Mp}
theorem NdOff.turn (h : NdOff E S w n A) (ht : TurnP S S' w w') : NdOff E S' w' n A :=
  ⟨Row.stays h.1 fun a e hne => (ht.far _ (Row.lt h.1 e hne) (h.2 a e hne)).2,fun a e hne => (ht.far _ (Row.lt h.1 e hne) (h.2 a e hne)).1,h.3⟩
theorem PlAt.turn (h : PlAt E S w v n u) (ht : TurnP S S' w w') : PlAt E S' w' v n u := by
  obtain ⟨A,c,e,h⟩ := h
  exact ⟨A,c,e,h.turn ht⟩
end
structure SceneAt (w : World) (g b m : Nat) (s : Sh) (Z : ZZ) (x : PSc) : Prop where
  blk : BlkT w g [.iface 109 (.pointer (some ⟨b,0,none⟩)),.pointer (some ⟨b,0,none⟩),.int .i64 Z.1,.int .i64 Z.2.1,.int .i64 Z.2.2,.map (some m)] tScene
  tree : TreeAt w b s x.t
  map : ∃ es,VM w m es ∧ (∀ i,omap.look es i ≠ none → has x.t i = true) ∧ ∀ i,has x.t i = true → ∃ v,omap.look es i = some v ∧ PlAt Z.3 (SFoot b m s x.t) w v (x.nd i) (x.ws i)
  gfar : ¬ SFoot b m s x.t g
  mfar : ¬ FootT b s x.t m
  old : ∀ k,Z.3 k → k < w.heap.size ∧ ¬ SFoot b m s x.t k ∧ k ≠ g
theorem ids_len (t : T) : (ids t).length = t.length := by simp [ids]
theorem es_le {es : LV} {t : T} (hr : omap.Rises lt es) (h : ∀ i,omap.look es i ≠ none → has t i = true) : es.length ≤ t.length + 1 := by
  have hn : (es.map (·.1)).Nodup := by
    refine List.Pairwise.map _ (fun a b hab => ?_) hr
    exact ord.ne hab
  have := len_of_sub (m := 0 :: ids t) hn fun x hx => by
    obtain ⟨p,hp,rfl⟩ := List.mem_map.1 hx
    have h1 := h p.1 (by rw [omap.Rises.look_of_mem ord hr hp]; simp)
    rcases has_iff.1 h1 with e | e
    · exact List.mem_cons.2 (.inl e)
    · exact List.mem_cons_of_mem _ e
  rw [List.length_map,List.length_cons,ids_len] at this
  exact this
section
variable {w w' : World} {g b m : Nat} {s : Sh} {Z : ZZ} {x : PSc}
theorem SceneAt.inside (h : SceneAt w g b m s Z x) : ∀ k,SFoot b m s x.t k → k < w.heap.size := by
  rintro k (rfl | hk)
  · obtain ⟨es,hm,_⟩ := h.map
    exact hm.inside
  · exact h.tree.raw.inside k hk
theorem SceneAt.top (h : SceneAt w g b m s Z x) : (w.cell? ⟨g,0,none⟩ = some (.iface 109 (.pointer (some ⟨b,0,none⟩))) ∧ w.cell? ⟨g,1,none⟩ = some (.pointer (some ⟨b,0,none⟩)) ∧ w.cell? ⟨g,2,none⟩ = some (.int .i64 Z.1) ∧ w.cell? ⟨g,3,none⟩ = some (.int .i64 Z.2.1) ∧ w.cell? ⟨g,4,none⟩ = some (.int .i64 Z.2.2) ∧ w.cell? ⟨g,5,none⟩ = some (.map (some m))) ∧ g < w.heap.size :=
  have h1 := h.blk.blk
  ⟨⟨h1.cell 0,h1.cell 1,h1.cell 2,h1.cell 3,h1.cell 4,h1.cell 5⟩,h1.inside⟩
theorem SceneAt.stays (h : SceneAt w g b m s Z x) (ht : TurnP (SFoot b m s x.t) (SFoot b m s x.t) w w') (hn : ∀ k,SFoot b m s x.t k → w'.heap[k]? = w.heap[k]?) : SceneAt w' g b m s Z x := by
  obtain ⟨es,hm,h1,h2⟩ := h.map
  refine ⟨h.blk.stays (ht.far g h.blk.inside h.gfar).2,h.tree.stays fun k hk => hn k (.inr hk),⟨es,hm.stays (hn m (.inl rfl)),h1,fun i hi => ?_⟩,h.gfar,h.mfar,fun k hk => ⟨Nat.lt_of_lt_of_le (h.old k hk).1 ht.size,(h.old k hk).2⟩⟩
  obtain ⟨v,e,hv⟩ := h2 i hi
  exact ⟨v,e,hv.turn ht⟩
theorem SceneAt.below (h : SceneAt w g b m s Z x) (hb : Below w.heap.size w w') : SceneAt w' g b m s Z x := h.stays (TurnP.below hb) fun k hk => hb.block k (h.inside k hk)
theorem SceneAt.look (h : SceneAt w g b m s Z x) {i : Int} (hi : I64 i) (hh : has x.t i = true) : ∃ A c,(Instr.lookup tPlaces (.map (some m)) (.int .i64 i) false).run Tryz.prog w = .ok (plv (x.nd i) A c (x.ws i)) w ∧
    (Instr.lookup tPlaces (.map (some m)) (.int .i64 i) true).run Tryz.prog w = .ok (.tuple #[plv (x.nd i) A c (x.ws i),.bool true]) w ∧ NdOff Z.3 (SFoot b m s x.t) w (x.nd i) A := by
  obtain ⟨es,hm,-,h2⟩ := h.map
  obtain ⟨v,e,A,c,rfl,hv⟩ := h2 i hh
  have h3 := hm.lookup und_places (zero_placed w) hi
  have h4 := hm.look_ok und_places (zero_placed w) hi
  rw [e] at h3 h4
  exact ⟨A,c,h3,h4,hv⟩
theorem SceneAt.look_none (h : SceneAt w g b m s Z x) {i : Int} (hi : I64 i) (hh : ¬ has x.t i = true) : (Instr.lookup tPlaces (.map (some m)) (.int .i64 i) false).run Tryz.prog w = .ok (.agg plzs.toArray) w ∧
    (Instr.lookup tPlaces (.map (some m)) (.int .i64 i) true).run Tryz.prog w = .ok (.tuple #[.agg plzs.toArray,.bool false]) w := by
  obtain ⟨es,hm,h1,-⟩ := h.map
  have e : omap.look es i = none := by
    cases e : omap.look es i with
    | none => rfl
    | some v => exact absurd (h1 i (by rw [e]; simp)) hh
  have h3 := hm.lookup und_places (zero_placed w) hi
  have h4 := hm.look_ok und_places (zero_placed w) hi
  rw [e] at h3 h4
  exact ⟨h3,h4⟩
theorem TurnP.refl_grown {S : Bset} {w w' : World} {m : Nat} (hg : w.grownBy w' (some m)) (hm : S m) : TurnP S S w w' := TurnP.grown hg fun k e => by
  obtain rfl := Option.some.inj e
  exact hm
theorem SceneAt.store (h : SceneAt w g b m s Z x) (hn : x.t.length ≤ 100000) {i : Int} (hi : I64 i) (hh : has x.t i = true) {v : Value} {n : Nd} {u : Mp} (hv : PlAt Z.3 (SFoot b m s x.t) w v n u) :
    ∃ w',(Instr.mapUpdate tPlaces (.map (some m)) (.int .i64 i) v).run Tryz.prog w = .ok () w' ∧ SceneAt w' g b m s Z ⟨x.t,upd x.nd i n,upd x.ws i u⟩ ∧ TurnP (SFoot b m s x.t) (SFoot b m s x.t) w w' := by
  obtain ⟨es,hm,h1,h2⟩ := h.map
  have hle := es_le hm.rises h1
  obtain ⟨w',hrun,hm',hg⟩ := hm.store und_places hi v (by have := vput_len i v es; omega)
  have ht : TurnP (SFoot b m s x.t) (SFoot b m s x.t) w w' := TurnP.refl_grown hg (.inl rfl)
  refine ⟨w',hrun,⟨h.blk.stays (ht.far g h.blk.inside h.gfar).2,h.tree.stays fun k hk => hg.block k (h.tree.raw.inside k hk) fun e => ?_,⟨_,hm',fun j hj => ?_,fun j hj => ?_⟩,h.gfar,h.mfar,fun k hk => ⟨Nat.lt_of_lt_of_le (h.old k hk).1 ht.size,(h.old k hk).2⟩⟩,ht⟩
  · exact h.mfar (Option.some.inj e ▸ hk)
  · rw [omap.look_put] at hj
    by_cases e : j = i
    · rw [e]; exact hh
    · rw [if_neg e] at hj; exact h1 j hj
  · rw [omap.look_put]
    by_cases e : j = i
    · subst e
      rw [if_pos rfl]
      exact ⟨v,rfl,by simp only [upd_same]; exact hv.turn ht⟩
    · rw [if_neg e]
      obtain ⟨v',e',hv'⟩ := h2 j hj
      exact ⟨v',e',by simp only [upd_ne _ e]; exact hv'.turn ht⟩
structure PSc.like (x y : PSc) : Prop where
  ok : Ok y.t
  kids : ∀ q,trm.kids x.t q = trm.kids y.t q
  nd : ∀ i,has x.t i = true → y.nd i = x.nd i
  ws : ∀ i,has x.t i = true → y.ws i = x.ws i
theorem TreeAt.alike {w : World} {b : Nat} {s : Sh} {t u : T} (h : TreeAt w b s u) (ok : Ok t) (al : ∀ q,kids u q = kids t q) : TreeAt w b s t := by
  have h1 : hasP u = hasP t := funext fun i => by show (has u i = true) = (has t i = true); rw [alike_has al]
  have h3 : kids u = kids t := funext al
  have h2 : upT u = upT t := funext fun i => by unfold upT; rw [alike_par h.ok ok al]
  have hr : Raw w b s (hasP u) (upT u) (kids u) := h.raw
  rw [h1,h2,h3] at hr
  exact ⟨hr,ok⟩
theorem SFoot.alike {b m : Nat} {s : Sh} {t u : T} (al : ∀ q,kids u q = kids t q) : SFoot b m s u = SFoot b m s t := by
  have h1 : hasP u = hasP t := funext fun i => by show (has u i = true) = (has t i = true); rw [alike_has al]
  unfold SFoot FootT
  rw [h1]
theorem SceneAt.like (h : SceneAt w g b m s Z x) {y : PSc} (l : x.like y) : SceneAt w g b m s Z y := by
  obtain ⟨es,hm,h1,h2⟩ := h.map
  have e := SFoot.alike (b := b) (m := m) (s := s) l.kids
  refine ⟨h.blk,h.tree.alike l.ok l.kids,⟨es,hm,fun i hi => ?_,fun i hi => ?_⟩,by rw [← e]; exact h.gfar,fun hk => h.mfar ?_,fun k hk => ⟨(h.old k hk).1,by rw [← e]; exact (h.old k hk).2.1,(h.old k hk).2.2⟩⟩
  · rw [← alike_has l.kids]; exact h1 i hi
  · rw [← alike_has l.kids] at hi
    rw [← e,l.nd i hi,l.ws i hi]
    exact h2 i hi
  · have h1 : hasP x.t = hasP y.t := funext fun i => by show (has x.t i = true) = (has y.t i = true); rw [alike_has l.kids]
    unfold FootT at hk ⊢
    rw [h1]
    exact hk
end
def UndoV (g b m : Nat) (Z : ZZ) (v : Value) (w : World) (S : Bset) (x' x : PSc) : Prop :=
  ∃ (K : Bset) (f : Nat) (cs : Array Value),v = .func (.func f) #[] cs ∧ Enters Tryz.prog f ∧ (∀ k,K k → k < w.heap.size ∧ ¬ S k) ∧
    ∀ (W : World) (s1 : Sh) (E : Bset),(∀ k,K k → W.heap[k]? = w.heap[k]? ∧ ¬ SFoot b m s1 x'.t k ∧ ¬ E k) → SceneAt W g b m s1 ⟨Z.1,Z.2,E⟩ x' →
      Calls Tryz.prog f cs W fun e W' => (∃ r,e = .returned r) ∧ ∃ s2,SceneAt W' g b m s2 ⟨Z.1,Z.2,E⟩ x ∧ TurnP (SFoot b m s1 x'.t) (SFoot b m s2 x.t) W W'
theorem UndoV.turn {g b m : Nat} {Z : ZZ} {v : Value} {w w' : World} {S S' : Bset} {x' x : PSc} (h : UndoV g b m Z v w S x' x) (ht : TurnP S S' w w') : UndoV g b m Z v w' S' x' x := by
  obtain ⟨K,f,cs,e,he,hk,hc⟩ := h
  refine ⟨K,f,cs,e,he,fun k hK => ⟨Nat.lt_of_lt_of_le (hk k hK).1 ht.size,(ht.far k (hk k hK).1 (hk k hK).2).1⟩,fun W s1 E hW hs => hc W s1 E (fun k hK => ⟨(hW k hK).1.trans (ht.far k (hk k hK).1 (hk k hK).2).2,(hW k hK).2⟩) hs⟩
def OpQ (g b m : Nat) (Z : ZZ) (s : Sh) (x : PSc) (r : PSc × Int) (w : World) (e : Ending) (w' : World) : Prop :=
  ∃ fv s',e = .returned (.tuple #[fv,.int .i64 r.2]) ∧ SceneAt w' g b m s' Z r.1 ∧ TurnP (SFoot b m s x.t) (SFoot b m s' r.1.t) w w' ∧ (r.2 = 0 → UndoV g b m Z fv w' (Sor b m s' r.1.t Z.3) r.1 x)
theorem pick_row {w : World} {o : Op9} {Ao An : Option Addr} {n : Nd} (h1 : Row eW w Ao o.lk.l) (h2 : Row eW w An n.lk.l) : Row eW w (pick7 o Ao An) (setN n o).lk.l := by
  unfold pick7 setN
  by_cases h7 : o.k = 7
  · rw [if_pos h7,if_neg (by omega),if_neg (by omega),if_neg (by omega),if_pos h7]; exact h1
  · rw [if_neg h7,if_neg h7]
    by_cases h4 : o.k = 4
    · rw [if_pos h4]; exact h2
    rw [if_neg h4]
    by_cases h5 : o.k = 5
    · rw [if_pos h5]; exact h2
    rw [if_neg h5]
    by_cases h6 : o.k = 6
    · rw [if_pos h6]; exact h2
    rw [if_neg h6]
    by_cases h8 : o.k = 8
    · rw [if_pos h8]; exact h2
    rw [if_neg h8]; exact h2
theorem pick_fit {o : Op9} {n : Nd} (h1 : Fit { n with lk := o.lk }) (h2 : Fit n) : Fit (setN n o) := by
  unfold setN
  by_cases h4 : o.k = 4
  · rw [if_pos h4]; exact ⟨h2.p,h2.l,h2.len⟩
  rw [if_neg h4]
  by_cases h5 : o.k = 5
  · rw [if_pos h5]; exact ⟨h2.p,h2.l,h2.len⟩
  rw [if_neg h5]
  by_cases h6 : o.k = 6
  · rw [if_pos h6]; exact ⟨h2.p,h2.l,h2.len⟩
  rw [if_neg h6]
  by_cases h7 : o.k = 7
  · rw [if_pos h7]; exact h1
  rw [if_neg h7]
  by_cases h8 : o.k = 8
  · rw [if_pos h8]; exact ⟨h2.p,h2.l,h2.len⟩
  rw [if_neg h8]; exact h2
end Go.Proofs.YtehmblcbccceaaaGreat
