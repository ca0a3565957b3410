import Derived.Test.YtehmblcbccceaaaGreatLScBase
import Derived.Test.YtehmblcbccceaaaGreatLSdf
import Derived.Deep.Slices
import Derived.SizedLaws
namespace Go.Proofs.YtehmblcbccceaaaGreat
open Go.RowKit Go.ChangeShapes Go.WideShapes Go.ChangeAt Go.Deep pxm imm
section
variable {H : Type} {enc : TypeId × Value → H} {w : World} {base : Nat} {held : Bool} {k : Nat}
theorem px_cell {x : Value} {y : DataW H × List MemPlace} (h : DataW.trod enc Tryz.prog w base (fun _ => true) held k 60 [x] = some y) : ∃ (A : Option Addr) (l : List Nat) (c : Nat),x = .slice A l.length c ∧ Row eW w A l ∧ l.length ≤ c ∧ c ≤ maxLen ∧ ∀ z ∈ l,z < 4294967296 := by
 rcases open_ints Tryz.underlying60 Tryz.underlying59 (by kernel_rfl) h with ⟨hcs,_⟩ | ⟨a,l,c,zs,hcs,_,hl,hm,hz,_,hcell,hwz⟩
 ·obtain rfl := List.singleton_inj.1 hcs
  exact ⟨none,[],0,rfl,Row.none_ rfl,Nat.le_refl _,by unfold maxLen; omega,fun z hz => by cases hz⟩
 ·obtain rfl := List.singleton_inj.1 hcs
  have hzl : zs.length = c := by simpa using hz
  have hb : ∀ z ∈ zs,0 ≤ z ∧ z ≤ 4294967295 := fun z hz => bounds_u32 (hwz z hz)
  have hll : ((zs.take l).map Int.toNat).length = l := by simp; omega
  refine ⟨some a,(zs.take l).map Int.toNat,c,by rw [hll],fun hn => ?_,by rw [hll]; exact hl,hm,fun z hz => ?_⟩
  ·rw [hll] at hn
   obtain ⟨b,off,spot⟩ := a
   have h0 := hcell 0 (by omega)
   have hspot : spot = none := by simpa [Addr.add] using World.cell?_spot h0
   subst hspot
   refine ⟨b,off,rfl,fun j hj => ?_⟩
   rw [hll] at hj
   have hc := hcell j (by omega)
   rw [add_none] at hc
   rw [hc]
   have hj' : j < zs.length := by omega
   have h3 := hb zs[j] (List.getElem_mem hj')
   simp only [List.getElem_map,List.getElem_take,List.getD_eq_getElem?_getD,List.getElem?_eq_getElem hj',Option.getD_some,eW,Option.some.injEq,Value.int.injEq,true_and]
   omega
  ·simp only [List.mem_map] at hz
   obtain ⟨y,hy,rfl⟩ := hz
   have := hb y (List.mem_of_mem_take hy)
   omega
set_option maxRecDepth 100000 in
theorem image_cells {cs : List Value} {y : DataW H × List MemPlace} (hc : cs.length = 3) (h : DataW.trod enc Tryz.prog w base (fun _ => true) held k 62 cs = some y) : ∃ (iw ih : Int) (A : Option Addr) (l : List Nat) (c : Nat),cs = [.int .i64 iw,.int .i64 ih,.slice A l.length c] ∧ Row eW w A l ∧ l.length ≤ c ∧ c ≤ maxLen ∧ ∀ z ∈ l,z < 4294967296 := by
 obtain ⟨c0,c1,c2,rfl⟩ : ∃ c0 c1 c2,cs = [c0,c1,c2] := by
  match cs,hc with
  | [c0,c1,c2],_ => exact ⟨_,_,_,rfl⟩
 obtain ⟨d,p⟩ := y
 obtain ⟨ys,n',_,hy,hlen,hyl,hfl⟩ := DataW.trod_struct Tryz.underlying62 h
 have hyl2 : ys.length = 3 := hyl
 have z0 : Tryz.prog.cellsOf 3 = 1 := by kernel_rfl
 have g0 : DataW.trod enc Tryz.prog w base (fun _ => true) held n' 3 ((([c0,c1,c2] : List Value).drop 0).take (Tryz.prog.cellsOf 3)) = ys[0]? := hfl 0 _ rfl
 rw [z0] at g0; try simp only [List.drop_zero,List.take_succ_cons,List.take_zero] at g0
 rw [List.getElem?_eq_getElem (by omega)] at g0
 have z1 : Tryz.prog.cellsOf 3 = 1 := by kernel_rfl
 have g1 : DataW.trod enc Tryz.prog w base (fun _ => true) held n' 3 ((([c0,c1,c2] : List Value).drop 1).take (Tryz.prog.cellsOf 3)) = ys[1]? := hfl 1 _ rfl
 rw [z1] at g1; try simp only [List.drop_succ_cons,List.drop_zero,List.take_succ_cons,List.take_zero] at g1
 rw [List.getElem?_eq_getElem (by omega)] at g1
 have z2 : Tryz.prog.cellsOf 60 = 1 := by kernel_rfl
 have g2 : DataW.trod enc Tryz.prog w base (fun _ => true) held n' 60 ((([c0,c1,c2] : List Value).drop 2).take (Tryz.prog.cellsOf 60)) = ys[2]? := hfl 2 _ rfl
 rw [z2] at g2; try simp only [List.drop_succ_cons,List.drop_zero,List.take_succ_cons,List.take_zero] at g2
 rw [List.getElem?_eq_getElem (by omega)] at g2
 obtain ⟨x0,e0,-,w0⟩ := DataW.trod_int Tryz.underlying3 g0
 obtain rfl := List.singleton_inj.1 e0
 obtain ⟨x1,e1,-,w1⟩ := DataW.trod_int Tryz.underlying3 g1
 obtain rfl := List.singleton_inj.1 e1
 obtain ⟨A,l,c,rfl,r1,r2,r3,r4⟩ := px_cell g2
 exact ⟨x0,x1,A,l,c,rfl,r1,r2,r3,r4⟩
set_option maxRecDepth 100000 in
theorem look_cells {cs : List Value} {y : DataW H × List MemPlace} (hc : cs.length = 7) (h : DataW.trod enc Tryz.prog w base (fun _ => true) held k 64 cs = some y) : ∃ (kk WW HH : Int) (pp : Nat) (iw ih : Int) (A : Option Addr) (l : List Nat) (c : Nat),cs = [.int .i64 kk,.int .i64 WW,.int .i64 HH,.int .u32 (pp : Nat),.int .i64 iw,.int .i64 ih,.slice A l.length c] ∧ pp < 4294967296 ∧ Row eW w A l ∧ l.length ≤ c ∧ c ≤ maxLen ∧ ∀ z ∈ l,z < 4294967296 := by
 obtain ⟨c0,c1,c2,c3,c4,c5,c6,rfl⟩ : ∃ c0 c1 c2 c3 c4 c5 c6,cs = [c0,c1,c2,c3,c4,c5,c6] := by
  match cs,hc with
  | [c0,c1,c2,c3,c4,c5,c6],_ => exact ⟨_,_,_,_,_,_,_,rfl⟩
 obtain ⟨d,p⟩ := y
 obtain ⟨ys,n',_,hy,hlen,hyl,hfl⟩ := DataW.trod_struct Tryz.underlying64 h
 have hyl2 : ys.length = 5 := hyl
 have z0 : Tryz.prog.cellsOf 3 = 1 := by kernel_rfl
 have g0 : DataW.trod enc Tryz.prog w base (fun _ => true) held n' 3 ((([c0,c1,c2,c3,c4,c5,c6] : List Value).drop 0).take (Tryz.prog.cellsOf 3)) = ys[0]? := hfl 0 _ rfl
 rw [z0] at g0; try simp only [List.drop_zero,List.take_succ_cons,List.take_zero] at g0
 rw [List.getElem?_eq_getElem (by omega)] at g0
 have z1 : Tryz.prog.cellsOf 3 = 1 := by kernel_rfl
 have g1 : DataW.trod enc Tryz.prog w base (fun _ => true) held n' 3 ((([c0,c1,c2,c3,c4,c5,c6] : List Value).drop 1).take (Tryz.prog.cellsOf 3)) = ys[1]? := hfl 1 _ rfl
 rw [z1] at g1; try simp only [List.drop_succ_cons,List.drop_zero,List.take_succ_cons,List.take_zero] at g1
 rw [List.getElem?_eq_getElem (by omega)] at g1
 have z2 : Tryz.prog.cellsOf 3 = 1 := by kernel_rfl
 have g2 : DataW.trod enc Tryz.prog w base (fun _ => true) held n' 3 ((([c0,c1,c2,c3,c4,c5,c6] : List Value).drop 2).take (Tryz.prog.cellsOf 3)) = ys[2]? := hfl 2 _ rfl
 rw [z2] at g2; try simp only [List.drop_succ_cons,List.drop_zero,List.take_succ_cons,List.take_zero] at g2
 rw [List.getElem?_eq_getElem (by omega)] at g2
 have z3 : Tryz.prog.cellsOf 59 = 1 := by kernel_rfl
 have g3 : DataW.trod enc Tryz.prog w base (fun _ => true) held n' 59 ((([c0,c1,c2,c3,c4,c5,c6] : List Value).drop 3).take (Tryz.prog.cellsOf 59)) = ys[3]? := hfl 3 _ rfl
 rw [z3] at g3; try simp only [List.drop_succ_cons,List.drop_zero,List.take_succ_cons,List.take_zero] at g3
 rw [List.getElem?_eq_getElem (by omega)] at g3
 have z4 : Tryz.prog.cellsOf 62 = 3 := by kernel_rfl
 have g4 : DataW.trod enc Tryz.prog w base (fun _ => true) held n' 62 ((([c0,c1,c2,c3,c4,c5,c6] : List Value).drop 4).take (Tryz.prog.cellsOf 62)) = ys[4]? := hfl 4 _ rfl
 rw [z4] at g4; try simp only [List.drop_succ_cons,List.drop_zero,List.take_succ_cons,List.take_zero] at g4
 rw [List.getElem?_eq_getElem (by omega)] at g4
 obtain ⟨x0,e0,-,w0⟩ := DataW.trod_int Tryz.underlying3 g0
 obtain rfl := List.singleton_inj.1 e0
 obtain ⟨x1,e1,-,w1⟩ := DataW.trod_int Tryz.underlying3 g1
 obtain rfl := List.singleton_inj.1 e1
 obtain ⟨x2,e2,-,w2⟩ := DataW.trod_int Tryz.underlying3 g2
 obtain rfl := List.singleton_inj.1 e2
 obtain ⟨x3,e3,-,w3⟩ := DataW.trod_int Tryz.underlying59 g3
 obtain rfl := List.singleton_inj.1 e3
 have b3 := bounds_u32 w3
 obtain ⟨iw,ih,A,l,c,ei,r1,r2,r3,r4⟩ := image_cells rfl g4
 simp only [List.cons.injEq,and_true] at ei
 obtain ⟨rfl,rfl,rfl⟩ := ei
 obtain ⟨pp,rfl⟩ : ∃ pp : Nat,x3 = (pp : Nat) := ⟨x3.toNat,by omega⟩
 exact ⟨x0,x1,x2,pp,iw,ih,A,l,c,rfl,by omega,r1,r2,r3,r4⟩
structure TrRaw (w : World) (A : Option Addr) (L : List OpL) : Prop where
 row : SRow 1 OpL.cs w A L
 ops : ∀ q ∈ L,OpsR w q.A q.l
end
section
variable {H : Type} {enc : TypeId × Value → H} {w : World} {base : Nat} {held : Bool} {a : Option Addr} {n c : Nat} {d : DataW H} {p : List MemPlace}
end
section
variable {H : Type} {enc : TypeId × Value → H} {w : World} {base b0 : Nat} {held : Bool} {r : Reach} {v : Value} {d : DataW H} {p : List MemPlace}
set_option maxRecDepth 100000 in
theorem look_of (hv : Value.okWide Tryz.prog w r b0 64 v) (h : DataW.Trod enc Tryz.prog w base (fun _ => true) held 64 v d p) :
  ∃ (q : Lk) (A : Option Addr) (c : Nat),v = .agg (q.cs A c).toArray ∧ q.p < 4294967296 ∧ Row eW w A q.l ∧ (q.l.length ≤ c ∧ c ≤ maxLen) ∧ ∀ z ∈ q.l,z < 4294967296 := by
 obtain ⟨cs,rfl,hsz⟩ := okWide_struct Tryz.underlying64 hv
 obtain ⟨fuel,hf⟩ := h
 have hl : cs.toList.length = 7 := by rw [Array.length_toList,hsz]; kernel_rfl
 obtain ⟨kk,WW,HH,pp,iw,ih,A,l,c,e,h1,h2,h3,h4,h5⟩ := look_cells hl hf
 exact ⟨⟨kk,WW,HH,pp,iw,ih,l⟩,A,c,by rw [← Array.toArray_toList (xs := cs),e]; rfl,h1,h2,⟨h3,h4⟩,h5⟩
end
section
variable {H : Type} {ts : List TypeId} {ds : List (DataW H)}
end
end Go.Proofs.YtehmblcbccceaaaGreat
