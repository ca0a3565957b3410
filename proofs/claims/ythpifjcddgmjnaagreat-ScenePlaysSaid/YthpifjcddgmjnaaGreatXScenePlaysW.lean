import Derived.Test.YthpifjcddgmjnaaGreatXScBase
import Derived.Deep.Slices
import Derived.SizedLaws
set_option maxHeartbeats 16000000
set_option maxRecDepth 100000
namespace Go.Proofs.YthpifjcddgmjnaaGreat
section
open Go.RowKit Go.ChangeShapes Go.WideShapes Go.ChangeAt Go.Deep pxm imm
section
variable {H:Type} {enc:TypeId×Value->H} {w:World} {base:Nat} {held:Bool} {k:Nat}
theorem px_cell {x:Value} {y:DataW H×List MemPlace} (h:DataW.trod enc Tryz.prog w base (fun _=>true) held k 60 [x]=some y):∃ (A:Option Addr) (l:List Nat) (c:Nat),x=.slice A l.length c∧Row eW w A l∧l.length<=c∧c<=maxLen∧∀ z∈l,z<4294967296:=by
 rcases open_ints Tryz.underlying60 Tryz.underlying59 (by kernel_rfl) h with ⟨hcs,_⟩ | ⟨a,l,c,zs,hcs,_,hl,hm,hz,_,hcell,hwz⟩
 ·obtain rfl:=List.singleton_inj.1 hcs;exact ⟨none,[],0,rfl,Row.none_ rfl,Nat.le_refl _,by unfold maxLen;omega,fun z hz=>by cases hz⟩
 ·obtain rfl:=List.singleton_inj.1 hcs;have hzl:zs.length=c:=by simpa using hz
  have hb:∀ z∈zs,0<=z∧z<=4294967295:=fun z hz=>bounds_u32 (hwz z hz);have hll:((zs.take l).map Int.toNat).length=l:=by simp;omega
  refine ⟨some a,(zs.take l).map Int.toNat,c,by rw [hll],fun hn=>?_,by rw [hll];exact hl,hm,fun z hz=>?_⟩
  ·rw [hll] at hn;obtain ⟨b,off,spot⟩:=a;have h0:=hcell 0 (by omega);have hspot:spot=none:=by simpa [Addr.add] using World.cell?_spot h0
   subst hspot;refine ⟨b,off,rfl,fun j hj=>?_⟩;rw [hll] at hj;have hc:=hcell j (by omega);rw [add_none] at hc;rw [hc];have hj':j<zs.length:=by omega
   have h3:=hb zs[j] (List.getElem_mem hj');simp only [List.getElem_map,List.getElem_take,List.getD_eq_getElem?_getD,List.getElem?_eq_getElem hj',Option.getD_some,eW,Option.some.injEq,Value.int.injEq,true_and];omega
  ·simp only [List.mem_map] at hz;obtain ⟨y,hy,rfl⟩:=hz;have:=hb y (List.mem_of_mem_take hy);omega
theorem map_cells {cs:List Value} {y:DataW H×List MemPlace} (hc:cs.length=6) (h:DataW.trod enc Tryz.prog w base (fun _=>true) held k 68 cs=some y):∃ m:Mp,cs=m.cs:=by
 obtain ⟨c0,c1,c2,c3,c4,c5,rfl⟩:∃ c0 c1 c2 c3 c4 c5,cs=[c0,c1,c2,c3,c4,c5]:=by
  match cs,hc with
  | [c0,c1,c2,c3,c4,c5],_=>exact ⟨_,_,_,_,_,_,rfl⟩
 obtain ⟨d,p⟩:=y;obtain ⟨ys,n',_,hy,hlen,hyl,hfl⟩:=DataW.trod_struct Tryz.underlying68 h;have hyl2:ys.length=6:=hyl;have z0:Tryz.prog.cellsOf 2=1:=by kernel_rfl
 have g0:DataW.trod enc Tryz.prog w base (fun _=>true) held n' 2 ((([c0,c1,c2,c3,c4,c5]:List Value).drop 0).take (Tryz.prog.cellsOf 2))=ys[0]?:=hfl 0 _ rfl;rw [z0] at g0;try simp only [List.drop_zero,List.take_succ_cons,List.take_zero] at g0
 rw [List.getElem?_eq_getElem (by omega)] at g0;have z1:Tryz.prog.cellsOf 2=1:=by kernel_rfl
 have g1:DataW.trod enc Tryz.prog w base (fun _=>true) held n' 2 ((([c0,c1,c2,c3,c4,c5]:List Value).drop 1).take (Tryz.prog.cellsOf 2))=ys[1]?:=hfl 1 _ rfl;rw [z1] at g1;try simp only [List.drop_succ_cons,List.drop_zero,List.take_succ_cons,List.take_zero] at g1
 rw [List.getElem?_eq_getElem (by omega)] at g1;have z2:Tryz.prog.cellsOf 2=1:=by kernel_rfl
 have g2:DataW.trod enc Tryz.prog w base (fun _=>true) held n' 2 ((([c0,c1,c2,c3,c4,c5]:List Value).drop 2).take (Tryz.prog.cellsOf 2))=ys[2]?:=hfl 2 _ rfl;rw [z2] at g2;try simp only [List.drop_succ_cons,List.drop_zero,List.take_succ_cons,List.take_zero] at g2
 rw [List.getElem?_eq_getElem (by omega)] at g2;have z3:Tryz.prog.cellsOf 2=1:=by kernel_rfl
 have g3:DataW.trod enc Tryz.prog w base (fun _=>true) held n' 2 ((([c0,c1,c2,c3,c4,c5]:List Value).drop 3).take (Tryz.prog.cellsOf 2))=ys[3]?:=hfl 3 _ rfl;rw [z3] at g3;try simp only [List.drop_succ_cons,List.drop_zero,List.take_succ_cons,List.take_zero] at g3
 rw [List.getElem?_eq_getElem (by omega)] at g3;have z4:Tryz.prog.cellsOf 2=1:=by kernel_rfl
 have g4:DataW.trod enc Tryz.prog w base (fun _=>true) held n' 2 ((([c0,c1,c2,c3,c4,c5]:List Value).drop 4).take (Tryz.prog.cellsOf 2))=ys[4]?:=hfl 4 _ rfl;rw [z4] at g4;try simp only [List.drop_succ_cons,List.drop_zero,List.take_succ_cons,List.take_zero] at g4
 rw [List.getElem?_eq_getElem (by omega)] at g4;have z5:Tryz.prog.cellsOf 2=1:=by kernel_rfl
 have g5:DataW.trod enc Tryz.prog w base (fun _=>true) held n' 2 ((([c0,c1,c2,c3,c4,c5]:List Value).drop 5).take (Tryz.prog.cellsOf 2))=ys[5]?:=hfl 5 _ rfl;rw [z5] at g5;try simp only [List.drop_succ_cons,List.drop_zero,List.take_succ_cons,List.take_zero] at g5
 rw [List.getElem?_eq_getElem (by omega)] at g5;obtain ⟨x0,e0,-,w0⟩:=DataW.trod_int Tryz.underlying2 g0;obtain rfl:=List.singleton_inj.1 e0;obtain ⟨x1,e1,-,w1⟩:=DataW.trod_int Tryz.underlying2 g1;obtain rfl:=List.singleton_inj.1 e1;obtain ⟨x2,e2,-,w2⟩:=DataW.trod_int Tryz.underlying2 g2;obtain rfl:=List.singleton_inj.1 e2;obtain ⟨x3,e3,-,w3⟩:=DataW.trod_int Tryz.underlying2 g3;obtain rfl:=List.singleton_inj.1 e3;obtain ⟨x4,e4,-,w4⟩:=DataW.trod_int Tryz.underlying2 g4;obtain rfl:=List.singleton_inj.1 e4;obtain ⟨x5,e5,-,w5⟩:=DataW.trod_int Tryz.underlying2 g5;obtain rfl:=List.singleton_inj.1 e5
 exact ⟨⟨x0,x1,x2,x3,x4,x5⟩,rfl⟩
theorem rect_cells {cs:List Value} {y:DataW H×List MemPlace} (hc:cs.length=4) (h:DataW.trod enc Tryz.prog w base (fun _=>true) held k 70 cs=some y):∃ m:Bx,cs=m.cs:=by
 obtain ⟨c0,c1,c2,c3,rfl⟩:∃ c0 c1 c2 c3,cs=[c0,c1,c2,c3]:=by
  match cs,hc with
  | [c0,c1,c2,c3],_=>exact ⟨_,_,_,_,rfl⟩
 obtain ⟨d,p⟩:=y;obtain ⟨ys,n',_,hy,hlen,hyl,hfl⟩:=DataW.trod_struct Tryz.underlying70 h;have hyl2:ys.length=4:=hyl;have z0:Tryz.prog.cellsOf 3=1:=by kernel_rfl
 have g0:DataW.trod enc Tryz.prog w base (fun _=>true) held n' 3 ((([c0,c1,c2,c3]:List Value).drop 0).take (Tryz.prog.cellsOf 3))=ys[0]?:=hfl 0 _ rfl;rw [z0] at g0;try simp only [List.drop_zero,List.take_succ_cons,List.take_zero] at g0
 rw [List.getElem?_eq_getElem (by omega)] at g0;have z1:Tryz.prog.cellsOf 3=1:=by kernel_rfl
 have g1:DataW.trod enc Tryz.prog w base (fun _=>true) held n' 3 ((([c0,c1,c2,c3]:List Value).drop 1).take (Tryz.prog.cellsOf 3))=ys[1]?:=hfl 1 _ rfl;rw [z1] at g1;try simp only [List.drop_succ_cons,List.drop_zero,List.take_succ_cons,List.take_zero] at g1
 rw [List.getElem?_eq_getElem (by omega)] at g1;have z2:Tryz.prog.cellsOf 3=1:=by kernel_rfl
 have g2:DataW.trod enc Tryz.prog w base (fun _=>true) held n' 3 ((([c0,c1,c2,c3]:List Value).drop 2).take (Tryz.prog.cellsOf 3))=ys[2]?:=hfl 2 _ rfl;rw [z2] at g2;try simp only [List.drop_succ_cons,List.drop_zero,List.take_succ_cons,List.take_zero] at g2
 rw [List.getElem?_eq_getElem (by omega)] at g2;have z3:Tryz.prog.cellsOf 3=1:=by kernel_rfl
 have g3:DataW.trod enc Tryz.prog w base (fun _=>true) held n' 3 ((([c0,c1,c2,c3]:List Value).drop 3).take (Tryz.prog.cellsOf 3))=ys[3]?:=hfl 3 _ rfl;rw [z3] at g3;try simp only [List.drop_succ_cons,List.drop_zero,List.take_succ_cons,List.take_zero] at g3
 rw [List.getElem?_eq_getElem (by omega)] at g3;obtain ⟨x0,e0,-,w0⟩:=DataW.trod_int Tryz.underlying3 g0;obtain rfl:=List.singleton_inj.1 e0;obtain ⟨x1,e1,-,w1⟩:=DataW.trod_int Tryz.underlying3 g1;obtain rfl:=List.singleton_inj.1 e1;obtain ⟨x2,e2,-,w2⟩:=DataW.trod_int Tryz.underlying3 g2;obtain rfl:=List.singleton_inj.1 e2;obtain ⟨x3,e3,-,w3⟩:=DataW.trod_int Tryz.underlying3 g3;obtain rfl:=List.singleton_inj.1 e3;exact ⟨⟨x0,x1,x2,x3⟩,rfl⟩
theorem image_cells {cs:List Value} {y:DataW H×List MemPlace} (hc:cs.length=3) (h:DataW.trod enc Tryz.prog w base (fun _=>true) held k 62 cs=some y):∃ (iw ih:Int) (A:Option Addr) (l:List Nat) (c:Nat),cs=(Vo iw ih A l.length c)∧Row eW w A l∧l.length<=c∧c<=maxLen∧∀ z∈l,z<4294967296:=by
 obtain ⟨c0,c1,c2,rfl⟩:∃ c0 c1 c2,cs=[c0,c1,c2]:=by
  match cs,hc with
  | [c0,c1,c2],_=>exact ⟨_,_,_,rfl⟩
 obtain ⟨d,p⟩:=y;obtain ⟨ys,n',_,hy,hlen,hyl,hfl⟩:=DataW.trod_struct Tryz.underlying62 h;have hyl2:ys.length=3:=hyl;have z0:Tryz.prog.cellsOf 3=1:=by kernel_rfl
 have g0:DataW.trod enc Tryz.prog w base (fun _=>true) held n' 3 ((([c0,c1,c2]:List Value).drop 0).take (Tryz.prog.cellsOf 3))=ys[0]?:=hfl 0 _ rfl;rw [z0] at g0;try simp only [List.drop_zero,List.take_succ_cons,List.take_zero] at g0
 rw [List.getElem?_eq_getElem (by omega)] at g0;have z1:Tryz.prog.cellsOf 3=1:=by kernel_rfl
 have g1:DataW.trod enc Tryz.prog w base (fun _=>true) held n' 3 ((([c0,c1,c2]:List Value).drop 1).take (Tryz.prog.cellsOf 3))=ys[1]?:=hfl 1 _ rfl;rw [z1] at g1;try simp only [List.drop_succ_cons,List.drop_zero,List.take_succ_cons,List.take_zero] at g1
 rw [List.getElem?_eq_getElem (by omega)] at g1;have z2:Tryz.prog.cellsOf 60=1:=by kernel_rfl
 have g2:DataW.trod enc Tryz.prog w base (fun _=>true) held n' 60 ((([c0,c1,c2]:List Value).drop 2).take (Tryz.prog.cellsOf 60))=ys[2]?:=hfl 2 _ rfl;rw [z2] at g2;try simp only [List.drop_succ_cons,List.drop_zero,List.take_succ_cons,List.take_zero] at g2
 rw [List.getElem?_eq_getElem (by omega)] at g2;obtain ⟨x0,e0,-,w0⟩:=DataW.trod_int Tryz.underlying3 g0;obtain rfl:=List.singleton_inj.1 e0;obtain ⟨x1,e1,-,w1⟩:=DataW.trod_int Tryz.underlying3 g1;obtain rfl:=List.singleton_inj.1 e1;obtain ⟨A,l,c,rfl,r1,r2,r3,r4⟩:=px_cell g2;exact ⟨x0,x1,A,l,c,rfl,r1,r2,r3,r4⟩
theorem look_cells {cs:List Value} {y:DataW H×List MemPlace} (hc:cs.length=7) (h:DataW.trod enc Tryz.prog w base (fun _=>true) held k 64 cs=some y):∃ (kk WW HH:Int) (pp:Nat) (iw ih:Int) (A:Option Addr) (l:List Nat) (c:Nat),cs=(Vj kk WW HH pp iw ih A l.length c)∧pp<4294967296∧Row eW w A l∧l.length<=c∧c<=maxLen∧∀ z∈l,z<4294967296:=by
 obtain ⟨c0,c1,c2,c3,c4,c5,c6,rfl⟩:∃ c0 c1 c2 c3 c4 c5 c6,cs=[c0,c1,c2,c3,c4,c5,c6]:=by
  match cs,hc with
  | [c0,c1,c2,c3,c4,c5,c6],_=>exact ⟨_,_,_,_,_,_,_,rfl⟩
 obtain ⟨d,p⟩:=y;obtain ⟨ys,n',_,hy,hlen,hyl,hfl⟩:=DataW.trod_struct Tryz.underlying64 h;have hyl2:ys.length=5:=hyl;have z0:Tryz.prog.cellsOf 3=1:=by kernel_rfl
 have g0:DataW.trod enc Tryz.prog w base (fun _=>true) held n' 3 ((([c0,c1,c2,c3,c4,c5,c6]:List Value).drop 0).take (Tryz.prog.cellsOf 3))=ys[0]?:=hfl 0 _ rfl;rw [z0] at g0;try simp only [List.drop_zero,List.take_succ_cons,List.take_zero] at g0
 rw [List.getElem?_eq_getElem (by omega)] at g0;have z1:Tryz.prog.cellsOf 3=1:=by kernel_rfl
 have g1:DataW.trod enc Tryz.prog w base (fun _=>true) held n' 3 ((([c0,c1,c2,c3,c4,c5,c6]:List Value).drop 1).take (Tryz.prog.cellsOf 3))=ys[1]?:=hfl 1 _ rfl;rw [z1] at g1;try simp only [List.drop_succ_cons,List.drop_zero,List.take_succ_cons,List.take_zero] at g1
 rw [List.getElem?_eq_getElem (by omega)] at g1;have z2:Tryz.prog.cellsOf 3=1:=by kernel_rfl
 have g2:DataW.trod enc Tryz.prog w base (fun _=>true) held n' 3 ((([c0,c1,c2,c3,c4,c5,c6]:List Value).drop 2).take (Tryz.prog.cellsOf 3))=ys[2]?:=hfl 2 _ rfl;rw [z2] at g2;try simp only [List.drop_succ_cons,List.drop_zero,List.take_succ_cons,List.take_zero] at g2
 rw [List.getElem?_eq_getElem (by omega)] at g2;have z3:Tryz.prog.cellsOf 59=1:=by kernel_rfl
 have g3:DataW.trod enc Tryz.prog w base (fun _=>true) held n' 59 ((([c0,c1,c2,c3,c4,c5,c6]:List Value).drop 3).take (Tryz.prog.cellsOf 59))=ys[3]?:=hfl 3 _ rfl;rw [z3] at g3;try simp only [List.drop_succ_cons,List.drop_zero,List.take_succ_cons,List.take_zero] at g3
 rw [List.getElem?_eq_getElem (by omega)] at g3;have z4:Tryz.prog.cellsOf 62=3:=by kernel_rfl
 have g4:DataW.trod enc Tryz.prog w base (fun _=>true) held n' 62 ((([c0,c1,c2,c3,c4,c5,c6]:List Value).drop 4).take (Tryz.prog.cellsOf 62))=ys[4]?:=hfl 4 _ rfl;rw [z4] at g4;try simp only [List.drop_succ_cons,List.drop_zero,List.take_succ_cons,List.take_zero] at g4
 rw [List.getElem?_eq_getElem (by omega)] at g4;obtain ⟨x0,e0,-,w0⟩:=DataW.trod_int Tryz.underlying3 g0;obtain rfl:=List.singleton_inj.1 e0;obtain ⟨x1,e1,-,w1⟩:=DataW.trod_int Tryz.underlying3 g1;obtain rfl:=List.singleton_inj.1 e1;obtain ⟨x2,e2,-,w2⟩:=DataW.trod_int Tryz.underlying3 g2;obtain rfl:=List.singleton_inj.1 e2;obtain ⟨x3,e3,-,w3⟩:=DataW.trod_int Tryz.underlying59 g3;obtain rfl:=List.singleton_inj.1 e3;have b3:=bounds_u32 w3;obtain ⟨iw,ih,A,l,c,ei,r1,r2,r3,r4⟩:=image_cells rfl g4;simp only [List.cons.injEq,and_true] at ei;obtain ⟨rfl,rfl,rfl⟩:=ei
 obtain ⟨pp,rfl⟩:∃ pp:Nat,x3=(pp:Nat):=⟨x3.toNat,by omega⟩
 exact ⟨x0,x1,x2,pp,iw,ih,A,l,c,rfl,by omega,r1,r2,r3,r4⟩
theorem op_cells {cs:List Value} {y:DataW H×List MemPlace} (hc:cs.length=23) (h:DataW.trod enc Tryz.prog w base (fun _=>true) held k 77 cs=some y):∃ q:OpR,cs=q.cs∧Row eW w q.A q.o.lk.l∧OpRaw q.o:=by
 obtain ⟨c0,c1,c2,c3,c4,c5,c6,c7,c8,c9,c10,c11,c12,c13,c14,c15,c16,c17,c18,c19,c20,c21,c22,rfl⟩:∃ c0 c1 c2 c3 c4 c5 c6 c7 c8 c9 c10 c11 c12 c13 c14 c15 c16 c17 c18 c19 c20 c21 c22,cs=[c0,c1,c2,c3,c4,c5,c6,c7,c8,c9,c10,c11,c12,c13,c14,c15,c16,c17,c18,c19,c20,c21,c22]:=by
  match cs,hc with
  | [c0,c1,c2,c3,c4,c5,c6,c7,c8,c9,c10,c11,c12,c13,c14,c15,c16,c17,c18,c19,c20,c21,c22],_=>exact ⟨_,_,_,_,_,_,_,_,_,_,_,_,_,_,_,_,_,_,_,_,_,_,_,rfl⟩
 obtain ⟨d,p⟩:=y;obtain ⟨ys,n',_,hy,hlen,hyl,hfl⟩:=DataW.trod_struct Tryz.underlying77 h;have hyl2:ys.length=9:=hyl;have z0:Tryz.prog.cellsOf 3=1:=by kernel_rfl
 have g0:DataW.trod enc Tryz.prog w base (fun _=>true) held n' 3 ((([c0,c1,c2,c3,c4,c5,c6,c7,c8,c9,c10,c11,c12,c13,c14,c15,c16,c17,c18,c19,c20,c21,c22]:List Value).drop 0).take (Tryz.prog.cellsOf 3))=ys[0]?:=hfl 0 _ rfl;rw [z0] at g0;try simp only [List.drop_zero,List.take_succ_cons,List.take_zero] at g0
 rw [List.getElem?_eq_getElem (by omega)] at g0;have z1:Tryz.prog.cellsOf 3=1:=by kernel_rfl
 have g1:DataW.trod enc Tryz.prog w base (fun _=>true) held n' 3 ((([c0,c1,c2,c3,c4,c5,c6,c7,c8,c9,c10,c11,c12,c13,c14,c15,c16,c17,c18,c19,c20,c21,c22]:List Value).drop 1).take (Tryz.prog.cellsOf 3))=ys[1]?:=hfl 1 _ rfl;rw [z1] at g1;try simp only [List.drop_succ_cons,List.drop_zero,List.take_succ_cons,List.take_zero] at g1
 rw [List.getElem?_eq_getElem (by omega)] at g1;have z2:Tryz.prog.cellsOf 3=1:=by kernel_rfl
 have g2:DataW.trod enc Tryz.prog w base (fun _=>true) held n' 3 ((([c0,c1,c2,c3,c4,c5,c6,c7,c8,c9,c10,c11,c12,c13,c14,c15,c16,c17,c18,c19,c20,c21,c22]:List Value).drop 2).take (Tryz.prog.cellsOf 3))=ys[2]?:=hfl 2 _ rfl;rw [z2] at g2;try simp only [List.drop_succ_cons,List.drop_zero,List.take_succ_cons,List.take_zero] at g2
 rw [List.getElem?_eq_getElem (by omega)] at g2;have z3:Tryz.prog.cellsOf 3=1:=by kernel_rfl
 have g3:DataW.trod enc Tryz.prog w base (fun _=>true) held n' 3 ((([c0,c1,c2,c3,c4,c5,c6,c7,c8,c9,c10,c11,c12,c13,c14,c15,c16,c17,c18,c19,c20,c21,c22]:List Value).drop 3).take (Tryz.prog.cellsOf 3))=ys[3]?:=hfl 3 _ rfl;rw [z3] at g3;try simp only [List.drop_succ_cons,List.drop_zero,List.take_succ_cons,List.take_zero] at g3
 rw [List.getElem?_eq_getElem (by omega)] at g3;have z4:Tryz.prog.cellsOf 68=6:=by kernel_rfl
 have g4:DataW.trod enc Tryz.prog w base (fun _=>true) held n' 68 ((([c0,c1,c2,c3,c4,c5,c6,c7,c8,c9,c10,c11,c12,c13,c14,c15,c16,c17,c18,c19,c20,c21,c22]:List Value).drop 4).take (Tryz.prog.cellsOf 68))=ys[4]?:=hfl 4 _ rfl;rw [z4] at g4;try simp only [List.drop_succ_cons,List.drop_zero,List.take_succ_cons,List.take_zero] at g4
 rw [List.getElem?_eq_getElem (by omega)] at g4;have z5:Tryz.prog.cellsOf 70=4:=by kernel_rfl
 have g5:DataW.trod enc Tryz.prog w base (fun _=>true) held n' 70 ((([c0,c1,c2,c3,c4,c5,c6,c7,c8,c9,c10,c11,c12,c13,c14,c15,c16,c17,c18,c19,c20,c21,c22]:List Value).drop 10).take (Tryz.prog.cellsOf 70))=ys[5]?:=hfl 5 _ rfl;rw [z5] at g5;try simp only [List.drop_succ_cons,List.drop_zero,List.take_succ_cons,List.take_zero] at g5
 rw [List.getElem?_eq_getElem (by omega)] at g5;have z6:Tryz.prog.cellsOf 4=1:=by kernel_rfl
 have g6:DataW.trod enc Tryz.prog w base (fun _=>true) held n' 4 ((([c0,c1,c2,c3,c4,c5,c6,c7,c8,c9,c10,c11,c12,c13,c14,c15,c16,c17,c18,c19,c20,c21,c22]:List Value).drop 14).take (Tryz.prog.cellsOf 4))=ys[6]?:=hfl 6 _ rfl;rw [z6] at g6;try simp only [List.drop_succ_cons,List.drop_zero,List.take_succ_cons,List.take_zero] at g6
 rw [List.getElem?_eq_getElem (by omega)] at g6;have z7:Tryz.prog.cellsOf 3=1:=by kernel_rfl
 have g7:DataW.trod enc Tryz.prog w base (fun _=>true) held n' 3 ((([c0,c1,c2,c3,c4,c5,c6,c7,c8,c9,c10,c11,c12,c13,c14,c15,c16,c17,c18,c19,c20,c21,c22]:List Value).drop 15).take (Tryz.prog.cellsOf 3))=ys[7]?:=hfl 7 _ rfl;rw [z7] at g7;try simp only [List.drop_succ_cons,List.drop_zero,List.take_succ_cons,List.take_zero] at g7
 rw [List.getElem?_eq_getElem (by omega)] at g7;have z8:Tryz.prog.cellsOf 64=7:=by kernel_rfl
 have g8:DataW.trod enc Tryz.prog w base (fun _=>true) held n' 64 ((([c0,c1,c2,c3,c4,c5,c6,c7,c8,c9,c10,c11,c12,c13,c14,c15,c16,c17,c18,c19,c20,c21,c22]:List Value).drop 16).take (Tryz.prog.cellsOf 64))=ys[8]?:=hfl 8 _ rfl;rw [z8] at g8;try simp only [List.drop_succ_cons,List.drop_zero,List.take_succ_cons,List.take_zero] at g8
 rw [List.getElem?_eq_getElem (by omega)] at g8;obtain ⟨x0,e0,-,w0⟩:=DataW.trod_int Tryz.underlying3 g0;obtain rfl:=List.singleton_inj.1 e0;obtain ⟨x1,e1,-,w1⟩:=DataW.trod_int Tryz.underlying3 g1;obtain rfl:=List.singleton_inj.1 e1;obtain ⟨x2,e2,-,w2⟩:=DataW.trod_int Tryz.underlying3 g2;obtain rfl:=List.singleton_inj.1 e2;obtain ⟨x3,e3,-,w3⟩:=DataW.trod_int Tryz.underlying3 g3;obtain rfl:=List.singleton_inj.1 e3;obtain ⟨x7,e7,-,w7⟩:=DataW.trod_int Tryz.underlying3 g7;obtain rfl:=List.singleton_inj.1 e7;obtain ⟨m,em⟩:=map_cells rfl g4;obtain ⟨r,er⟩:=rect_cells rfl g5
 obtain ⟨x6,e6,-⟩:=DataW.trod_bool Tryz.underlying4 g6;obtain rfl:=List.singleton_inj.1 e6;obtain ⟨kk,WW,HH,pp,iw,ih,A,l,c,el,hp,r1,r2,r3,r4⟩:=look_cells rfl g8;unfold Mp.cs at em;unfold Bx.cs at er;simp only [List.cons.injEq,and_true] at em er el;obtain ⟨rfl,rfl,rfl,rfl,rfl,rfl⟩:=em;obtain ⟨rfl,rfl,rfl,rfl⟩:=er;obtain ⟨rfl,rfl,rfl,rfl,rfl,rfl,rfl⟩:=el;exact ⟨⟨⟨x0,x1,x2,x3,m,r,x6,x7,⟨kk,WW,HH,pp,iw,ih,l⟩⟩,A,c⟩,rfl,r1,⟨bounds_i64 w1,bounds_i64 w2,hp,r4,Nat.le_trans r2 r3⟩⟩
def Held (d:DataW H) (n:Nat):Prop:=n=0∨∃ e s,d=.slice e s∧n<=e.length+s.length
theorem sops_cell {x:Value} {y:DataW H×List MemPlace} (h:DataW.trod enc Tryz.prog w base (fun _=>true) held k 38 [x]=some y):∃ (A:Option Addr) (l:List OpR) (cc:Nat),x=.slice A l.length cc∧OpsR w A l∧l.length<=maxLen∧Held y.1 l.length:=by
 rcases open_slice Tryz.underlying38 h with ⟨hcs,_⟩ | ⟨⟨b,off,spot⟩,n,c,m,k',D,Pl,hcs,_,hl,hm,hmm,hy,hi⟩
 ·obtain rfl:=List.singleton_inj.1 hcs;exact ⟨none,[],0,rfl,⟨fun h=>absurd h (by simp),fun z hz=>by cases hz⟩,by simp,.inl rfl⟩
 ·obtain rfl:=List.singleton_inj.1 hcs;simp only [if_true] at hmm;subst hmm;have hC:Tryz.prog.cellsOf 77=23:=by kernel_rfl
  have hsp:0<n->spot=none:=fun h0=>by
   obtain ⟨cs',hc,_⟩:=hi 0 (by omega);rw [hC] at hc;obtain ⟨_,hcl,hat⟩:=World.cells?_some hc;have a0:=hat 0 (by omega);rw [List.getElem?_eq_getElem (by omega)] at a0
   simpa [Addr.add] using World.cell?_spot a0
  have one:∀ i,i<n->∃ q:OpR,(∀ j v,q.cs[j]?=some v->w.cell? ⟨b,off+i*23+j,none⟩=some v)∧Row eW w q.A q.o.lk.l∧OpRaw q.o:=fun i hin=>by
   obtain ⟨cs',hc,ht⟩:=hi i (by omega);rw [hC] at hc;obtain ⟨_,hcl,hat⟩:=World.cells?_some hc;obtain ⟨q,rfl,hr,ho⟩:=op_cells hcl ht;have hspot:spot=none:=hsp (by omega);subst hspot;refine ⟨q,fun j v hj=>?_,hr,ho⟩
   have hlt:j<23:=by
    have:=(List.getElem?_eq_some_iff.1 hj).1
    rwa [OpR.cs_len] at this
   have a0:=hat j hlt;rw [hj,add_none,add_none] at a0;exact a0
  obtain ⟨xs,hxl,hxs⟩:=from_list one;refine ⟨some ⟨b,off,spot⟩,xs,m,by rw [hxl],⟨fun hn=>⟨b,off,by rw [hsp (by omega)],fun j hj i v hv=>(hxs j hj).1 i v hv⟩,fun q hq=>?_⟩,by omega,.inr ⟨_,_,by rw [hy],by simp;omega⟩⟩;obtain ⟨j,hj,rfl⟩:=List.mem_iff_getElem.1 hq;exact (hxs j hj).2
structure TrRaw (w:World) (A:Option Addr) (L:List OpL):Prop where
 row:SRow 1 OpL.cs w A L
 ops:∀ q∈L,OpsR w q.A q.l
theorem sopss_cell {x:Value} {y:DataW H×List MemPlace} (h:DataW.trod enc Tryz.prog w base (fun _=>true) held k 22 [x]=some y):∃ (A:Option Addr) (L:List OpL) (cc:Nat),x=.slice A L.length cc∧TrRaw w A L∧L.length<=maxLen ∧
  (L=[]∨∃ e s,y.1=.slice e s∧L.length<=e.length+s.length∧∀ q∈L,∃ d∈e,Held d q.l.length):=by
 rcases open_slice Tryz.underlying22 h with ⟨hcs,_⟩ | ⟨⟨b,off,spot⟩,n,c,m,k',D,Pl,hcs,_,hl,hm,hmm,hy,hi⟩
 ·obtain rfl:=List.singleton_inj.1 hcs;exact ⟨none,[],0,rfl,⟨fun h=>absurd h (by simp),fun z hz=>by cases hz⟩,by simp,.inl rfl⟩
 ·obtain rfl:=List.singleton_inj.1 hcs;simp only [if_true] at hmm;subst hmm;have hC:Tryz.prog.cellsOf 38=1:=by kernel_rfl
  have hsp:0<n->spot=none:=fun h0=>by
   obtain ⟨cs',hc,_⟩:=hi 0 (by omega);rw [hC] at hc;obtain ⟨_,hcl,hat⟩:=World.cells?_some hc;have a0:=hat 0 (by omega);rw [List.getElem?_eq_getElem (by omega)] at a0
   simpa [Addr.add] using World.cell?_spot a0
  have one:∀ i,i<n->∃ q:OpL,w.cell? ⟨b,off+i,none⟩=some (.slice q.A q.l.length q.c)∧OpsR w q.A q.l∧Held (D i) q.l.length:=fun i hin=>by
   obtain ⟨cs',hc,ht⟩:=hi i (by omega);rw [hC] at hc;obtain ⟨_,hcl,hat⟩:=World.cells?_some hc
   obtain ⟨c0,rfl⟩:∃ c0,cs'=[c0]:=by
    match cs',hcl with
    | [c0],_=>exact ⟨_,rfl⟩
   obtain ⟨A,l,cc,rfl,ho,_,hh⟩:=sops_cell ht;have hspot:spot=none:=hsp (by omega);subst hspot;have a0:=hat 0 (by omega);rw [add_none,add_none] at a0;simp only [Nat.add_zero,Nat.mul_one] at a0;exact ⟨⟨A,cc,l⟩,a0,ho,hh⟩
  obtain ⟨xs,hxl,hxs⟩:=from_list one;refine ⟨some ⟨b,off,spot⟩,xs,m,by rw [hxl],⟨fun hn=>⟨b,off,by rw [hsp (by omega)],fun j hj i v hv=>?_⟩,fun q hq=>?_⟩,by omega,.inr ⟨_,_,by rw [hy],by simp;omega,fun q hq=>?_⟩⟩
  ·have hi0:i=0:=by
    have:=(List.getElem?_eq_some_iff.1 hv).1;rw [OpL.cs_len] at this;omega
   subst hi0
   have e:(.slice xs[j].A xs[j].l.length xs[j].c:Value)=v:=by
    have h2:=hv;unfold OpL.cs at h2
    simpa using h2
   rw [← e]
   simpa using (hxs j hj).1
  ·obtain ⟨j,hj,rfl⟩:=List.mem_iff_getElem.1 hq;exact (hxs j hj).2.1
  ·obtain ⟨j,hj,rfl⟩:=List.mem_iff_getElem.1 hq;exact ⟨D j,List.mem_map.2 ⟨j,by simp;omega,rfl⟩,(hxs j hj).2.2⟩
end
section
variable {H:Type} {enc:TypeId×Value->H} {w:World} {base:Nat} {held:Bool} {a:Option Addr} {n c:Nat} {d:DataW H} {p:List MemPlace}
theorem sopss_of (h:DataW.Trod enc Tryz.prog w base (fun _=>true) held 22 (.slice a n c) d p):∃ L:List OpL,n=L.length∧TrRaw w a L∧L.length<=maxLen ∧
  (L=[]∨∃ e s,d=.slice e s∧L.length<=e.length+s.length∧∀ q∈L,∃ d'∈e,Held d' q.l.length):=by
 obtain ⟨fuel,hf⟩:=h;obtain ⟨A,l,cc,e,h1,h2,h3⟩:=sopss_cell hf
 injection e with e1 e2 e3
 subst e1;exact ⟨l,e2,h1,h2,h3⟩
end
section
variable {H:Type} {enc:TypeId×Value->H} {w:World} {base b0:Nat} {held:Bool} {r:Reach} {v:Value} {d:DataW H} {p:List MemPlace}
end
section
variable {H:Type} {ts:List TypeId} {ds:List (DataW H)}
theorem weightsAll_mem {e:TypeId}:∀ {l:List (DataW H)} {d:DataW H},d∈l->∀ n∈d.weights Tryz.prog e,n∈DataW.weightsAll Tryz.prog e l
 | d'::r,d,hd,n,hn=>by
  simp only [DataW.weightsAll,List.mem_append];rcases List.mem_cons.1 hd with rfl | h
  ·exact Or.inl hn
  ·exact Or.inr (weightsAll_mem h n hn)
theorem sopss_few (h:(DataW.weightsEach Tryz.prog ts ds).all (·<=reachBytes)=true) {j:Nat} {d:DataW H} {w:World} {A:Option Addr} {L:List OpL} (ht:ts[j]?=some 22) (hd:ds[j]?=some d) (hr:TrRaw w A L) (hm:L.length<=maxLen)
  (hh:L=[]∨∃ e s,d=.slice e s∧L.length<=e.length+s.length∧∀ q∈L,∃ d'∈e,Held d' q.l.length):TrAt w A L∧L.length*24<=140737488351232:=by
 have hm2:L.length<=9223372036854775807:=by unfold maxLen at hm;omega
 rcases hh with rfl | ⟨e,s,rfl,hle,hq⟩
 ·exact ⟨⟨hr.row,hr.ops,(fun q hq=>by cases hq),hm2⟩,by simp⟩
 have h1:=sized_slice h ht hd Tryz.underlying22;rw [show Tryz.prog.bytesOf 38=24 from by kernel_rfl,show reachBytes=140737488351232 from rfl] at h1;refine ⟨⟨hr.row,hr.ops,fun q hq'=>?_,hm2⟩,by omega⟩;obtain ⟨d',hd',hh⟩:=hq q hq';rcases hh with h0 | ⟨e',s',rfl,hle'⟩
 ·omega
 have h2:(e'.length+s'.length)*Tryz.prog.bytesOf 77<=reachBytes:=by
  refine of_decide_eq_true (List.all_eq_true.1 h _ (DataW.weights_mem_each ht hd _ ?_));simp only [DataW.weights,Tryz.underlying22,List.mem_cons,List.mem_append];exact Or.inr (Or.inl (weightsAll_mem hd' _ (by simp [DataW.weights,Tryz.underlying38])))
 rw [show Tryz.prog.bytesOf 77=200 from by kernel_rfl,show reachBytes=140737488351232 from rfl] at h2;omega
end
end
section
open Go.RowKit pxm imm trm Go.Maps
theorem build_pl (g:Nat) (a b M:Int) (A:Option Addr) (n c m:Nat) (w:World):(Instr.build tPl #[(0,.pointer (some ⟨g,0,none⟩)),(1,.agg (Vc a b M A n c m).toArray)]).run Tryz.prog w=.ok (.agg (Vp g a b M A n c m).toArray) w:=by kernel_rfl
structure QJ (w0:World) (p g b m:Nat) (za zb zc:Int) (s:Sh) (x y:PSc) (d l:Bool) (v:Value) (w:World):Prop where
 no:d=false->PlS w0 p g b m s za zb zc x w
 yes:d=true->∃ s',PlS w0 p g b m s' za zb zc y w
 ld:l=true->DocAt w v za zb zc y
section
variable {w0 w w':World} {p g b m:Nat} {za zb zc:Int} {s:Sh} {x y:PSc} {d l:Bool} {v u:Value}
theorem QJ.below (h:QJ w0 p g b m za zb zc s x y d l v w) (hb:Below w.heap.size w w'):QJ w0 p g b m za zb zc s x y d l v w':=
 ⟨fun e=>(h.no e).below hb,fun e=>by
  obtain ⟨s',h1⟩:=h.yes e
  exact ⟨s',h1.below hb⟩,fun e=>(h.ld e).below hb⟩
theorem QJ.slots (h:QJ w0 p g b m za zb zc s x y d l v w) (e:u=v):QJ w0 p g b m za zb zc s x y d l u w:=by rw [e];exact h
theorem QJ.cells (h:QJ w0 p g b m za zb zc s x y d l v w) (hd:d=true):∃ A c dm,BlkT w p (Vp g za zb zc A y.t.length c dm) tPl∧DocAt w (.agg (Vc za zb zc A y.t.length c dm).toArray) za zb zc y:=by
 obtain ⟨s',h1⟩:=h.yes hd;obtain ⟨A,c,dm,h2,h3,h4⟩:=h1.blk;exact ⟨A,c,dm,h2,DBlk.doc h3 h4⟩
theorem QJ.load (h:QJ w0 p g b m za zb zc s x y d false v w) (hd:DocAt w u za zb zc y):QJ w0 p g b m za zb zc s x y d true u w:=⟨h.no,h.yes,fun _=>hd⟩
end
theorem PlS.bel {w0 w:World} {p g b m:Nat} {s:Sh} {za zb zc:Int} {x:PSc} (h:PlS w0 p g b m s za zb zc x w):Below w0.heap.size w0 w:=h.my.bel
theorem plays_in (most:Int) (A:Option Addr) (L:List OpL) (c:Nat) (w:World) (_:-9223372036854775808<=most) (_:most<=9223372036854775807) (h1:TrAt w A L) (_:L.length*24<=140737488351232) :
  Calls Tryz.prog 3 #[.int .i64 most,.slice A L.length c] w fun e w'=>e=.returned (.bool true)∧Below w.heap.size w w':=by
 have HT:=Hd h1;have HSZ:=Hd (size_law L A c w h1);clear h1;go_enter Tryz.func3,Tryz.ntmps3;go_wp2_with (fail);refine HSZ.out.mono ?_;unfold SizeQ;rintro e w1 ⟨n,rfl,hn,hn64,hb1⟩;have HB1:=Hd hb1;have HNF:=Hd hn;clear hb1 hn HSZ;by_cases hbad:n<0
 ·skip
  have t1:decide (n<0)=true:=decide_eq_true (by omega);clear hbad hn64 HNF;go_wp2_with (fail);refine (awake_any _).mono ?_;rintro e w4 ⟨rfl,hb4⟩;have HB4:=Hd (HB1.out.trans (hb4.mono HB1.out.size));clear hb4 HB1;go_wp2_with (fail);go_ret;exact ⟨rfl,HB4.out⟩
 by_cases hbad2:most<1
 ·skip
  have t1:decide (n<0)=false:=decide_eq_false (by omega);have t2:decide (most<1)=true:=decide_eq_true (by omega);clear hbad hbad2 hn64 HNF;go_wp2_with (fail);refine (awake_any _).mono ?_;rintro e w4 ⟨rfl,hb4⟩;have HB4:=Hd (HB1.out.trans (hb4.mono HB1.out.size));clear hb4 HB1;go_wp2_with (fail);go_ret;exact ⟨rfl,HB4.out⟩
 by_cases hbad3:65536<most
 ·skip
  have t1:decide (n<0)=false:=decide_eq_false (by omega);have t2:decide (most<1)=false:=decide_eq_false (by omega);have t3:decide ((65536:Int)<most)=true:=decide_eq_true (by omega);clear hbad hbad2 hbad3 hn64 HNF;go_wp2_with (fail);refine (awake_any _).mono ?_;rintro e w4 ⟨rfl,hb4⟩;have HB4:=Hd (HB1.out.trans (hb4.mono HB1.out.size));clear hb4 HB1;go_wp2_with (fail);go_ret;exact ⟨rfl,HB4.out⟩
 ·have t1:decide (n<0)=false:=decide_eq_false (by omega);have t2:decide (most<1)=false:=decide_eq_false (by omega);have t3:decide ((65536:Int)<most)=false:=decide_eq_false (by omega);have HF:Hid (fits L):=HNF.out.1 (by omega);have HM:Hid (1<=most∧most<=65536):=by show _∧_;omega
  clear hbad hbad2 hbad3 hn64 HNF;have HNEW:=Hd (new_ok (w:=w1) ⟨8,⟨8,most⟩,fun _=>False⟩ (fun _ e=>e.elim) ⟨show (1:Int)<=8 by decide,show (8:Int)<=4096 by decide⟩ ⟨show (1:Int)<=8 by decide,show (8:Int)<=4096 by decide⟩ HM.out);go_wp2_with (fail);refine HNEW.out.mono ?_;unfold NewQ;rintro e w2 ⟨g,b,m,s0,rfl,hs1,hb2,hf2,-⟩
  have HMY:Hid (MyS w g b m s0 ⟨8,⟨8,most⟩,fun _=>False⟩ PSc.new w2):=⟨hs1,fun k hk=>Nat.le_trans HB1.out.size (hf2 k hk),HB1.out.trans (hb2.mono HB1.out.size)⟩
  clear hs1 hb2 hf2 HNEW HB1;go_wp2_with (fail);refine (dnew_any 8 8 most w2).mono ?_;rintro e w3 ⟨v3,rfl,hd3,hb3⟩;obtain ⟨A2,c2,m2,rfl,ht3,hm3⟩:=hd3.ex;have HMY3:Hid (MyS w g b m s0 ⟨8,⟨8,most⟩,fun _=>False⟩ PSc.new w3):=HMY.out.below hb3;have HT3:Hid (DTree w3 (.slice A2 PSc.new.t.length c2) PSc.new.t):=ht3;have HM3:Hid (DMap w3 m2 (has PSc.new.t) PSc.new.nd):=hm3;have hbl:=build_pl g 8 8 most A2 PSc.new.t.length c2 m2 w3;clear hd3 hb3 ht3 hm3 HMY
  have HPL:Hid (PlS w w3.heap.size g b m s0 8 8 most PSc.new (w3.alloc (.cells (Vp g 8 8 most A2 PSc.new.t.length c2 m2).toArray tPl))):=PlS.new HMY3.out rfl ((Below.refl _ _).alloc (Nat.le_refl _) _) (BlkT.new w3 (Vp g 8 8 most A2 PSc.new.t.length c2 m2) tPl) (HT3.out.below ((Below.refl _ _).alloc (Nat.le_refl _) _)) (HM3.out.below ((Below.refl _ _).alloc (Nat.le_refl _) _));have hlb:(L.length:Int)<=30:=by have:=HF.out.2.1;omega
  go_upto_region 7 with ((with_reducible refine gU ?_);refine wpl_build _ _ rfl rfl (by simp [go_sem]) hbl ?_)
  clear hbl;generalize (w3.alloc (.cells (Vp g 8 8 most A2 PSc.new.t.length c2 m2).toArray tPl))=w4 at *;generalize w3.heap.size=p at *
  go_upto_region 8 with (fail)
  go_loopw [40] (fun x40 wr=>∃ j:Nat,j<=L.length∧x40=.int .i64 j∧Hid (∃ s x,PlS w p g b m s 8 8 most x wr∧Sane x∧x.t.length<=total (L.take j))) (fun x40 _=>L.length - (intOf x40).toNat)
  case atStart=>exact ⟨0,Nat.zero_le _,rfl,s0,PSc.new,HPL.out,PSc.new_sane,Nat.zero_le _⟩
  case round=>
   obtain ⟨j,hj,rfl,HX⟩:=hrel;generalize wr=wA at *;obtain ⟨s,x,hpl,hsx,hlx⟩:=HX.out;have HPW:=Hd hpl;have HSX:=Hd hsx;have HLX:=Hd hlx;clear hpl hsx hlx HX;by_cases hlt:j<L.length
   ·have t4:decide (j<L.length)=true:=by simpa using hlt
    have HLT:=Hd hlt;obtain ⟨lb,lo,rA,hcell⟩:=(HT.out.below HPW.out.bel).row (by omega);subst rA
    obtain ⟨q,hq⟩:∃ q,q=L[j]'hlt:=⟨_,rfl⟩
    have hqc:wA.cell? ⟨lb,lo+j,none⟩=some (.slice q.A q.l.length q.c):=by
     have:=hcell j hlt 0 (.slice q.A q.l.length q.c) (by rw [hq];rfl)
     rwa [Nat.mul_one,Nat.add_zero] at this
    have HQM:Hid (q∈L):=by rw [hq];exact List.getElem_mem hlt
    have HTK:Hid (L.take (j+1)=L.take j++[q]):=by rw [hq];exact List.take_succ_eq_append_getElem hlt
    have i0:=World.block_lt_of_cell? wA ⟨lb,_,none⟩ hqc
    have HQL:Hid (x.t.length+q.l.length<=total (L.take (j+1))∧total (L.take (j+1))<=120):=by
     refine ⟨?_,Nat.le_trans (total_take (j+1)) HF.out.2.2⟩;rw [HTK.out,total_snoc];have:=HLX.out;omega
    have HTHQ:Hid (∀ o∈q.l,o.o.lk.l.length<=300):=HF.out.1 q HQM.out
    have HRM:Hid (q.l.length<=1024->Room most x q.l.length):=fun _=>by
     have:=HQL.out;exact ⟨by omega,.inl (by omega)⟩
    obtain ⟨os,hos⟩:∃ os,q.l.map (·.o)=os:=⟨_,rfl⟩
    have hosl:os.length=q.l.length:=by rw [← hos,List.length_map]
    obtain ⟨y,hy⟩:∃ y,(applyS most setSt x os).1=y:=⟨_,rfl⟩
    have HSY:Hid (Sane y):=by
     show Sane y;rw [← hy];refine HSX.out.apply fun o ho'=>?_;rw [← hos] at ho';obtain ⟨q',h1,h2⟩:=List.mem_map.1 ho';rw [← h2];exact ((HT.out.ops q HQM.out).px q' h1).2.ok (HTHQ.out q' h1)
    have HYL:Hid (y.t.length<=total (L.take (j+1))):=by
     have h1:=(applyS_len (M:=most) (l:=os) HSX.out.ok).1;rw [hy,hosl] at h1;exact Nat.le_trans h1 HQL.out.1
    have HLY:Hid (y.t.length<=900):=by have:=HYL.out;have:=HQL.out.2;show _<=_;omega
    have FD:Hid (∀ W,PlS w p g b m s 8 8 most x W->Calls Tryz.prog 18 #[.pointer (some ⟨p,0,none⟩),.slice q.A q.l.length q.c] W fun e w'=>e=.returned (.bool true)∧(∃ s',PlS w p g b m s' 8 8 most y w')∧Below w.heap.size W w'):=fun W hp=>by
     have h1:=pdo_any hp HSX.out q.l q.A q.c (HT.out.ops q HQM.out) HTHQ.out (by have:=HQL.out;omega) HRM.out;rw [hos,hy] at h1;exact h1
    have HPB:Hid (w.heap.size<=wA.heap.size):=HPW.out.bel.size;clear hcell hq hlt hos hosl hy hj
    go_upto_region 10 with (fail)
    clear hqc i0
    refine wRv (Below w.heap.size) (fun L V wx=>QJ w p g b m 8 8 most s x y (L 2) (L 12) (V 56) wx∧(L 3=true->L 2=true)∧(L 4=true->L 2=true)∧(L 12=true->L 2=true)) [44,45,46,47,48,49,50,51,52,53,54,55,56,57,58,59] (fun _=>Below.refl _ _) (fun _ _ _ h k=>h.trans k) (fun i=>match i with
     |0|5|6|7|9|10=>rp p 0
     |1=>rV (.slice q.A q.l.length q.c)
     |2|13=>rT
     |3|4|14|15=>rV (.bool false)
     |8=>rp g 0
     |11=>rp p 1
     | _=>ra) ((Below.refl _ _).drew.mono HPB.out) (⟨⟨fun _=>HPW.out.below (Below.refl _ _).drew,nofun,nofun⟩,nofun,nofun,nofun⟩) ⟨?_,?_,?_,?_,?_,?_,?_,?_,?_,?_,?_,?_,?_,?_,?_,?_,trivial⟩ ?_
    ·refine zpv fun L a w1 hh=>?_;have h7:=hh.p 7 p 0;have hJ:=hh.j;clear hh;go_simp;exact ⟨_,rfl,Below.refl _ _,rfl,⟨QJ.slots hJ.out.1 sn,hJ.out.2⟩⟩
    ·refine zpv fun L a w1 hh=>?_;have h9:=hh.o 9 (v:=.slice q.A q.l.length q.c) rfl;have hJ:=hh.j;clear hh;go_simp;exact ⟨_,rfl,Below.refl _ _,rfl,⟨QJ.slots hJ.out.1 sn,hJ.out.2⟩⟩
    ·refine zpv fun L a w1 hh=>?_;have h44:=rq (hh.d 0 44);have h45:=rq (hh.d 1 45);have hC:=Hd (FD.out w1 (hh.st.1.no hh.un));have hnl:=Hd (not_yet hh.st.2.2.2 hh.un);have hJ:=Hd hh.st;have hsz:=Hd hh.size;clear hh;go_simp;refine hC.out.mono ?_;rintro e w9 ⟨rfl,⟨s9,hp9⟩,hb9⟩;exact ⟨_,rfl,hb9,rfl,⟨⟨nofun,fun _=>⟨s9,hp9⟩,fun e=>by have:=hnl.out.symm.trans e;cases this⟩,fun _=>rfl,fun _=>rfl,fun _=>rfl⟩⟩
    ·refine zpv fun L a w1 hh=>?_;have h46:=rq (hh.d 2 46);have hud:=Hd (hh.up 2 (by kernel_rfl));have hJ:=Hd hh.st;have hsz:=Hd hh.size;clear hh;go_simp;exact ⟨_,rfl,Below.refl _ _,rfl,⟨QJ.slots hJ.out.1 sn,fun _=>hud.out,hJ.out.2.2⟩⟩
    ·refine zpv fun L a w1 hh=>?_;have h47:=rq (hh.d 3 47);have hud:=Hd (hh.st.2.1 (hh.up 3 (by kernel_rfl)));have hJ:=Hd hh.st;have hsz:=Hd hh.size;clear hh;go_simp;exact ⟨_,rfl,Below.refl _ _,rfl,⟨QJ.slots hJ.out.1 sn,hJ.out.2.1,fun _=>hud.out,hJ.out.2.2.2⟩⟩
    ·refine syv rfl rfl fun L a w1 hh=>?_;have h7:=hh.p 7 p 0;have hJ:=hh.j;clear hh;go_simp;exact ⟨_,rfl,Below.refl _ _,rfl,⟨QJ.slots hJ.out.1 sn,hJ.out.2⟩⟩
    ·refine syv rfl rfl fun L a w1 hh=>?_;have h49:=rq (hh.d 5 49);have hJ:=hh.j;clear hh;go_simp;exact ⟨_,rfl,Below.refl _ _,rfl,⟨QJ.slots hJ.out.1 sn,hJ.out.2⟩⟩
    ·refine syv rfl rfl fun L a w1 hh=>?_;have h50:=rq (hh.d 6 50);have hud:=Hd (hh.st.2.2.1 (hh.up 4 (by kernel_rfl)));obtain ⟨A9,c9,m9,hb9,hd9⟩:=hh.st.1.cells hud.out;have c0:=hb9.blk.cell 0;have i0:=hb9.inside;simp only [List.getElem?_cons_zero] at c0;have hJ:=hh.j;clear hh;go_simp;exact ⟨_,rfl,Below.refl _ _,rfl,⟨QJ.slots hJ.out.1 sn,hJ.out.2⟩⟩
    ·refine syv rfl rfl fun L a w1 hh=>?_;have h51:=rq (hh.d 7 51);have hud:=Hd (hh.st.2.2.1 (hh.up 4 (by kernel_rfl)));obtain ⟨A9,c9,m9,hb9,hd9⟩:=hh.st.1.cells hud.out;have c0:=hb9.blk.cell 0;have i0:=hb9.inside;simp only [List.getElem?_cons_zero] at c0;have hJ:=hh.j;clear hh;go_simp;exact ⟨_,rfl,Below.refl _ _,rfl,⟨QJ.slots hJ.out.1 sn,hJ.out.2⟩⟩
    ·refine syv rfl rfl fun L a w1 hh=>?_;have h7:=hh.p 7 p 0;have hJ:=hh.j;clear hh;go_simp;exact ⟨_,rfl,Below.refl _ _,rfl,⟨QJ.slots hJ.out.1 sn,hJ.out.2⟩⟩
    ·refine syv rfl rfl fun L a w1 hh=>?_;have h53:=rq (hh.d 9 53);have hJ:=hh.j;clear hh;go_simp;exact ⟨_,rfl,Below.refl _ _,rfl,⟨QJ.slots hJ.out.1 sn,hJ.out.2⟩⟩
    ·refine syv rfl rfl fun L a w1 hh=>?_;have h54:=rq (hh.d 10 54);have hud:=Hd (hh.st.2.2.1 (hh.up 4 (by kernel_rfl)));obtain ⟨A9,c9,m9,hb9,hd9⟩:=hh.st.1.cells hud.out;have c0:=hb9.blk.cell 0;have i0:=hb9.inside;simp only [List.getElem?_cons_zero] at c0;have hJ:=hh.j;clear hh;go_simp;exact ⟨_,rfl,Below.refl _ _,rfl,⟨QJ.slots hJ.out.1 sn,hJ.out.2⟩⟩
    ·refine syv rfl rfl fun L a w1 hh=>?_;have h55:=rq (hh.d 11 55);have hud:=Hd (hh.st.2.2.1 (hh.up 4 (by kernel_rfl)));obtain ⟨A9,c9,m9,hb9,hd9⟩:=hh.st.1.cells hud.out;have hJ:=Hd hh.st;have hsz:=Hd hh.size;have hun:=Hd hh.un;exact wp_take 34 _ rfl p 1 (by simpa [go_sem] using h55) _ hb9.blk (Vc 8 8 most A9 y.t.length c9 m9) rfl _ Tryz.underlying34 rfl (by kernel_rfl) ⟨_,rfl,Below.refl _ _,trivial,⟨by have h9:=hJ.out.1;rw [hun.out] at h9;exact QJ.slots (h9.load hd9) (regv.sl_same (by rw [hsz.out];simp)),hJ.out.2.1,hJ.out.2.2.1,fun _=>hud.out⟩⟩
    ·refine syv rfl rfl fun L a w1 hh=>?_;have h52:=rq (hh.d 8 52);have hud:=Hd (hh.st.2.2.1 (hh.up 4 (by kernel_rfl)));have hul:=hh.up 12 (by kernel_rfl);have h56:a.tmps[56]?.getD undef=regv.sl a 56:=by unfold regv.sl;rw [Array.getD_eq_getD_getElem?]
     obtain ⟨s9,hp9⟩:=hh.st.1.yes hud.out;have hC:=Hd (is_any hp9.my.at_ HSY.out HLY.out (regv.sl a 56) (hh.st.1.ld hul));have hbz:=Hd (show w.heap.size<=w1.heap.size from hp9.bel.size);have hJ:=Hd hh.st;have hsz:=Hd hh.size;clear hh hp9;go_simp;refine hC.out.mono ?_;rintro e w9 ⟨rfl,hb9⟩;exact ⟨_,rfl,hb9.mono hbz.out,rfl,⟨QJ.slots (hJ.out.1.below hb9) sn,hJ.out.2⟩⟩
    ·refine syv rfl rfl fun L a w1 hh=>?_;have h57:=rq (hh.d 13 57);have hJ:=hh.j;clear hh;go_simp;exact ⟨_,rfl,Below.refl _ _,rfl,⟨QJ.slots hJ.out.1 sn,hJ.out.2⟩⟩
    ·refine zpv fun L a w1 hh=>?_;have h48:=rq (hh.d 4 48);have h58:=rq (hh.d 14 58);have hJ:=hh.j;clear hh;go_simp;exact ⟨_,rfl,Below.refl _ _,rfl,⟨QJ.slots hJ.out.1 sn,hJ.out.2⟩⟩
    intro L w4 val hL hJ hR hv;have h59:val 59=.bool false:=hv 15 59 (by kernel_rfl);have HR4:=Hd hR;obtain ⟨s2,hp2⟩:=hJ.1.yes (hL 2 (by decide));have HP4:=Hd hp2;clear hv hL hJ hR hp2;simp only [regs.putAll,List.map_cons,List.map_nil,h59];simp only [Act.put,List.setIfInBounds_toArray,List.set_cons_zero,List.set_cons_succ];clear h59;generalize val 44=v44,val 45=v45,val 46=v46,val 47=v47,val 48=v48,val 49=v49,val 50=v50,val 51=v51,val 52=v52,val 53=v53,val 54=v54,val 55=v55,val 56=v56,val 57=v57,val 58=v58 at *;go_wp2_with (fail)
    go_roundw
    case rel=>exact ⟨j+1,HLT.out,by go_num,s2,y,HP4.out,HSY.out,HYL.out⟩
    case measure=>have:=HLT.out;simp [intOf];omega
   ·obtain rfl:j=L.length:=by omega
    have t4:decide (L.length<L.length)=false:=by simp
    clear hlt;go_wp2_with (fail);refine (awake_any _).mono ?_;rintro e w5 ⟨rfl,hb5⟩;have HB5:Hid (Below w.heap.size w w5):=HPW.out.bel.trans (hb5.mono HPW.out.bel.size);clear hb5;go_wp2_with (fail);go_ret;exact ⟨rfl,HB5.out⟩
end
end Go.Proofs.YthpifjcddgmjnaaGreat
