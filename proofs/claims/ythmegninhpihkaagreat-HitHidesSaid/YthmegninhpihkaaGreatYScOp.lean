import Derived.Test.YthmegninhpihkaaGreatYScBase
import Derived.Deep.Slices
import Derived.SizedLaws
set_option maxHeartbeats 16000000
set_option maxRecDepth 100000
open Go.Proofs.Tryz
namespace Go.Proofs.YthmegninhpihkaaGreat
section
open Go.RowKit Go.ChangeShapes Go.WideShapes Go.ChangeAt Go.Deep fD fO
section
variable {H:Type}{enc:TypeId×Value->H}{w:World}{base:Nat}{held:Bool}{k:Nat}
theorem WT{x:Value}{y:DataW H×List MemPlace}(h:DataW.trod enc prog w base (fun _=>true) held k 71 [x]=some y):∃(A:Option Addr) (l:List Nat) (c:Nat),x=.slice A l.length c∧Row eW w A l∧l.length<=c∧c<=maxLen∧∀z∈l,z<4294967296:=by
 rcases open_ints underlying71 underlying70 ag h with ⟨hcs,_⟩|⟨a,l,c,zs,hcs,_,hl,hm,hz,_,hcell,hwz⟩
 ·obtain rfl:=List.singleton_inj.1 hcs;exact⟨none,[],0,rfl,Row.none_ rfl,nR,by unfold maxLen;omega,fun z hz=>by cases hz⟩
 ·obtain rfl:=List.singleton_inj.1 hcs;have hzl:zs.length=c:=by simpa using hz
  have hb:∀z∈zs,0<=z∧z<=4294967295:=fun z hz=>bounds_u32 (hwz z hz);have hll:((zs.take l).map Int.toNat).length=l:=by simp;omega
  refine⟨some a,(zs.take l).map Int.toNat,c,by rw[hll],fun hn=>?_,by rw[hll];exact hl,hm,fun z hz=>?_⟩
  ·rw[hll]at hn;obtain⟨b,off,spot⟩:=a;have h0:=hcell 0 (by omega);have hspot:spot=none:=by simpa[Addr.add]using World.cell?_spot h0
   subst hspot;refine⟨b,off,rfl,fun j hj=>?_⟩;rw[hll]at hj;have hc:=hcell j (by omega);rw[qj]at hc;rw[hc];have hj':j<zs.length:=by omega
   have h3:=hb zs[j] (List.getElem_mem hj');simp only[List.getElem_map,List.getElem_take,List.getD_eq_getElem?_getD,List.getElem?_eq_getElem hj',Option.getD_some,eW,Option.some.injEq,Value.int.injEq,true_and];omega
  ·simp only[List.mem_map]at hz;obtain⟨y,hy,rfl⟩:=hz;have:=hb y (List.mem_of_mem_take hy);omega
theorem O9{cs:List Value}{y:DataW H×List MemPlace}(hc:cs.length=6)(h:DataW.trod enc prog w base (fun _=>true) held k 67 cs=some y):∃m:Mp,cs=m.cs:=by
 obtain⟨c0,c1,c2,c3,c4,c5,rfl⟩:∃c0 c1 c2 c3 c4 c5,cs=[c0,c1,c2,c3,c4,c5]:=by
  match cs,hc with
  |[c0,c1,c2,c3,c4,c5],_=>exact⟨_,_,_,_,_,_,rfl⟩
 obtain⟨d,p⟩:=y;obtain⟨ys,n',_,hy,hlen,hyl,hfl⟩:=DataW.trod_struct underlying67 h;have Xu:ys.length=6:=hyl;have z0:prog.cellsOf 2=1:=by kernel_rfl
 have g0:DataW.trod enc prog w base (fun _=>true) held n' 2 ((([c0,c1,c2,c3,c4,c5]:List Value).drop 0).take (prog.cellsOf 2))=ys[0]?:=hfl 0 _ rfl;rw[z0]at g0;try simp only[List.drop_zero,List.take_succ_cons,List.take_zero]at g0
 rw[List.getElem?_eq_getElem (by omega)]at g0;have z1:prog.cellsOf 2=1:=by kernel_rfl
 have g1:DataW.trod enc prog w base (fun _=>true) held n' 2 ((([c0,c1,c2,c3,c4,c5]:List Value).drop 1).take (prog.cellsOf 2))=ys[1]?:=hfl 1 _ rfl;rw[z1]at g1;try simp only[List.drop_succ_cons,List.drop_zero,List.take_succ_cons,List.take_zero]at g1
 rw[List.getElem?_eq_getElem (by omega)]at g1;have z2:prog.cellsOf 2=1:=by kernel_rfl
 have g2:DataW.trod enc prog w base (fun _=>true) held n' 2 ((([c0,c1,c2,c3,c4,c5]:List Value).drop 2).take (prog.cellsOf 2))=ys[2]?:=hfl 2 _ rfl;rw[z2]at g2;try simp only[List.drop_succ_cons,List.drop_zero,List.take_succ_cons,List.take_zero]at g2
 rw[List.getElem?_eq_getElem (by omega)]at g2;have z3:prog.cellsOf 2=1:=by kernel_rfl
 have g3:DataW.trod enc prog w base (fun _=>true) held n' 2 ((([c0,c1,c2,c3,c4,c5]:List Value).drop 3).take (prog.cellsOf 2))=ys[3]?:=hfl 3 _ rfl;rw[z3]at g3;try simp only[List.drop_succ_cons,List.drop_zero,List.take_succ_cons,List.take_zero]at g3
 rw[List.getElem?_eq_getElem (by omega)]at g3;have z4:prog.cellsOf 2=1:=by kernel_rfl
 have g4:DataW.trod enc prog w base (fun _=>true) held n' 2 ((([c0,c1,c2,c3,c4,c5]:List Value).drop 4).take (prog.cellsOf 2))=ys[4]?:=hfl 4 _ rfl;rw[z4]at g4;try simp only[List.drop_succ_cons,List.drop_zero,List.take_succ_cons,List.take_zero]at g4
 rw[List.getElem?_eq_getElem (by omega)]at g4;have z5:prog.cellsOf 2=1:=by kernel_rfl
 have g5:DataW.trod enc prog w base (fun _=>true) held n' 2 ((([c0,c1,c2,c3,c4,c5]:List Value).drop 5).take (prog.cellsOf 2))=ys[5]?:=hfl 5 _ rfl;rw[z5]at g5;try simp only[List.drop_succ_cons,List.drop_zero,List.take_succ_cons,List.take_zero]at g5
 rw[List.getElem?_eq_getElem (by omega)]at g5;obtain⟨x0,e0,-,w0⟩:=DataW.trod_int underlying2 g0;obtain rfl:=List.singleton_inj.1 e0;obtain⟨x1,e1,-,w1⟩:=DataW.trod_int underlying2 g1;obtain rfl:=List.singleton_inj.1 e1;obtain⟨x2,e2,-,w2⟩:=DataW.trod_int underlying2 g2;obtain rfl:=List.singleton_inj.1 e2;obtain⟨x3,e3,-,w3⟩:=DataW.trod_int underlying2 g3;obtain rfl:=List.singleton_inj.1 e3;obtain⟨x4,e4,-,w4⟩:=DataW.trod_int underlying2 g4;obtain rfl:=List.singleton_inj.1 e4;obtain⟨x5,e5,-,w5⟩:=DataW.trod_int underlying2 g5;obtain rfl:=List.singleton_inj.1 e5
 exact⟨⟨x0,x1,x2,x3,x4,x5⟩,rfl⟩
theorem Jw{cs:List Value}{y:DataW H×List MemPlace}(hc:cs.length=4)(h:DataW.trod enc prog w base (fun _=>true) held k 69 cs=some y):∃m:Bx,cs=m.cs:=by
 obtain⟨c0,c1,c2,c3,rfl⟩:∃c0 c1 c2 c3,cs=[c0,c1,c2,c3]:=by
  match cs,hc with
  |[c0,c1,c2,c3],_=>exact⟨_,_,_,_,rfl⟩
 obtain⟨d,p⟩:=y;obtain⟨ys,n',_,hy,hlen,hyl,hfl⟩:=DataW.trod_struct underlying69 h;have Xu:ys.length=4:=hyl;have z0:prog.cellsOf 3=1:=by kernel_rfl
 have g0:DataW.trod enc prog w base (fun _=>true) held n' 3 ((([c0,c1,c2,c3]:List Value).drop 0).take (prog.cellsOf 3))=ys[0]?:=hfl 0 _ rfl;rw[z0]at g0;try simp only[List.drop_zero,List.take_succ_cons,List.take_zero]at g0
 rw[List.getElem?_eq_getElem (by omega)]at g0;have z1:prog.cellsOf 3=1:=by kernel_rfl
 have g1:DataW.trod enc prog w base (fun _=>true) held n' 3 ((([c0,c1,c2,c3]:List Value).drop 1).take (prog.cellsOf 3))=ys[1]?:=hfl 1 _ rfl;rw[z1]at g1;try simp only[List.drop_succ_cons,List.drop_zero,List.take_succ_cons,List.take_zero]at g1
 rw[List.getElem?_eq_getElem (by omega)]at g1;have z2:prog.cellsOf 3=1:=by kernel_rfl
 have g2:DataW.trod enc prog w base (fun _=>true) held n' 3 ((([c0,c1,c2,c3]:List Value).drop 2).take (prog.cellsOf 3))=ys[2]?:=hfl 2 _ rfl;rw[z2]at g2;try simp only[List.drop_succ_cons,List.drop_zero,List.take_succ_cons,List.take_zero]at g2
 rw[List.getElem?_eq_getElem (by omega)]at g2;have z3:prog.cellsOf 3=1:=by kernel_rfl
 have g3:DataW.trod enc prog w base (fun _=>true) held n' 3 ((([c0,c1,c2,c3]:List Value).drop 3).take (prog.cellsOf 3))=ys[3]?:=hfl 3 _ rfl;rw[z3]at g3;try simp only[List.drop_succ_cons,List.drop_zero,List.take_succ_cons,List.take_zero]at g3
 rw[List.getElem?_eq_getElem (by omega)]at g3;obtain⟨x0,e0,-,w0⟩:=DataW.trod_int underlying3 g0;obtain rfl:=List.singleton_inj.1 e0;obtain⟨x1,e1,-,w1⟩:=DataW.trod_int underlying3 g1;obtain rfl:=List.singleton_inj.1 e1;obtain⟨x2,e2,-,w2⟩:=DataW.trod_int underlying3 g2;obtain rfl:=List.singleton_inj.1 e2;obtain⟨x3,e3,-,w3⟩:=DataW.trod_int underlying3 g3;obtain rfl:=List.singleton_inj.1 e3;exact⟨⟨x0,x1,x2,x3⟩,rfl⟩
theorem GY{cs:List Value}{y:DataW H×List MemPlace}(hc:cs.length=3)(h:DataW.trod enc prog w base (fun _=>true) held k 73 cs=some y):∃(iw ih:Int) (A:Option Addr) (l:List Nat) (c:Nat),cs=(Vn iw ih A l.length c)∧Row eW w A l∧l.length<=c∧c<=maxLen∧∀z∈l,z<4294967296:=by
 obtain⟨c0,c1,c2,rfl⟩:∃c0 c1 c2,cs=[c0,c1,c2]:=by
  match cs,hc with
  |[c0,c1,c2],_=>exact⟨_,_,_,rfl⟩
 obtain⟨d,p⟩:=y;obtain⟨ys,n',_,hy,hlen,hyl,hfl⟩:=DataW.trod_struct underlying73 h;have Xu:ys.length=3:=hyl;have z0:prog.cellsOf 3=1:=by kernel_rfl
 have g0:DataW.trod enc prog w base (fun _=>true) held n' 3 ((([c0,c1,c2]:List Value).drop 0).take (prog.cellsOf 3))=ys[0]?:=hfl 0 _ rfl;rw[z0]at g0;try simp only[List.drop_zero,List.take_succ_cons,List.take_zero]at g0
 rw[List.getElem?_eq_getElem (by omega)]at g0;have z1:prog.cellsOf 3=1:=by kernel_rfl
 have g1:DataW.trod enc prog w base (fun _=>true) held n' 3 ((([c0,c1,c2]:List Value).drop 1).take (prog.cellsOf 3))=ys[1]?:=hfl 1 _ rfl;rw[z1]at g1;try simp only[List.drop_succ_cons,List.drop_zero,List.take_succ_cons,List.take_zero]at g1
 rw[List.getElem?_eq_getElem (by omega)]at g1;have z2:prog.cellsOf 71=1:=by kernel_rfl
 have g2:DataW.trod enc prog w base (fun _=>true) held n' 71 ((([c0,c1,c2]:List Value).drop 2).take (prog.cellsOf 71))=ys[2]?:=hfl 2 _ rfl;rw[z2]at g2;try simp only[List.drop_succ_cons,List.drop_zero,List.take_succ_cons,List.take_zero]at g2
 rw[List.getElem?_eq_getElem (by omega)]at g2;obtain⟨x0,e0,-,w0⟩:=DataW.trod_int underlying3 g0;obtain rfl:=List.singleton_inj.1 e0;obtain⟨x1,e1,-,w1⟩:=DataW.trod_int underlying3 g1;obtain rfl:=List.singleton_inj.1 e1;obtain⟨A,l,c,rfl,r1,r2,r3,r4⟩:=WT g2;exact⟨x0,x1,A,l,c,rfl,r1,r2,r3,r4⟩
theorem JO{cs:List Value}{y:DataW H×List MemPlace}(hc:cs.length=7)(h:DataW.trod enc prog w base (fun _=>true) held k 75 cs=some y):∃(kk WW HH:Int) (pp:Nat) (iw ih:Int) (A:Option Addr) (l:List Nat) (c:Nat),cs=(Vj kk WW HH pp iw ih A l.length c)∧pp<4294967296∧Row eW w A l∧l.length<=c∧c<=maxLen∧∀z∈l,z<4294967296:=by
 obtain⟨c0,c1,c2,c3,c4,c5,c6,rfl⟩:∃c0 c1 c2 c3 c4 c5 c6,cs=[c0,c1,c2,c3,c4,c5,c6]:=by
  match cs,hc with
  |[c0,c1,c2,c3,c4,c5,c6],_=>exact⟨_,_,_,_,_,_,_,rfl⟩
 obtain⟨d,p⟩:=y;obtain⟨ys,n',_,hy,hlen,hyl,hfl⟩:=DataW.trod_struct underlying75 h;have Xu:ys.length=5:=hyl;have z0:prog.cellsOf 3=1:=by kernel_rfl
 have g0:DataW.trod enc prog w base (fun _=>true) held n' 3 ((([c0,c1,c2,c3,c4,c5,c6]:List Value).drop 0).take (prog.cellsOf 3))=ys[0]?:=hfl 0 _ rfl;rw[z0]at g0;try simp only[List.drop_zero,List.take_succ_cons,List.take_zero]at g0
 rw[List.getElem?_eq_getElem (by omega)]at g0;have z1:prog.cellsOf 3=1:=by kernel_rfl
 have g1:DataW.trod enc prog w base (fun _=>true) held n' 3 ((([c0,c1,c2,c3,c4,c5,c6]:List Value).drop 1).take (prog.cellsOf 3))=ys[1]?:=hfl 1 _ rfl;rw[z1]at g1;try simp only[List.drop_succ_cons,List.drop_zero,List.take_succ_cons,List.take_zero]at g1
 rw[List.getElem?_eq_getElem (by omega)]at g1;have z2:prog.cellsOf 3=1:=by kernel_rfl
 have g2:DataW.trod enc prog w base (fun _=>true) held n' 3 ((([c0,c1,c2,c3,c4,c5,c6]:List Value).drop 2).take (prog.cellsOf 3))=ys[2]?:=hfl 2 _ rfl;rw[z2]at g2;try simp only[List.drop_succ_cons,List.drop_zero,List.take_succ_cons,List.take_zero]at g2
 rw[List.getElem?_eq_getElem (by omega)]at g2;have z3:prog.cellsOf 70=1:=by kernel_rfl
 have g3:DataW.trod enc prog w base (fun _=>true) held n' 70 ((([c0,c1,c2,c3,c4,c5,c6]:List Value).drop 3).take (prog.cellsOf 70))=ys[3]?:=hfl 3 _ rfl;rw[z3]at g3;try simp only[List.drop_succ_cons,List.drop_zero,List.take_succ_cons,List.take_zero]at g3
 rw[List.getElem?_eq_getElem (by omega)]at g3;have z4:prog.cellsOf 73=3:=by kernel_rfl
 have g4:DataW.trod enc prog w base (fun _=>true) held n' 73 ((([c0,c1,c2,c3,c4,c5,c6]:List Value).drop 4).take (prog.cellsOf 73))=ys[4]?:=hfl 4 _ rfl;rw[z4]at g4;try simp only[List.drop_succ_cons,List.drop_zero,List.take_succ_cons,List.take_zero]at g4
 rw[List.getElem?_eq_getElem (by omega)]at g4;obtain⟨x0,e0,-,w0⟩:=DataW.trod_int underlying3 g0;obtain rfl:=List.singleton_inj.1 e0;obtain⟨x1,e1,-,w1⟩:=DataW.trod_int underlying3 g1;obtain rfl:=List.singleton_inj.1 e1;obtain⟨x2,e2,-,w2⟩:=DataW.trod_int underlying3 g2;obtain rfl:=List.singleton_inj.1 e2;obtain⟨x3,e3,-,w3⟩:=DataW.trod_int underlying70 g3;obtain rfl:=List.singleton_inj.1 e3;have b3:=bounds_u32 w3;obtain⟨iw,ih,A,l,c,ei,r1,r2,r3,r4⟩:=GY rfl g4;simp only[List.cons.injEq,and_true]at ei;obtain⟨rfl,rfl,rfl⟩:=ei
 obtain⟨pp,rfl⟩:∃pp:Nat,x3=(pp:Nat):=⟨x3.toNat,by omega⟩
 exact⟨x0,x1,x2,pp,iw,ih,A,l,c,rfl,by omega,r1,r2,r3,r4⟩
theorem SG{cs:List Value}{y:DataW H×List MemPlace}(hc:cs.length=23)(h:DataW.trod enc prog w base (fun _=>true) held k 85 cs=some y):∃q:gK,cs=q.cs∧Row eW w q.A q.o.lk.l∧IE q.o:=by
 obtain⟨c0,c1,c2,c3,c4,c5,c6,c7,c8,c9,c10,c11,c12,c13,c14,c15,c16,c17,c18,c19,c20,c21,Qg,rfl⟩:∃c0 c1 c2 c3 c4 c5 c6 c7 c8 c9 c10 c11 c12 c13 c14 c15 c16 c17 c18 c19 c20 c21 Qg,cs=[c0,c1,c2,c3,c4,c5,c6,c7,c8,c9,c10,c11,c12,c13,c14,c15,c16,c17,c18,c19,c20,c21,Qg]:=by
  match cs,hc with
  |[c0,c1,c2,c3,c4,c5,c6,c7,c8,c9,c10,c11,c12,c13,c14,c15,c16,c17,c18,c19,c20,c21,Qg],_=>exact⟨_,_,_,_,_,_,_,_,_,_,_,_,_,_,_,_,_,_,_,_,_,_,_,rfl⟩
 obtain⟨d,p⟩:=y;obtain⟨ys,n',_,hy,hlen,hyl,hfl⟩:=DataW.trod_struct underlying85 h;have Xu:ys.length=9:=hyl;have z0:prog.cellsOf 3=1:=by kernel_rfl
 have g0:DataW.trod enc prog w base (fun _=>true) held n' 3 ((([c0,c1,c2,c3,c4,c5,c6,c7,c8,c9,c10,c11,c12,c13,c14,c15,c16,c17,c18,c19,c20,c21,Qg]:List Value).drop 0).take (prog.cellsOf 3))=ys[0]?:=hfl 0 _ rfl;rw[z0]at g0;try simp only[List.drop_zero,List.take_succ_cons,List.take_zero]at g0
 rw[List.getElem?_eq_getElem (by omega)]at g0;have z1:prog.cellsOf 3=1:=by kernel_rfl
 have g1:DataW.trod enc prog w base (fun _=>true) held n' 3 ((([c0,c1,c2,c3,c4,c5,c6,c7,c8,c9,c10,c11,c12,c13,c14,c15,c16,c17,c18,c19,c20,c21,Qg]:List Value).drop 1).take (prog.cellsOf 3))=ys[1]?:=hfl 1 _ rfl;rw[z1]at g1;try simp only[List.drop_succ_cons,List.drop_zero,List.take_succ_cons,List.take_zero]at g1
 rw[List.getElem?_eq_getElem (by omega)]at g1;have z2:prog.cellsOf 3=1:=by kernel_rfl
 have g2:DataW.trod enc prog w base (fun _=>true) held n' 3 ((([c0,c1,c2,c3,c4,c5,c6,c7,c8,c9,c10,c11,c12,c13,c14,c15,c16,c17,c18,c19,c20,c21,Qg]:List Value).drop 2).take (prog.cellsOf 3))=ys[2]?:=hfl 2 _ rfl;rw[z2]at g2;try simp only[List.drop_succ_cons,List.drop_zero,List.take_succ_cons,List.take_zero]at g2
 rw[List.getElem?_eq_getElem (by omega)]at g2;have z3:prog.cellsOf 3=1:=by kernel_rfl
 have g3:DataW.trod enc prog w base (fun _=>true) held n' 3 ((([c0,c1,c2,c3,c4,c5,c6,c7,c8,c9,c10,c11,c12,c13,c14,c15,c16,c17,c18,c19,c20,c21,Qg]:List Value).drop 3).take (prog.cellsOf 3))=ys[3]?:=hfl 3 _ rfl;rw[z3]at g3;try simp only[List.drop_succ_cons,List.drop_zero,List.take_succ_cons,List.take_zero]at g3
 rw[List.getElem?_eq_getElem (by omega)]at g3;have z4:prog.cellsOf 67=6:=by kernel_rfl
 have g4:DataW.trod enc prog w base (fun _=>true) held n' 67 ((([c0,c1,c2,c3,c4,c5,c6,c7,c8,c9,c10,c11,c12,c13,c14,c15,c16,c17,c18,c19,c20,c21,Qg]:List Value).drop 4).take (prog.cellsOf 67))=ys[4]?:=hfl 4 _ rfl;rw[z4]at g4;try simp only[List.drop_succ_cons,List.drop_zero,List.take_succ_cons,List.take_zero]at g4
 rw[List.getElem?_eq_getElem (by omega)]at g4;have z5:prog.cellsOf 69=4:=by kernel_rfl
 have g5:DataW.trod enc prog w base (fun _=>true) held n' 69 ((([c0,c1,c2,c3,c4,c5,c6,c7,c8,c9,c10,c11,c12,c13,c14,c15,c16,c17,c18,c19,c20,c21,Qg]:List Value).drop 10).take (prog.cellsOf 69))=ys[5]?:=hfl 5 _ rfl;rw[z5]at g5;try simp only[List.drop_succ_cons,List.drop_zero,List.take_succ_cons,List.take_zero]at g5
 rw[List.getElem?_eq_getElem (by omega)]at g5;have z6:prog.cellsOf 4=1:=by kernel_rfl
 have g6:DataW.trod enc prog w base (fun _=>true) held n' 4 ((([c0,c1,c2,c3,c4,c5,c6,c7,c8,c9,c10,c11,c12,c13,c14,c15,c16,c17,c18,c19,c20,c21,Qg]:List Value).drop 14).take (prog.cellsOf 4))=ys[6]?:=hfl 6 _ rfl;rw[z6]at g6;try simp only[List.drop_succ_cons,List.drop_zero,List.take_succ_cons,List.take_zero]at g6
 rw[List.getElem?_eq_getElem (by omega)]at g6;have z7:prog.cellsOf 3=1:=by kernel_rfl
 have g7:DataW.trod enc prog w base (fun _=>true) held n' 3 ((([c0,c1,c2,c3,c4,c5,c6,c7,c8,c9,c10,c11,c12,c13,c14,c15,c16,c17,c18,c19,c20,c21,Qg]:List Value).drop 15).take (prog.cellsOf 3))=ys[7]?:=hfl 7 _ rfl;rw[z7]at g7;try simp only[List.drop_succ_cons,List.drop_zero,List.take_succ_cons,List.take_zero]at g7
 rw[List.getElem?_eq_getElem (by omega)]at g7;have z8:prog.cellsOf 75=7:=by kernel_rfl
 have g8:DataW.trod enc prog w base (fun _=>true) held n' 75 ((([c0,c1,c2,c3,c4,c5,c6,c7,c8,c9,c10,c11,c12,c13,c14,c15,c16,c17,c18,c19,c20,c21,Qg]:List Value).drop 16).take (prog.cellsOf 75))=ys[8]?:=hfl 8 _ rfl;rw[z8]at g8;try simp only[List.drop_succ_cons,List.drop_zero,List.take_succ_cons,List.take_zero]at g8
 rw[List.getElem?_eq_getElem (by omega)]at g8;obtain⟨x0,e0,-,w0⟩:=DataW.trod_int underlying3 g0;obtain rfl:=List.singleton_inj.1 e0;obtain⟨x1,e1,-,w1⟩:=DataW.trod_int underlying3 g1;obtain rfl:=List.singleton_inj.1 e1;obtain⟨x2,e2,-,w2⟩:=DataW.trod_int underlying3 g2;obtain rfl:=List.singleton_inj.1 e2;obtain⟨x3,e3,-,w3⟩:=DataW.trod_int underlying3 g3;obtain rfl:=List.singleton_inj.1 e3;obtain⟨x7,e7,-,w7⟩:=DataW.trod_int underlying3 g7;obtain rfl:=List.singleton_inj.1 e7;obtain⟨m,em⟩:=O9 rfl g4;obtain⟨r,er⟩:=Jw rfl g5
 obtain⟨x6,e6,-⟩:=DataW.trod_bool underlying4 g6;obtain rfl:=List.singleton_inj.1 e6;obtain⟨kk,WW,HH,pp,iw,ih,A,l,c,el,hp,r1,r2,r3,r4⟩:=JO rfl g8;unfold Mp.cs at em;unfold Bx.cs at er;simp only[List.cons.injEq,and_true]at em er el;obtain⟨rfl,rfl,rfl,rfl,rfl,rfl⟩:=em;obtain⟨rfl,rfl,rfl,rfl⟩:=er;obtain⟨rfl,rfl,rfl,rfl,rfl,rfl,rfl⟩:=el;exact⟨⟨⟨x0,x1,x2,x3,m,r,x6,x7,⟨kk,WW,HH,pp,iw,ih,l⟩⟩,A,c⟩,rfl,r1,⟨bounds_i64 w1,bounds_i64 w2,hp,r4,Nat.le_trans r2 r3⟩⟩
def Held(d:DataW H)(n:Nat):Prop:=n=0∨∃e s,d=.slice e s∧n<=e.length+s.length
theorem OB{x:Value}{y:DataW H×List MemPlace}(h:DataW.trod enc prog w base (fun _=>true) held k 98 [x]=some y):∃(A:Option Addr) (l:List gK) (cc:Nat),x=.slice A l.length cc∧Az w A l∧l.length<=maxLen∧Held y.1 l.length:=by
 rcases open_slice underlying98 h with ⟨hcs,_⟩|⟨⟨b,off,spot⟩,n,c,m,k',D,Pl,hcs,_,hl,hm,hmm,hy,hi⟩
 ·obtain rfl:=List.singleton_inj.1 hcs;exact⟨none,[],0,rfl,⟨fun h=>absurd h (by simp),fun z hz=>by cases hz⟩,by simp,.inl rfl⟩
 ·obtain rfl:=List.singleton_inj.1 hcs;simp only[if_true]at hmm;subst hmm;have hC:prog.cellsOf 85=23:=by kernel_rfl
  have hsp:0<n->spot=none:=fun h0=>by
   obtain⟨cs',hc,_⟩:=hi 0 (by omega);rw[hC]at hc;obtain⟨_,hcl,hat⟩:=World.cells?_some hc;have a0:=hat 0 (by omega);rw[List.getElem?_eq_getElem (by omega)]at a0
   simpa[Addr.add]using World.cell?_spot a0
  have one:∀i,i<n->∃q:gK,(∀j v,q.cs[j]?=some v->w.cell? ⟨b,off+i*23+j,none⟩=some v)∧Row eW w q.A q.o.lk.l∧IE q.o:=fun i hin=>by
   obtain⟨cs',hc,ht⟩:=hi i (by omega);rw[hC]at hc;obtain⟨_,hcl,hat⟩:=World.cells?_some hc;obtain⟨q,rfl,hr,ho⟩:=SG hcl ht;have hspot:spot=none:=hsp (by omega);subst hspot;refine⟨q,fun j v hj=>?_,hr,ho⟩
   have hlt:j<23:=by
    have:=(List.getElem?_eq_some_iff.1 hj).1
    rwa [gK.bV]at this
   have a0:=hat j hlt;rw[hj,qj,qj]at a0;exact a0
  obtain⟨xs,hxl,hxs⟩:=Dc one;refine⟨some ⟨b,off,spot⟩,xs,m,by rw[hxl],⟨fun hn=>⟨b,off,by rw[hsp (by omega)],fun j hj i v hv=>(hxs j hj).1 i v hv⟩,fun q hq=>?_⟩,by omega,.inr ⟨_,_,by rw[hy],by simp;omega⟩⟩;obtain⟨j,hj,rfl⟩:=List.mem_iff_getElem.1 hq;exact(hxs j hj).2
structure UO(w:World)(A:Option Addr)(L:List uS):Prop where
 row:aU 1 uS.cs w A L
 ops:∀q∈L,Az w q.A q.l
theorem Jp{x:Value}{y:DataW H×List MemPlace}(h:DataW.trod enc prog w base (fun _=>true) held k 22 [x]=some y):∃(A:Option Addr) (L:List uS) (cc:Nat),x=.slice A L.length cc∧UO w A L∧L.length<=maxLen ∧
  (L=[]∨∃e s,y.1=.slice e s∧L.length<=e.length+s.length∧∀q∈L,∃d∈e,Held d q.l.length):=by
 rcases open_slice underlying22 h with ⟨hcs,_⟩|⟨⟨b,off,spot⟩,n,c,m,k',D,Pl,hcs,_,hl,hm,hmm,hy,hi⟩
 ·obtain rfl:=List.singleton_inj.1 hcs;exact⟨none,[],0,rfl,⟨fun h=>absurd h (by simp),fun z hz=>by cases hz⟩,by simp,.inl rfl⟩
 ·obtain rfl:=List.singleton_inj.1 hcs;simp only[if_true]at hmm;subst hmm;have hC:prog.cellsOf 98=1:=by kernel_rfl
  have hsp:0<n->spot=none:=fun h0=>by
   obtain⟨cs',hc,_⟩:=hi 0 (by omega);rw[hC]at hc;obtain⟨_,hcl,hat⟩:=World.cells?_some hc;have a0:=hat 0 (by omega);rw[List.getElem?_eq_getElem (by omega)]at a0
   simpa[Addr.add]using World.cell?_spot a0
  have one:∀i,i<n->∃q:uS,w.cell? ⟨b,off+i,none⟩=some (.slice q.A q.l.length q.c)∧Az w q.A q.l∧Held (D i) q.l.length:=fun i hin=>by
   obtain⟨cs',hc,ht⟩:=hi i (by omega);rw[hC]at hc;obtain⟨_,hcl,hat⟩:=World.cells?_some hc
   obtain⟨c0,rfl⟩:∃c0,cs'=[c0]:=by
    match cs',hcl with
    |[c0],_=>exact⟨_,rfl⟩
   obtain⟨A,l,cc,rfl,ho,_,hh⟩:=OB ht;have hspot:spot=none:=hsp (by omega);subst hspot;have a0:=hat 0 (by omega);rw[qj,qj]at a0;simp only[Nat.add_zero,Nat.mul_one]at a0;exact⟨⟨A,cc,l⟩,a0,ho,hh⟩
  obtain⟨xs,hxl,hxs⟩:=Dc one;refine⟨some ⟨b,off,spot⟩,xs,m,by rw[hxl],⟨fun hn=>⟨b,off,by rw[hsp (by omega)],fun j hj i v hv=>?_⟩,fun q hq=>?_⟩,by omega,.inr ⟨_,_,by rw[hy],by simp;omega,fun q hq=>?_⟩⟩
  ·have hi0:i=0:=by
    have:=(List.getElem?_eq_some_iff.1 hv).1;rw[uS.bV]at this;omega
   subst hi0
   have e:(.slice xs[j].A xs[j].l.length xs[j].c:Value)=v:=by
    have h2:=hv;unfold uS.cs at h2
    simpa using h2
   rw[←e]
   simpa using(hxs j hj).1
  ·obtain⟨j,hj,rfl⟩:=List.mem_iff_getElem.1 hq;exact(hxs j hj).2.1
  ·obtain⟨j,hj,rfl⟩:=List.mem_iff_getElem.1 hq;exact⟨D j,List.mem_map.2 ⟨j,by simp;omega,rfl⟩,(hxs j hj).2.2⟩
end
section
variable {H:Type}{enc:TypeId×Value->H}{w:World}{base:Nat}{held:Bool}{a:Option Addr}{n c:Nat}{d:DataW H}{p:List MemPlace}
theorem RN(h:DataW.Trod enc prog w base (fun _=>true) held 22 (.slice a n c) d p):∃L:List uS,n=L.length∧UO w a L∧L.length<=maxLen ∧
  (L=[]∨∃e s,d=.slice e s∧L.length<=e.length+s.length∧∀q∈L,∃d'∈e,Held d' q.l.length):=by
 obtain⟨fuel,hf⟩:=h;obtain⟨A,l,cc,e,h1,h2,h3⟩:=Jp hf
 injection e with e1 e2 e3
 subst e1;exact⟨l,e2,h1,h2,h3⟩
end
section
variable {H:Type}{enc:TypeId×Value->H}{w:World}{base b0:Nat}{held:Bool}{r:Reach}{v:Value}{d:DataW H}{p:List MemPlace}
end
section
variable {H:Type}{ts:List TypeId}{ds:List (DataW H)}
theorem weightsAll_mem{e:TypeId}:∀{l:List (DataW H)} {d:DataW H},d∈l->∀n∈d.weights prog e,n∈DataW.weightsAll prog e l
 |d'::r,d,hd,n,hn=>by
  simp only[DataW.weightsAll,List.mem_append];rcases List.mem_cons.1 hd with rfl|h
  ·exact Or.inl hn
  ·exact Or.inr (weightsAll_mem h n hn)
theorem Cf(h:(DataW.weightsEach prog ts ds).all (·<=reachBytes)=true){j:Nat}{d:DataW H}{w:World}{A:Option Addr}{L:List uS}(ht:ts[j]?=some 22)(hd:ds[j]?=some d)(hr:UO w A L)(hm:L.length<=maxLen)
  (hh:L=[]∨∃e s,d=.slice e s∧L.length<=e.length+s.length∧∀q∈L,∃d'∈e,Held d' q.l.length):Lj w A L∧L.length*24<=140737488351232:=by
 have hm2:L.length<=9223372036854775807:=by unfold maxLen at hm;omega
 rcases hh with rfl|⟨e,s,rfl,hle,hq⟩
 ·exact⟨⟨hr.row,hr.ops,(fun q hq=>by cases hq),hm2⟩,by simp⟩
 have h1:=sized_slice h ht hd underlying22;rw[show prog.bytesOf 98=24 from by kernel_rfl,show reachBytes=140737488351232 from rfl]at h1;refine⟨⟨hr.row,hr.ops,fun q hq'=>?_,hm2⟩,by omega⟩;obtain⟨d',hd',hh⟩:=hq q hq';rcases hh with h0|⟨e',s',rfl,a5i⟩
 ·omega
 have h2:(e'.length+s'.length)*prog.bytesOf 85<=reachBytes:=by
  refine of_decide_eq_true (List.all_eq_true.1 h _ (DataW.weights_mem_each ht hd _ ?_));simp only[DataW.weights,underlying22,List.mem_cons,List.mem_append];exact Or.inr (Or.inl (weightsAll_mem hd' _ (by simp[DataW.weights,underlying98])))
 rw[show prog.bytesOf 85=200 from by kernel_rfl,show reachBytes=140737488351232 from rfl]at h2;omega
end
end
end Go.Proofs.YthmegninhpihkaaGreat
