import Derived.Test.YthmegninhpihkaaGreatVScBase
import Derived.Deep.Slices
import Derived.SizedLaws
set_option maxHeartbeats 16000000
set_option maxRecDepth 100000
open Go.Proofs.Tryz
namespace Go.Proofs.YthmegninhpihkaaGreat
section
open Go.RowKit Go.ChangeShapes Go.WideShapes Go.ChangeAt Go.Deep fG gm
section
variable {H:Type}{enc:TypeId×Value->H}{w:World}{base:Nat}{held:Bool}{k:Nat}
theorem Wy{x:Value}{y:DataW H×List MemPlace}(h:DataW.trod enc prog w base (fun _=>true) held k 71 [x]=some y):∃(A:Option Addr) (l:List Nat) (c:Nat),x=.slice A l.length c∧Row eW w A l∧l.length<=c∧c<=maxLen∧∀z∈l,z<4294967296:=by
 rcases open_ints underlying71 underlying70 ag h with ⟨hcs,_⟩|⟨a,l,c,zs,hcs,_,hl,hm,hz,_,hcell,hwz⟩
 ·obtain rfl:=List.singleton_inj.1 hcs;exact⟨none,[],0,rfl,Row.none_ rfl,nR,by unfold maxLen;omega,fun z hz=>by cases hz⟩
 ·obtain rfl:=List.singleton_inj.1 hcs;have hzl:zs.length=c:=by simpa using hz
  have hb:∀z∈zs,0<=z∧z<=4294967295:=fun z hz=>bounds_u32 (hwz z hz);have hll:((zs.take l).map Int.toNat).length=l:=by simp;omega
  refine⟨some a,(zs.take l).map Int.toNat,c,by rw[hll],fun hn=>?_,by rw[hll];exact hl,hm,fun z hz=>?_⟩
  ·rw[hll]at hn;obtain⟨b,off,spot⟩:=a;have h0:=hcell 0 (by omega);have hspot:spot=none:=by simpa[Addr.add]using World.cell?_spot h0
   subst hspot;refine⟨b,off,rfl,fun j hj=>?_⟩;rw[hll]at hj;have hc:=hcell j (by omega);rw[pX]at hc;rw[hc];have hj':j<zs.length:=by omega
   have h3:=hb zs[j] (List.getElem_mem hj');simp only[List.getElem_map,List.getElem_take,List.getD_eq_getElem?_getD,List.getElem?_eq_getElem hj',Option.getD_some,eW,Option.some.injEq,Value.int.injEq,true_and];omega
  ·simp only[List.mem_map]at hz;obtain⟨y,hy,rfl⟩:=hz;have:=hb y (List.mem_of_mem_take hy);omega
theorem OU{cs:List Value}{y:DataW H×List MemPlace}(hc:cs.length=6)(h:DataW.trod enc prog w base (fun _=>true) held k 67 cs=some y):∃m:Mp,cs=m.cs:=by
 obtain⟨c0,c1,c2,c3,c4,c5,rfl⟩:∃c0 c1 c2 c3 c4 c5,cs=[c0,c1,c2,c3,c4,c5]:=by
  match cs,hc with
  |[c0,c1,c2,c3,c4,c5],_=>exact⟨_,_,_,_,_,_,rfl⟩
 obtain⟨d,p⟩:=y;obtain⟨ys,n',_,hy,hlen,hyl,hfl⟩:=DataW.trod_struct underlying67 h;have Xc:ys.length=6:=hyl;have z0:prog.cellsOf 2=1:=by kernel_rfl
 have g0:DataW.trod enc prog w base (fun _=>true) held n' 2 ((([c0,c1,c2,c3,c4,c5]:List Value).drop 0).take (prog.cellsOf 2))=ys[0]?:=hfl 0 _ rfl;rw[z0]at g0;try simp only[List.drop_zero,List.take_succ_cons,List.take_zero]at g0
 rw[List.getElem?_eq_getElem (by omega)]at g0;have z1:prog.cellsOf 2=1:=by kernel_rfl
 have g1:DataW.trod enc prog w base (fun _=>true) held n' 2 ((([c0,c1,c2,c3,c4,c5]:List Value).drop 1).take (prog.cellsOf 2))=ys[1]?:=hfl 1 _ rfl;rw[z1]at g1;try simp only[List.drop_succ_cons,List.drop_zero,List.take_succ_cons,List.take_zero]at g1
 rw[List.getElem?_eq_getElem (by omega)]at g1;have z2:prog.cellsOf 2=1:=by kernel_rfl
 have g2:DataW.trod enc prog w base (fun _=>true) held n' 2 ((([c0,c1,c2,c3,c4,c5]:List Value).drop 2).take (prog.cellsOf 2))=ys[2]?:=hfl 2 _ rfl;rw[z2]at g2;try simp only[List.drop_succ_cons,List.drop_zero,List.take_succ_cons,List.take_zero]at g2
 rw[List.getElem?_eq_getElem (by omega)]at g2;have z3:prog.cellsOf 2=1:=by kernel_rfl
 have g3:DataW.trod enc prog w base (fun _=>true) held n' 2 ((([c0,c1,c2,c3,c4,c5]:List Value).drop 3).take (prog.cellsOf 2))=ys[3]?:=hfl 3 _ rfl;rw[z3]at g3;try simp only[List.drop_succ_cons,List.drop_zero,List.take_succ_cons,List.take_zero]at g3
 rw[List.getElem?_eq_getElem (by omega)]at g3;have z4:prog.cellsOf 2=1:=by kernel_rfl
 have g4:DataW.trod enc prog w base (fun _=>true) held n' 2 ((([c0,c1,c2,c3,c4,c5]:List Value).drop 4).take (prog.cellsOf 2))=ys[4]?:=hfl 4 _ rfl;rw[z4]at g4;try simp only[List.drop_succ_cons,List.drop_zero,List.take_succ_cons,List.take_zero]at g4
 rw[List.getElem?_eq_getElem (by omega)]at g4;have z5:prog.cellsOf 2=1:=by kernel_rfl
 have g5:DataW.trod enc prog w base (fun _=>true) held n' 2 ((([c0,c1,c2,c3,c4,c5]:List Value).drop 5).take (prog.cellsOf 2))=ys[5]?:=hfl 5 _ rfl;rw[z5]at g5;try simp only[List.drop_succ_cons,List.drop_zero,List.take_succ_cons,List.take_zero]at g5
 rw[List.getElem?_eq_getElem (by omega)]at g5;obtain⟨x0,e0,-,w0⟩:=DataW.trod_int underlying2 g0;obtain rfl:=List.singleton_inj.1 e0;obtain⟨x1,e1,-,w1⟩:=DataW.trod_int underlying2 g1;obtain rfl:=List.singleton_inj.1 e1;obtain⟨x2,e2,-,w2⟩:=DataW.trod_int underlying2 g2;obtain rfl:=List.singleton_inj.1 e2;obtain⟨x3,e3,-,w3⟩:=DataW.trod_int underlying2 g3;obtain rfl:=List.singleton_inj.1 e3;obtain⟨x4,e4,-,w4⟩:=DataW.trod_int underlying2 g4;obtain rfl:=List.singleton_inj.1 e4;obtain⟨x5,e5,-,w5⟩:=DataW.trod_int underlying2 g5;obtain rfl:=List.singleton_inj.1 e5
 exact⟨⟨x0,x1,x2,x3,x4,x5⟩,rfl⟩
theorem Jn{cs:List Value}{y:DataW H×List MemPlace}(hc:cs.length=4)(h:DataW.trod enc prog w base (fun _=>true) held k 69 cs=some y):∃m:Bx,cs=m.cs:=by
 obtain⟨c0,c1,c2,c3,rfl⟩:∃c0 c1 c2 c3,cs=[c0,c1,c2,c3]:=by
  match cs,hc with
  |[c0,c1,c2,c3],_=>exact⟨_,_,_,_,rfl⟩
 obtain⟨d,p⟩:=y;obtain⟨ys,n',_,hy,hlen,hyl,hfl⟩:=DataW.trod_struct underlying69 h;have Xc:ys.length=4:=hyl;have z0:prog.cellsOf 3=1:=by kernel_rfl
 have g0:DataW.trod enc prog w base (fun _=>true) held n' 3 ((([c0,c1,c2,c3]:List Value).drop 0).take (prog.cellsOf 3))=ys[0]?:=hfl 0 _ rfl;rw[z0]at g0;try simp only[List.drop_zero,List.take_succ_cons,List.take_zero]at g0
 rw[List.getElem?_eq_getElem (by omega)]at g0;have z1:prog.cellsOf 3=1:=by kernel_rfl
 have g1:DataW.trod enc prog w base (fun _=>true) held n' 3 ((([c0,c1,c2,c3]:List Value).drop 1).take (prog.cellsOf 3))=ys[1]?:=hfl 1 _ rfl;rw[z1]at g1;try simp only[List.drop_succ_cons,List.drop_zero,List.take_succ_cons,List.take_zero]at g1
 rw[List.getElem?_eq_getElem (by omega)]at g1;have z2:prog.cellsOf 3=1:=by kernel_rfl
 have g2:DataW.trod enc prog w base (fun _=>true) held n' 3 ((([c0,c1,c2,c3]:List Value).drop 2).take (prog.cellsOf 3))=ys[2]?:=hfl 2 _ rfl;rw[z2]at g2;try simp only[List.drop_succ_cons,List.drop_zero,List.take_succ_cons,List.take_zero]at g2
 rw[List.getElem?_eq_getElem (by omega)]at g2;have z3:prog.cellsOf 3=1:=by kernel_rfl
 have g3:DataW.trod enc prog w base (fun _=>true) held n' 3 ((([c0,c1,c2,c3]:List Value).drop 3).take (prog.cellsOf 3))=ys[3]?:=hfl 3 _ rfl;rw[z3]at g3;try simp only[List.drop_succ_cons,List.drop_zero,List.take_succ_cons,List.take_zero]at g3
 rw[List.getElem?_eq_getElem (by omega)]at g3;obtain⟨x0,e0,-,w0⟩:=DataW.trod_int underlying3 g0;obtain rfl:=List.singleton_inj.1 e0;obtain⟨x1,e1,-,w1⟩:=DataW.trod_int underlying3 g1;obtain rfl:=List.singleton_inj.1 e1;obtain⟨x2,e2,-,w2⟩:=DataW.trod_int underlying3 g2;obtain rfl:=List.singleton_inj.1 e2;obtain⟨x3,e3,-,w3⟩:=DataW.trod_int underlying3 g3;obtain rfl:=List.singleton_inj.1 e3;exact⟨⟨x0,x1,x2,x3⟩,rfl⟩
theorem GI{cs:List Value}{y:DataW H×List MemPlace}(hc:cs.length=3)(h:DataW.trod enc prog w base (fun _=>true) held k 73 cs=some y):∃(iw ih:Int) (A:Option Addr) (l:List Nat) (c:Nat),cs=(Vn iw ih A l.length c)∧Row eW w A l∧l.length<=c∧c<=maxLen∧∀z∈l,z<4294967296:=by
 obtain⟨c0,c1,c2,rfl⟩:∃c0 c1 c2,cs=[c0,c1,c2]:=by
  match cs,hc with
  |[c0,c1,c2],_=>exact⟨_,_,_,rfl⟩
 obtain⟨d,p⟩:=y;obtain⟨ys,n',_,hy,hlen,hyl,hfl⟩:=DataW.trod_struct underlying73 h;have Xc:ys.length=3:=hyl;have z0:prog.cellsOf 3=1:=by kernel_rfl
 have g0:DataW.trod enc prog w base (fun _=>true) held n' 3 ((([c0,c1,c2]:List Value).drop 0).take (prog.cellsOf 3))=ys[0]?:=hfl 0 _ rfl;rw[z0]at g0;try simp only[List.drop_zero,List.take_succ_cons,List.take_zero]at g0
 rw[List.getElem?_eq_getElem (by omega)]at g0;have z1:prog.cellsOf 3=1:=by kernel_rfl
 have g1:DataW.trod enc prog w base (fun _=>true) held n' 3 ((([c0,c1,c2]:List Value).drop 1).take (prog.cellsOf 3))=ys[1]?:=hfl 1 _ rfl;rw[z1]at g1;try simp only[List.drop_succ_cons,List.drop_zero,List.take_succ_cons,List.take_zero]at g1
 rw[List.getElem?_eq_getElem (by omega)]at g1;have z2:prog.cellsOf 71=1:=by kernel_rfl
 have g2:DataW.trod enc prog w base (fun _=>true) held n' 71 ((([c0,c1,c2]:List Value).drop 2).take (prog.cellsOf 71))=ys[2]?:=hfl 2 _ rfl;rw[z2]at g2;try simp only[List.drop_succ_cons,List.drop_zero,List.take_succ_cons,List.take_zero]at g2
 rw[List.getElem?_eq_getElem (by omega)]at g2;obtain⟨x0,e0,-,w0⟩:=DataW.trod_int underlying3 g0;obtain rfl:=List.singleton_inj.1 e0;obtain⟨x1,e1,-,w1⟩:=DataW.trod_int underlying3 g1;obtain rfl:=List.singleton_inj.1 e1;obtain⟨A,l,c,rfl,r1,r2,r3,r4⟩:=Wy g2;exact⟨x0,x1,A,l,c,rfl,r1,r2,r3,r4⟩
theorem JC{cs:List Value}{y:DataW H×List MemPlace}(hc:cs.length=7)(h:DataW.trod enc prog w base (fun _=>true) held k 75 cs=some y):∃(kk WW HH:Int) (pp:Nat) (iw ih:Int) (A:Option Addr) (l:List Nat) (c:Nat),cs=(Vj kk WW HH pp iw ih A l.length c)∧pp<4294967296∧Row eW w A l∧l.length<=c∧c<=maxLen∧∀z∈l,z<4294967296:=by
 obtain⟨c0,c1,c2,c3,c4,c5,c6,rfl⟩:∃c0 c1 c2 c3 c4 c5 c6,cs=[c0,c1,c2,c3,c4,c5,c6]:=by
  match cs,hc with
  |[c0,c1,c2,c3,c4,c5,c6],_=>exact⟨_,_,_,_,_,_,_,rfl⟩
 obtain⟨d,p⟩:=y;obtain⟨ys,n',_,hy,hlen,hyl,hfl⟩:=DataW.trod_struct underlying75 h;have Xc:ys.length=5:=hyl;have z0:prog.cellsOf 3=1:=by kernel_rfl
 have g0:DataW.trod enc prog w base (fun _=>true) held n' 3 ((([c0,c1,c2,c3,c4,c5,c6]:List Value).drop 0).take (prog.cellsOf 3))=ys[0]?:=hfl 0 _ rfl;rw[z0]at g0;try simp only[List.drop_zero,List.take_succ_cons,List.take_zero]at g0
 rw[List.getElem?_eq_getElem (by omega)]at g0;have z1:prog.cellsOf 3=1:=by kernel_rfl
 have g1:DataW.trod enc prog w base (fun _=>true) held n' 3 ((([c0,c1,c2,c3,c4,c5,c6]:List Value).drop 1).take (prog.cellsOf 3))=ys[1]?:=hfl 1 _ rfl;rw[z1]at g1;try simp only[List.drop_succ_cons,List.drop_zero,List.take_succ_cons,List.take_zero]at g1
 rw[List.getElem?_eq_getElem (by omega)]at g1;have z2:prog.cellsOf 3=1:=by kernel_rfl
 have g2:DataW.trod enc prog w base (fun _=>true) held n' 3 ((([c0,c1,c2,c3,c4,c5,c6]:List Value).drop 2).take (prog.cellsOf 3))=ys[2]?:=hfl 2 _ rfl;rw[z2]at g2;try simp only[List.drop_succ_cons,List.drop_zero,List.take_succ_cons,List.take_zero]at g2
 rw[List.getElem?_eq_getElem (by omega)]at g2;have z3:prog.cellsOf 70=1:=by kernel_rfl
 have g3:DataW.trod enc prog w base (fun _=>true) held n' 70 ((([c0,c1,c2,c3,c4,c5,c6]:List Value).drop 3).take (prog.cellsOf 70))=ys[3]?:=hfl 3 _ rfl;rw[z3]at g3;try simp only[List.drop_succ_cons,List.drop_zero,List.take_succ_cons,List.take_zero]at g3
 rw[List.getElem?_eq_getElem (by omega)]at g3;have z4:prog.cellsOf 73=3:=by kernel_rfl
 have g4:DataW.trod enc prog w base (fun _=>true) held n' 73 ((([c0,c1,c2,c3,c4,c5,c6]:List Value).drop 4).take (prog.cellsOf 73))=ys[4]?:=hfl 4 _ rfl;rw[z4]at g4;try simp only[List.drop_succ_cons,List.drop_zero,List.take_succ_cons,List.take_zero]at g4
 rw[List.getElem?_eq_getElem (by omega)]at g4;obtain⟨x0,e0,-,w0⟩:=DataW.trod_int underlying3 g0;obtain rfl:=List.singleton_inj.1 e0;obtain⟨x1,e1,-,w1⟩:=DataW.trod_int underlying3 g1;obtain rfl:=List.singleton_inj.1 e1;obtain⟨x2,e2,-,w2⟩:=DataW.trod_int underlying3 g2;obtain rfl:=List.singleton_inj.1 e2;obtain⟨x3,e3,-,w3⟩:=DataW.trod_int underlying70 g3;obtain rfl:=List.singleton_inj.1 e3;have b3:=bounds_u32 w3;obtain⟨iw,ih,A,l,c,ei,r1,r2,r3,r4⟩:=GI rfl g4;simp only[List.cons.injEq,and_true]at ei;obtain⟨rfl,rfl,rfl⟩:=ei
 obtain⟨pp,rfl⟩:∃pp:Nat,x3=(pp:Nat):=⟨x3.toNat,by omega⟩
 exact⟨x0,x1,x2,pp,iw,ih,A,l,c,rfl,by omega,r1,r2,r3,r4⟩
theorem RX{cs:List Value}{y:DataW H×List MemPlace}(hc:cs.length=23)(h:DataW.trod enc prog w base (fun _=>true) held k 85 cs=some y):∃q:iK,cs=q.cs∧Row eW w q.A q.o.lk.l∧Ip q.o:=by
 obtain⟨c0,c1,c2,c3,c4,c5,c6,c7,c8,c9,c10,c11,c12,c13,c14,c15,c16,c17,c18,c19,c20,c21,PW,rfl⟩:∃c0 c1 c2 c3 c4 c5 c6 c7 c8 c9 c10 c11 c12 c13 c14 c15 c16 c17 c18 c19 c20 c21 PW,cs=[c0,c1,c2,c3,c4,c5,c6,c7,c8,c9,c10,c11,c12,c13,c14,c15,c16,c17,c18,c19,c20,c21,PW]:=by
  match cs,hc with
  |[c0,c1,c2,c3,c4,c5,c6,c7,c8,c9,c10,c11,c12,c13,c14,c15,c16,c17,c18,c19,c20,c21,PW],_=>exact⟨_,_,_,_,_,_,_,_,_,_,_,_,_,_,_,_,_,_,_,_,_,_,_,rfl⟩
 obtain⟨d,p⟩:=y;obtain⟨ys,n',_,hy,hlen,hyl,hfl⟩:=DataW.trod_struct underlying85 h;have Xc:ys.length=9:=hyl;have z0:prog.cellsOf 3=1:=by kernel_rfl
 have g0:DataW.trod enc prog w base (fun _=>true) held n' 3 ((([c0,c1,c2,c3,c4,c5,c6,c7,c8,c9,c10,c11,c12,c13,c14,c15,c16,c17,c18,c19,c20,c21,PW]:List Value).drop 0).take (prog.cellsOf 3))=ys[0]?:=hfl 0 _ rfl;rw[z0]at g0;try simp only[List.drop_zero,List.take_succ_cons,List.take_zero]at g0
 rw[List.getElem?_eq_getElem (by omega)]at g0;have z1:prog.cellsOf 3=1:=by kernel_rfl
 have g1:DataW.trod enc prog w base (fun _=>true) held n' 3 ((([c0,c1,c2,c3,c4,c5,c6,c7,c8,c9,c10,c11,c12,c13,c14,c15,c16,c17,c18,c19,c20,c21,PW]:List Value).drop 1).take (prog.cellsOf 3))=ys[1]?:=hfl 1 _ rfl;rw[z1]at g1;try simp only[List.drop_succ_cons,List.drop_zero,List.take_succ_cons,List.take_zero]at g1
 rw[List.getElem?_eq_getElem (by omega)]at g1;have z2:prog.cellsOf 3=1:=by kernel_rfl
 have g2:DataW.trod enc prog w base (fun _=>true) held n' 3 ((([c0,c1,c2,c3,c4,c5,c6,c7,c8,c9,c10,c11,c12,c13,c14,c15,c16,c17,c18,c19,c20,c21,PW]:List Value).drop 2).take (prog.cellsOf 3))=ys[2]?:=hfl 2 _ rfl;rw[z2]at g2;try simp only[List.drop_succ_cons,List.drop_zero,List.take_succ_cons,List.take_zero]at g2
 rw[List.getElem?_eq_getElem (by omega)]at g2;have z3:prog.cellsOf 3=1:=by kernel_rfl
 have g3:DataW.trod enc prog w base (fun _=>true) held n' 3 ((([c0,c1,c2,c3,c4,c5,c6,c7,c8,c9,c10,c11,c12,c13,c14,c15,c16,c17,c18,c19,c20,c21,PW]:List Value).drop 3).take (prog.cellsOf 3))=ys[3]?:=hfl 3 _ rfl;rw[z3]at g3;try simp only[List.drop_succ_cons,List.drop_zero,List.take_succ_cons,List.take_zero]at g3
 rw[List.getElem?_eq_getElem (by omega)]at g3;have z4:prog.cellsOf 67=6:=by kernel_rfl
 have g4:DataW.trod enc prog w base (fun _=>true) held n' 67 ((([c0,c1,c2,c3,c4,c5,c6,c7,c8,c9,c10,c11,c12,c13,c14,c15,c16,c17,c18,c19,c20,c21,PW]:List Value).drop 4).take (prog.cellsOf 67))=ys[4]?:=hfl 4 _ rfl;rw[z4]at g4;try simp only[List.drop_succ_cons,List.drop_zero,List.take_succ_cons,List.take_zero]at g4
 rw[List.getElem?_eq_getElem (by omega)]at g4;have z5:prog.cellsOf 69=4:=by kernel_rfl
 have g5:DataW.trod enc prog w base (fun _=>true) held n' 69 ((([c0,c1,c2,c3,c4,c5,c6,c7,c8,c9,c10,c11,c12,c13,c14,c15,c16,c17,c18,c19,c20,c21,PW]:List Value).drop 10).take (prog.cellsOf 69))=ys[5]?:=hfl 5 _ rfl;rw[z5]at g5;try simp only[List.drop_succ_cons,List.drop_zero,List.take_succ_cons,List.take_zero]at g5
 rw[List.getElem?_eq_getElem (by omega)]at g5;have z6:prog.cellsOf 4=1:=by kernel_rfl
 have g6:DataW.trod enc prog w base (fun _=>true) held n' 4 ((([c0,c1,c2,c3,c4,c5,c6,c7,c8,c9,c10,c11,c12,c13,c14,c15,c16,c17,c18,c19,c20,c21,PW]:List Value).drop 14).take (prog.cellsOf 4))=ys[6]?:=hfl 6 _ rfl;rw[z6]at g6;try simp only[List.drop_succ_cons,List.drop_zero,List.take_succ_cons,List.take_zero]at g6
 rw[List.getElem?_eq_getElem (by omega)]at g6;have z7:prog.cellsOf 3=1:=by kernel_rfl
 have g7:DataW.trod enc prog w base (fun _=>true) held n' 3 ((([c0,c1,c2,c3,c4,c5,c6,c7,c8,c9,c10,c11,c12,c13,c14,c15,c16,c17,c18,c19,c20,c21,PW]:List Value).drop 15).take (prog.cellsOf 3))=ys[7]?:=hfl 7 _ rfl;rw[z7]at g7;try simp only[List.drop_succ_cons,List.drop_zero,List.take_succ_cons,List.take_zero]at g7
 rw[List.getElem?_eq_getElem (by omega)]at g7;have z8:prog.cellsOf 75=7:=by kernel_rfl
 have g8:DataW.trod enc prog w base (fun _=>true) held n' 75 ((([c0,c1,c2,c3,c4,c5,c6,c7,c8,c9,c10,c11,c12,c13,c14,c15,c16,c17,c18,c19,c20,c21,PW]:List Value).drop 16).take (prog.cellsOf 75))=ys[8]?:=hfl 8 _ rfl;rw[z8]at g8;try simp only[List.drop_succ_cons,List.drop_zero,List.take_succ_cons,List.take_zero]at g8
 rw[List.getElem?_eq_getElem (by omega)]at g8;obtain⟨x0,e0,-,w0⟩:=DataW.trod_int underlying3 g0;obtain rfl:=List.singleton_inj.1 e0;obtain⟨x1,e1,-,w1⟩:=DataW.trod_int underlying3 g1;obtain rfl:=List.singleton_inj.1 e1;obtain⟨x2,e2,-,w2⟩:=DataW.trod_int underlying3 g2;obtain rfl:=List.singleton_inj.1 e2;obtain⟨x3,e3,-,w3⟩:=DataW.trod_int underlying3 g3;obtain rfl:=List.singleton_inj.1 e3;obtain⟨x7,e7,-,w7⟩:=DataW.trod_int underlying3 g7;obtain rfl:=List.singleton_inj.1 e7;obtain⟨m,em⟩:=OU rfl g4;obtain⟨r,er⟩:=Jn rfl g5
 obtain⟨x6,e6,-⟩:=DataW.trod_bool underlying4 g6;obtain rfl:=List.singleton_inj.1 e6;obtain⟨kk,WW,HH,pp,iw,ih,A,l,c,el,hp,r1,r2,r3,r4⟩:=JC rfl g8;unfold Mp.cs at em;unfold Bx.cs at er;simp only[List.cons.injEq,and_true]at em er el;obtain⟨rfl,rfl,rfl,rfl,rfl,rfl⟩:=em;obtain⟨rfl,rfl,rfl,rfl⟩:=er;obtain⟨rfl,rfl,rfl,rfl,rfl,rfl,rfl⟩:=el;exact⟨⟨⟨x0,x1,x2,x3,m,r,x6,x7,⟨kk,WW,HH,pp,iw,ih,l⟩⟩,A,c⟩,rfl,r1,⟨bounds_i64 w1,bounds_i64 w2,hp,r4,Nat.le_trans r2 r3⟩⟩
def Held(d:DataW H)(n:Nat):Prop:=n=0∨∃e s,d=.slice e s∧n<=e.length+s.length
theorem Oj{x:Value}{y:DataW H×List MemPlace}(h:DataW.trod enc prog w base (fun _=>true) held k 98 [x]=some y):∃(A:Option Addr) (l:List iK) (cc:Nat),x=.slice A l.length cc∧AB w A l∧l.length<=maxLen∧Held y.1 l.length:=by
 rcases open_slice underlying98 h with ⟨hcs,_⟩|⟨⟨b,off,spot⟩,n,c,m,k',D,Pl,hcs,_,hl,hm,hmm,hy,hi⟩
 ·obtain rfl:=List.singleton_inj.1 hcs;exact⟨none,[],0,rfl,⟨fun h=>absurd h (by simp),fun z hz=>by cases hz⟩,by simp,.inl rfl⟩
 ·obtain rfl:=List.singleton_inj.1 hcs;simp only[if_true]at hmm;subst hmm;have hC:prog.cellsOf 85=23:=by kernel_rfl
  have hsp:0<n->spot=none:=fun h0=>by
   obtain⟨cs',hc,_⟩:=hi 0 (by omega);rw[hC]at hc;obtain⟨_,hcl,hat⟩:=World.cells?_some hc;have a0:=hat 0 (by omega);rw[List.getElem?_eq_getElem (by omega)]at a0
   simpa[Addr.add]using World.cell?_spot a0
  have one:∀i,i<n->∃q:iK,(∀j v,q.cs[j]?=some v->w.cell? ⟨b,off+i*23+j,none⟩=some v)∧Row eW w q.A q.o.lk.l∧Ip q.o:=fun i hin=>by
   obtain⟨cs',hc,ht⟩:=hi i (by omega);rw[hC]at hc;obtain⟨_,hcl,hat⟩:=World.cells?_some hc;obtain⟨q,rfl,hr,ho⟩:=RX hcl ht;have hspot:spot=none:=hsp (by omega);subst hspot;refine⟨q,fun j v hj=>?_,hr,ho⟩
   have hlt:j<23:=by
    have:=(List.getElem?_eq_some_iff.1 hj).1
    rwa [iK.bZ]at this
   have a0:=hat j hlt;rw[hj,pX,pX]at a0;exact a0
  obtain⟨xs,hxl,hxs⟩:=C9 one;refine⟨some ⟨b,off,spot⟩,xs,m,by rw[hxl],⟨fun hn=>⟨b,off,by rw[hsp (by omega)],fun j hj i v hv=>(hxs j hj).1 i v hv⟩,fun q hq=>?_⟩,by omega,.inr ⟨_,_,by rw[hy],by simp;omega⟩⟩;obtain⟨j,hj,rfl⟩:=List.mem_iff_getElem.1 hq;exact(hxs j hj).2
structure Uy(w:World)(A:Option Addr)(L:List uN):Prop where
 row:aV 1 uN.cs w A L
 ops:∀q∈L,AB w q.A q.l
theorem Jg{x:Value}{y:DataW H×List MemPlace}(h:DataW.trod enc prog w base (fun _=>true) held k 22 [x]=some y):∃(A:Option Addr) (L:List uN) (cc:Nat),x=.slice A L.length cc∧Uy w A L∧L.length<=maxLen ∧
  (L=[]∨∃e s,y.1=.slice e s∧L.length<=e.length+s.length∧∀q∈L,∃d∈e,Held d q.l.length):=by
 rcases open_slice underlying22 h with ⟨hcs,_⟩|⟨⟨b,off,spot⟩,n,c,m,k',D,Pl,hcs,_,hl,hm,hmm,hy,hi⟩
 ·obtain rfl:=List.singleton_inj.1 hcs;exact⟨none,[],0,rfl,⟨fun h=>absurd h (by simp),fun z hz=>by cases hz⟩,by simp,.inl rfl⟩
 ·obtain rfl:=List.singleton_inj.1 hcs;simp only[if_true]at hmm;subst hmm;have hC:prog.cellsOf 98=1:=by kernel_rfl
  have hsp:0<n->spot=none:=fun h0=>by
   obtain⟨cs',hc,_⟩:=hi 0 (by omega);rw[hC]at hc;obtain⟨_,hcl,hat⟩:=World.cells?_some hc;have a0:=hat 0 (by omega);rw[List.getElem?_eq_getElem (by omega)]at a0
   simpa[Addr.add]using World.cell?_spot a0
  have one:∀i,i<n->∃q:uN,w.cell? ⟨b,off+i,none⟩=some (.slice q.A q.l.length q.c)∧AB w q.A q.l∧Held (D i) q.l.length:=fun i hin=>by
   obtain⟨cs',hc,ht⟩:=hi i (by omega);rw[hC]at hc;obtain⟨_,hcl,hat⟩:=World.cells?_some hc
   obtain⟨c0,rfl⟩:∃c0,cs'=[c0]:=by
    match cs',hcl with
    |[c0],_=>exact⟨_,rfl⟩
   obtain⟨A,l,cc,rfl,ho,_,hh⟩:=Oj ht;have hspot:spot=none:=hsp (by omega);subst hspot;have a0:=hat 0 (by omega);rw[pX,pX]at a0;simp only[Nat.add_zero,Nat.mul_one]at a0;exact⟨⟨A,cc,l⟩,a0,ho,hh⟩
  obtain⟨xs,hxl,hxs⟩:=C9 one;refine⟨some ⟨b,off,spot⟩,xs,m,by rw[hxl],⟨fun hn=>⟨b,off,by rw[hsp (by omega)],fun j hj i v hv=>?_⟩,fun q hq=>?_⟩,by omega,.inr ⟨_,_,by rw[hy],by simp;omega,fun q hq=>?_⟩⟩
  ·have hi0:i=0:=by
    have:=(List.getElem?_eq_some_iff.1 hv).1;rw[uN.bZ]at this;omega
   subst hi0
   have e:(.slice xs[j].A xs[j].l.length xs[j].c:Value)=v:=by
    have h2:=hv;unfold uN.cs at h2
    simpa using h2
   rw[←e]
   simpa using(hxs j hj).1
  ·obtain⟨j,hj,rfl⟩:=List.mem_iff_getElem.1 hq;exact(hxs j hj).2.1
  ·obtain⟨j,hj,rfl⟩:=List.mem_iff_getElem.1 hq;exact⟨D j,List.mem_map.2 ⟨j,by simp;omega,rfl⟩,(hxs j hj).2.2⟩
end
section
variable {H:Type}{enc:TypeId×Value->H}{w:World}{base:Nat}{held:Bool}{a:Option Addr}{n c:Nat}{d:DataW H}{p:List MemPlace}
theorem Rl(h:DataW.Trod enc prog w base (fun _=>true) held 22 (.slice a n c) d p):∃L:List uN,n=L.length∧Uy w a L∧L.length<=maxLen ∧
  (L=[]∨∃e s,d=.slice e s∧L.length<=e.length+s.length∧∀q∈L,∃d'∈e,Held d' q.l.length):=by
 obtain⟨fuel,hf⟩:=h;obtain⟨A,l,cc,e,h1,h2,h3⟩:=Jg hf
 injection e with e1 e2 e3
 subst e1;exact⟨l,e2,h1,h2,h3⟩
end
section
variable {H:Type}{enc:TypeId×Value->H}{w:World}{base b0:Nat}{held:Bool}{r:Reach}{v:Value}{d:DataW H}{p:List MemPlace}
end
section
variable {H:Type}{ts:List TypeId}{ds:List (DataW H)}
theorem weightsAll_mem{e:TypeId}:∀{l:List (DataW H)} {d:DataW H},d∈l->∀n∈d.weights prog e,n∈DataW.weightsAll prog e l
 |d'::r,d,hd,n,hn=>by
  simp only[DataW.weightsAll,List.mem_append];rcases List.mem_cons.1 hd with rfl|h
  ·exact Or.inl hn
  ·exact Or.inr (weightsAll_mem h n hn)
theorem Cf(h:(DataW.weightsEach prog ts ds).all (·<=reachBytes)=true){j:Nat}{d:DataW H}{w:World}{A:Option Addr}{L:List uN}(ht:ts[j]?=some 22)(hd:ds[j]?=some d)(hr:Uy w A L)(hm:L.length<=maxLen)
  (hh:L=[]∨∃e s,d=.slice e s∧L.length<=e.length+s.length∧∀q∈L,∃d'∈e,Held d' q.l.length):KN w A L∧L.length*24<=140737488351232:=by
 have hm2:L.length<=9223372036854775807:=by unfold maxLen at hm;omega
 rcases hh with rfl|⟨e,s,rfl,hle,hq⟩
 ·exact⟨⟨hr.row,hr.ops,(fun q hq=>by cases hq),hm2⟩,by simp⟩
 have h1:=sized_slice h ht hd underlying22;rw[show prog.bytesOf 98=24 from by kernel_rfl,show reachBytes=140737488351232 from rfl]at h1;refine⟨⟨hr.row,hr.ops,fun q hq'=>?_,hm2⟩,by omega⟩;obtain⟨d',hd',hh⟩:=hq q hq';rcases hh with h0|⟨e',s',rfl,a4Z⟩
 ·omega
 have h2:(e'.length+s'.length)*prog.bytesOf 85<=reachBytes:=by
  refine of_decide_eq_true (List.all_eq_true.1 h _ (DataW.weights_mem_each ht hd _ ?_));simp only[DataW.weights,underlying22,List.mem_cons,List.mem_append];exact Or.inr (Or.inl (weightsAll_mem hd' _ (by simp[DataW.weights,underlying98])))
 rw[show prog.bytesOf 85=200 from by kernel_rfl,show reachBytes=140737488351232 from rfl]at h2;omega
end
end
section
open Go.RowKit Go.ChangeShapes Go.WideShapes Go.ChangeAt Go.Deep fG gm
section
variable {H:Type}{enc:TypeId×Value->H}{w:World}{base b0:Nat}{held:Bool}{r:Reach}{v:Value}{d:DataW H}{p:List MemPlace}
theorem N9{k:Nat}{c0 c1:Value}{y:DataW H×List MemPlace}(h:DataW.trod enc prog w base (fun _=>true) held k 55 [c0,c1]=some y) :
  ∃z0 z1 n,DataW.trod enc prog w base (fun _=>true) held n 3 [c0]=some z0∧DataW.trod enc prog w base (fun _=>true) held n 3 [c1]=some z1:=by
 have hce:prog.cellsOf 3=1:=by kernel_rfl
 cases k with
 |zero=>simp[DataW.trod]at h
 |succ n=>
  unfold DataW.trod at h;rw[underlying55]at h;have r2:List.range 2=[0,1]:=rfl;simp[r2,hce]at h;obtain⟨_,h⟩:=h;cases h0:DataW.trod enc prog w base (fun _=>true) held n 3 [c0]with
  |none=>rw[h0]at h;simp at h
  |some z0=>
   cases h1:DataW.trod enc prog w base (fun _=>true) held n 3 [c1]with
   |none=>rw[h0,h1]at h;simp at h
   |some z1=>exact⟨z0,z1,n,h0,h1⟩
theorem XF(hv:Value.okWide prog w r b0 55 v)(h:DataW.Trod enc prog w base (fun _=>true) held 55 v d p):∃x:Int×Int,v=.agg #[.int .i64 x.1,.int .i64 x.2]:=by
 obtain⟨cs,rfl,hsz,_⟩:∃cs,v=.agg cs∧cs.size=prog.cellsOf 55∧Row.okWide prog w r b0 55 cs:=by
  simpa[Value.okWide,underlying55]using hv
 obtain⟨fuel,hf⟩:=h;have hl:cs.toList.length=2:=by rw[Array.length_toList,hsz];kernel_rfl
 obtain⟨l⟩:=cs
 obtain⟨c0,c1,rfl⟩:∃c0 c1,l=[c0,c1]:=by
  match l,hl with
  |[c0,c1],_=>exact⟨_,_,rfl⟩
 obtain⟨z0,z1,n,h0,h1⟩:=N9 hf;obtain⟨x0,e0,-,-⟩:=DataW.trod_int underlying3 h0;obtain⟨x1,e1,-,-⟩:=DataW.trod_int underlying3 h1;obtain rfl:=List.singleton_inj.1 e0;obtain rfl:=List.singleton_inj.1 e1;exact⟨(x0,x1),rfl⟩
end
end
section
open Go.RowKit fG gm aF Go.Maps
theorem Ul{P:Program}{fn:Func}{p q:Tmp}{ty:TypeId}{tmps:Array Value}{w:World}{g:Nat}{cs:List Value}{d:TypeDesc}{v:Value}{Q:Ending->World->Prop}(hfn:fn.results=#[.tmp q,.cell p ty])
  (hp:tmps.getD p undef=.pointer (some ⟨g,0,none⟩)) (hq:tmps.getD q undef=v) (hB:az w g cs) (hu:P.underlying ty=some d) (hd:(match d with|.struct _|.array _ _=>true|_=>false)=true) (hi:(P.info? ty).map (·.size)=some cs.length)
  (h:Q (.returned (.tuple #[v,.agg cs.toArray])) w):bodyPost P fn Q Exit.ret { tmps:=tmps,defers:=[] } w:=by
 obtain⟨T,hg⟩:=hB;refine bodyPost_ret_by (v:=.tuple #[v,.agg cs.toArray]) ?_ rfl h;have hp':tmps[p]?.getD undef=.pointer (some ⟨g,0,none⟩):=by simpa using hp
 have hq':tmps[q]?.getD undef=v:=by simpa using hq
 simp[results,hfn,hp',hq',asAddr,run_loadVar_row w g T ty _ _ d hg hu hd (by simpa using hi)]
section
variable {w w':World}{g:Nat}{cs:List Value}{T:TypeId}
theorem wU.kx{v:Value}{n:Nd}(h:wU w v n)(hb:az w g cs)(hc:kE cs)(hk:KX g w w'):wU w' v n:=by
 obtain⟨A,c,e,hr⟩:=h;refine⟨A,c,e,hr.stays fun a ea hne=>hk.same _ (Row.lt hr.row ea hne) fun e2=>?_⟩;obtain⟨b,off,e3,hcl⟩:=hr.row (List.length_pos_iff.2 hne);rw[ea]at e3;obtain rfl:=Option.some.inj e3;have h1:=hcl 0 (List.length_pos_iff.2 hne);obtain rfl:b=g:=e2;have h2:=hb.cell (off+0);rw[h1]at h2;exact hc _ (List.mem_of_getElem? h2.symm) _ rfl
theorem fC.kx{v:Value}{a b M:Int}{x:aJ}(h:fC w v a b M x)(hb:au w g cs T)(hT:T≠128)(hc:kE cs)(hk:KX g w w'):fC w' v a b M x:=by
 obtain⟨tv,m,e,h1,h2⟩:=h;refine⟨tv,m,e,h1.stays fun _ _ a _ hy ea=>hk.same _ (by obtain⟨cs,fz,h3⟩:=hy a ea;exact lt_of_block h3) (hy.dR ea hb hT),?_⟩;have hne:=h2.tK hb.blk;obtain⟨es,g1,g2,g3⟩:=h2.ex;refine⟨es,g1.stays (hk.same _ g1.inside (Ne.symm hne)),g2,fun i hi=>?_⟩;obtain⟨v,e,hv⟩:=g3 i hi;exact⟨v,e,hv.kx hb.blk hc hk⟩
end
def Oa(p r:Nat):bF:=fun k=>k=p∨k=r
abbrev z5:List Value:=Vf
structure PlD(w0:World)(p r g b m:Nat)(s:Sh)(x:aJ)(w:World):Prop where
 blk:∃A c dm,au w p (Vb 8 8 30 A x.t.length c dm) 30∧aP w (.slice A x.t.length c) x.t∧dN w dm (has x.t) x.nd
 res:au w r z5 30
 my:UC w0 g b m s ⟨8,⟨8,30⟩,Oa p r⟩ x w
 pge:w0.heap.size<=p
 rlt:r<w0.heap.size
structure RV(r:Nat)(cs0 cs:List Value)(d:Bool)(w:World):Prop where
 no:d=false->az w r cs0
 yes:d=true->az w r cs
def NK(w:World)(e:Ending)(w':World):Prop:=∃g b m s v y,e=.returned (.tuple #[.pointer (some ⟨g,0,none⟩),v])∧UC w g b m s ⟨8,⟨8,30⟩,fun _=>False⟩ y w'∧fC w' v 8 8 30 y∧lV y∧y.t.length<=120
theorem Jr(A:Option Addr)(L:List uN)(c:Nat)(w:World)(h1:KN w A L)(hf:fits L) :
  Calls prog 9 (Vn 8 8 A L.length c).toArray w (NK w):=by
 have HT:=Hd h1;have HF:=Hd hf;have hlb:(L.length:Int)<=30:=by have:=hf.2.1;omega
 clear h1 hf;go_enter func9,ntmps9
 go_upto_region 1 with(fail)
 have XY:Hid (au (w.alloc (.cells Vf.toArray 30)) w.heap.size z5 30):=au.new w z5 30;have Zy:Hid (Below w.heap.size w (w.alloc (.cells Vf.toArray 30))):=bR.alloc nR _;generalize (w.alloc (.cells Vf.toArray 30))=wA at*
 obtain⟨r,hr⟩:=aC w.heap.size
 rw[hr]at XY Zy ⊢;have HRR:=Hd hr;clear hr;go_wp2_with (fail);refine(TU 8 8 30 wA).mono ?_;rintro e wB ⟨v3,rfl,hd3,hb3⟩;obtain⟨A2,c2,m2,rfl,ht3,Tq⟩:=hd3.ex;have EW:Hid (au wB r z5 30):=XY.o.stays (hb3.block _ XY.o.inside);have IV:Hid (Below r w wB):=Zy.o.trans (hb3.mono (Nat.le_of_lt XY.o.inside));have HT3:Hid (aP wB (.slice A2 aJ.new.t.length c2) aJ.new.t):=ht3;have sK:Hid (dN wB m2 (has aJ.new.t) aJ.new.nd):=Tq;have HZ:Hid (au (wB.alloc (.cells Vf.toArray 30)) wB.heap.size z5 30):=au.new wB z5 30
 have NU:Hid (Below wB.heap.size wB (wB.alloc (.cells Vf.toArray 30))):=bR.alloc nR _;clear hd3 hb3 ht3 Tq XY Zy
 go_upto_region 2 with(first|(with_reducible refine gS ?_;first|(refine ay 30 _ _ rfl rfl rfl _ 0 rfl ((Vb 8 8 30 A2 aJ.new.t.length c2 m2)) rfl (Vf) HZ.o.blk ((Vb 8 8 30 A2 aJ.new.t.length c2 m2)) rfl (nE rfl) ag rfl ?_;intro wC HWC EJ)))
 have Le:Hid (au wC wB.heap.size (Vb 8 8 30 A2 aJ.new.t.length c2 m2) 30):=HZ.o.wrote HWC.o EJ.o;have EL:Hid (Below wB.heap.size wB wC):=HWC.o.below NU.o nR;have QR:Hid (au wC r z5 30):=EW.o.stays (EL.o.block _ EW.o.inside);have qU:Hid (r<wB.heap.size):=EW.o.inside;have AP:Hid (aP wC (.slice A2 aJ.new.t.length c2) aJ.new.t):=HT3.o.below EL.o;have HMC:Hid (dN wC m2 (has aJ.new.t) aJ.new.nd):=sK.o.below EL.o;clear HZ NU HWC EJ EW HT3 sK
 obtain⟨p,hp⟩:=aC wB.heap.size
 have EG:=Hd hp;rw[hp]at Le EL qU ⊢;clear hp;have xM:=Hd (Sj (w:=wC) ⟨8,⟨8,30⟩,Oa p r⟩ (fun k hk=>hk.elim (fun e=>by rw[e];exact Le.o.inside) fun e=>by rw[e];exact QR.o.inside) ⟨show(1:Int)<=8 by decide,show(8:Int)<=4096 by decide⟩ ⟨show(1:Int)<=8 by decide,show(8:Int)<=4096 by decide⟩ ⟨show(1:Int)<=30 by decide,show(30:Int)<=65536 by decide⟩);go_wp2_with (fail);refine xM.o.mono ?_;unfold XJ;rintro e w2 ⟨g,b,m,s0,rfl,hs1,hb2,hf2,-⟩
 have HPL:Hid (PlD wB p r g b m s0 aJ.new w2):=⟨⟨A2,c2,m2,Le.o.stays (hb2.block _ Le.o.inside),AP.o.below hb2,HMC.o.below hb2⟩,QR.o.stays (hb2.block _ QR.o.inside),⟨hs1,fun k hk=>by have h1:=hf2 k hk;have h2:=Le.o.inside;rw[EG.o];omega,by show Below _ _ _;rw[EG.o];exact EL.o.trans (hb2.mono (Nat.le_of_lt Le.o.inside))⟩,Nat.le_of_eq EG.o,by rw[EG.o];exact qU.o⟩
 clear hs1 hb2 hf2 xM Le EL QR AP HMC
 go_upto_region 6 with(fail)
 go_loopw [36] (fun yE wr=>∃j:Nat,j<=L.length∧yE=.int .i64 j∧Hid (∃s x,PlD wB p r g b m s x wr∧lV x∧x.t.length<=total (L.take j))) (fun yE _=>L.length - (intOf yE).toNat)
 case atStart=>exact⟨0,Nat.zero_le _,rfl,s0,aJ.new,HPL.o,aJ.zh,Nat.zero_le _⟩
 case round=>
  obtain⟨j,hj,rfl,HX⟩:=hrel;generalize wr=wD at*;obtain⟨s,x,hpl,hsx,hlx⟩:=HX.o;obtain⟨Ad,cd,dm,hpb,hdt,hdm⟩:=hpl.blk;have BL:=Hd hpb;have HDT:=Hd hdt;have HDM:=Hd hdm;have I9:=Hd hpl.my;have Ld:=Hd hpl.res;have HPG:Hid (wB.heap.size<=p):=hpl.pge;have HSX:=Hd hsx;have HLX:=Hd hlx;clear hpl hsx hlx HX hpb hdt hdm HPL;by_cases hlt:j<L.length
  ·have t4:decide (j<L.length)=true:=by simpa using hlt
   have gQ:=Hd hlt
   have o5:Hid (Below w.heap.size w wD):=by
    rw[HRR.o];exact IV.o.trans (I9.o.bel.mono (by have:=qU.o;have:=EG.o;omega))
   obtain⟨lb,lo,rA,hcell⟩:=(HT.o.below o5.o).row (by omega);subst rA
   obtain⟨q,hq⟩:∃q,q=L[j]'hlt:=⟨_,rfl⟩
   have hqc:wD.cell? ⟨lb,lo+j,none⟩=some (.slice q.A q.l.length q.c):=by
    have:=hcell j hlt 0 (.slice q.A q.l.length q.c) (by rw[hq];rfl)
    rwa [Nat.mul_one,Nat.add_zero]at this
   have BK:Hid (q∈L):=by rw[hq];exact List.getElem_mem hlt
   have uO:Hid (L.take (j+1)=L.take j++[q]):=by rw[hq];exact List.take_succ_eq_append_getElem hlt
   have i0:=World.block_lt_of_cell? wD ⟨lb,_,none⟩ hqc
   have HQL:Hid (x.t.length+q.l.length<=total (L.take (j+1))∧total (L.take (j+1))<=120):=by
    refine⟨?_,Nat.le_trans (Je (j+1)) HF.o.2.2⟩;rw[uO.o,yJ];have:=HLX.o;omega
   have a2w:Hid (∀o∈q.l,o.o.lk.l.length<=300):=HF.o.1 q BK.o
   have EF:Hid (q.l.length<=1024->Room 30 x q.l.length):=fun _=>by
    have:=HQL.o;exact⟨by omega,.inl (by omega)⟩
   have V8:Hid (AB wD q.A q.l):=(HT.o.below o5.o).ops q BK.o;have dY:Hid (∀q'∈q.l,kK q'.o):=fun q' hq'=>(V8.o.px q' hq').2.ok (a2w.o q' hq');have HN:Hid (q.l.length<=100000):=by have:=HQL.o;show _<=_;omega
   have HA:=Hd (applied I9.o.at_ HSX.o q.l q.A q.c ((HT.o.ops q BK.o).at_ o5.o fun k hk=>by have h1:=I9.o.ft k hk;have h2:=qU.o;have h3:=EG.o;have h4:=HRR.o;omega) dY.o EF.o (by have:=HN.o;omega))
   have Qo:Hid (lV (bK 30 setSt x (q.l.map (·.o))).1):=HSX.o.apply fun o ho'=>by
    obtain⟨q',h1,h2⟩:=List.mem_map.1 ho';rw[←h2];exact dY.o q' h1
   have VY:Hid ((bK 30 setSt x (q.l.map (·.o))).1.t.length<=total (L.take (j+1))):=by
    have h1:=(KF (M:=30) (l:=q.l.map (·.o)) HSX.o.ok).1;rw[List.length_map]at h1;exact Nat.le_trans h1 HQL.o.1
   obtain⟨os,hos⟩:=aC (q.l.map (·.o))
   have HOS:=Hd hos;rw[hos]at HA Qo VY
   obtain⟨⟨y,ri,re⟩,hR⟩:∃R,bK 30 setSt x os=R:=⟨_,rfl⟩
   have HRQ:=Hd hR;have HA2:Hid (Calls prog 22 #[.pointer (some ⟨g,0,none⟩),.slice q.A q.l.length q.c] wD (wV g b m ⟨8,⟨8,30⟩,Oa p r⟩ s x (y,ri,re) wD)):=by rw[←hR];exact HA.o
   rw[hR]at Qo VY;have HFP:Hid (¬af b m s x.t p):=(I9.o.at_.old p (.inl rfl)).2.1;have HFR:Hid (¬af b m s x.t r):=(I9.o.at_.old r (.inr rfl)).2.1;clear hcell hq hlt hos hR HA hj
   go_upto_region 8 with(fail)
   clear hqc i0;go_wp2_with (fail);refine HA2.o.mono ?_;unfold wV;rintro e w1 ⟨s1,rfl,hs1,ht1⟩;simp only at hs1 ht1 ⊢;have kH:=Hd hs1;have E5:Hid (UC wB g b m s1 ⟨8,⟨8,30⟩,Oa p r⟩ y w1):=I9.o.turn hs1 ht1;have X0:Hid (au w1 p (Vb 8 8 30 Ad x.t.length cd dm) 30):=BL.o.stays (ht1.far p BL.o.inside HFP.o).2;have UT:Hid (au w1 r z5 30):=Ld.o.stays (ht1.far r Ld.o.inside HFR.o).2;have a3p:Hid (aP w1 (.slice Ad x.t.length cd) x.t):=aP.turn I9.o.at_ ht1 HDT.o
   have VF:Hid (dN w1 dm (has x.t) x.nd):=dN.turn I9.o.at_ ht1 HDM.o (ah.2 (.inl rfl));have a4r:=Hd ((HT.o.ops q BK.o));have FP:Hid (∀W,DR w1.heap.size w1 W->az W p (Vb 8 8 30 Ad x.t.length cd dm)):=fun W hr=>X0.o.blk.below' hr.bel
   have FR:Hid (∀W,DR w1.heap.size w1 W->Calls prog 27 #[.slice q.A q.l.length q.c] W (yz os W)):=fun W hr=>by
    have h1:=Jm q.l q.A q.c W (a4r.o.below (by
     show Below _ _ _;rw[HRR.o];have h2:r<=wB.heap.size:=by have:=qU.o;have:=EG.o;omega
     exact IV.o.trans ((E5.o.bel.mono h2).trans (hr.bel.mono (Nat.le_trans h2 E5.o.bel.size))))) a2w.o HN.o
    rw[HOS.o]at h1;exact h1
   have FC:Hid (∀W,DR w1.heap.size w1 W->∀A8 c8 l8,xK W A8 l8->l8.map (·.o)=os->Calls prog 26 #[.agg (Vb 8 8 30 Ad x.t.length cd dm).toArray,.slice A8 (l8:List iK).length c8] W fun e w'=>∃v',e=.returned (.tuple #[v',.int .i64 ri,.int .i64 re])∧DP 8 8 30 y 0 v' w'∧bz W w'):=fun W hr A8 c8 l8 hod Pe=>by
    have hlen:l8.length=q.l.length:=by
     have h1:=congrArg List.length (Pe.trans HOS.o.symm)
     rwa [List.length_map,List.length_map]at h1
    have h1:=J5 l8 A8 c8 8 8 30 (.agg (Vb 8 8 30 Ad x.t.length cd dm).toArray) x HSX.o W (EP.doc (a3p.o.below hr.bel) (VF.o.below hr.bel)) hod (fun q' hq'=>by
     have h2:q'.o∈q.l.map (·.o):=by rw[HOS.o,←Pe];exact List.mem_map_of_mem hq'
     obtain⟨q2,h3,h4⟩:=List.mem_map.1 h2;rw[←h4]
     exact dY.o q2 h3) (by (try show Below _ _ _);rw[hlen];exact EF.o) (by rw[hlen];have:=HN.o;omega)
    rw[Pe,HRQ.o]at h1;refine h1.mono ?_;unfold a1l;rintro e w' ⟨v',h2,h3,h4⟩;refine⟨v',h2,⟨?_,fun _=>h3⟩,h4⟩;obtain⟨A7,c7,m7,h5,-,-⟩:=h3.ex;rw[h5];exact QK _ _ _ _ _ _ _
   clear hs1 ht1 I9 BL Ld HDT HDM HA2 HFP HFR
   go_upto_region 9 with(fail)
   generalize w1=wS at*
   refine QC (DR wS.heap.size) (fun L V wx=>VJ wS.heap.size (L 8) (L 9) (V 15) (V 51) wx∧(L 9=true->L 5=true)∧(L 9=true->L 8=true)) [47,48,49,50,46,51,52,53,15,16,17] (fun _=>DR.refl _ _) (fun _ _ _ h k=>h.trans k) (fun i=>match i with
    |0=>rV (.agg ((Vb 8 8 30 Ad x.t.length cd dm)).toArray)
    |1=>rV (.slice q.A q.l.length q.c)
    |2=>ZK wS.heap.size os
    |3=>(⟨fun v wv=>∃v',v=.tuple #[v',.int .i64 ri,.int .i64 re]∧DP 8 8 30 y 0 v' wv,fun v q1 q2 h hb=>h.elim fun v' h=>⟨v',h.1,h.2.dr hb⟩⟩:regs.kW (DR wS.heap.size))
    |4=>(⟨fun v wv=>∃v',v=.tuple #[v',.int .i64 ri,.int .i64 re]∧DP 8 8 30 y 0 v' wv,fun v q1 q2 h hb=>h.elim fun v' h=>⟨v',h.1,h.2.dr hb⟩⟩:regs.kW (DR wS.heap.size))
    |5=>(⟨fun v wv=>DP 8 8 30 y 0 v wv,fun v q1 q2 h hb=>h.dr hb⟩:regs.kW (DR wS.heap.size))
    |6|10=>rV (.int .i64 ri)
    |7|11=>rV (.int .i64 re)
    |_=>ra) (DR.below bR.drew nR) (⟨VJ.start (Below.refl 0 _).drew.size,nofun,nofun⟩) ⟨?_,?_,?_,?_,?_,?_,?_,?_,?_,?_,?_,?_,trivial⟩ ?_
   ·refine fK fun L a Be hh=>?_;have h8:=hh.p 8 p 0;have hB:=Hd (FP.o _ hh.rel);have hJ:=Hd hh.st;exact aK 30 _ rfl p 0 (by simpa[go_sem]using h8) _ hB.o ((Vb 8 8 30 Ad x.t.length cd dm)) rfl _ underlying30 rfl ag ⟨_,rfl,DR.refl _ _,rfl,⟨VJ.slots hJ.o.1 sn sn,hJ.o.2⟩⟩
   ·refine fK fun L a Be hh=>?_;have h12:=hh.o 12 (v:=.slice q.A q.l.length q.c) rfl;have hJ:=hh.j;clear hh;go_simp;exact⟨_,rfl,DR.refl _ _,rfl,⟨VJ.slots hJ.o.1 sn sn,hJ.o.2⟩⟩
   ·refine fK fun L a Be hh=>?_;have h48:=rq (hh.d 1 48);have hC:=Hd (FR.o Be hh.rel);have hbz:=Hd (show wS.heap.size<=Be.heap.size from hh.rel.bel.size);have hJ:=Hd hh.st;have hsz:=Hd hh.size;have hun:=Hd hh.un;clear hh;go_simp;refine hC.o.mono ?_;unfold yz;rintro e w9 ⟨A9,c9,l9,rfl,a3Q,a3P,bD⟩;exact⟨_,rfl,DR.below bD hbz.o,⟨A9,c9,l9,rfl,a3Q,a3P⟩,⟨VJ.slots (VJ.below hJ.o.1 bD) sn sn,hJ.o.2⟩⟩
   ·refine fK fun L a Be hh=>?_;have h47:=rq (hh.d 0 47)
    obtain⟨A8,c8,l8,e8,a1T,Pe⟩:=(show ∃A c l9,(a.tmps.getD 49 undef)=.slice A (l9:List iK).length c∧xK Be A l9∧l9.map (·.o)=os from hh.d 2 49)
    have h49:a.tmps[49]?.getD undef=.slice A8 l8.length c8:=rq (e8);have hC:=Hd (FC.o Be hh.rel A8 c8 l8 a1T Pe);have hbz:=Hd (show wS.heap.size<=Be.heap.size from hh.rel.bel.size);have hJ:=Hd hh.st;have hsz:=Hd hh.size;have hun:=Hd hh.un;clear hh e8 a1T Pe;go_simp;refine hC.o.mono ?_;rintro e w9 ⟨v9,rfl,vO,bD⟩;exact⟨_,rfl,DR.below bD hbz.o,⟨v9,rfl,vO⟩,⟨VJ.slots (VJ.below hJ.o.1 bD) sn sn,hJ.o.2⟩⟩
   ·refine fK fun L a Be hh=>?_
    obtain⟨v8,e8,CV⟩:=(show ∃v',(a.tmps.getD 50 undef)=.tuple #[v',.int .i64 ri,.int .i64 re]∧DP 8 8 30 y 0 v' Be from hh.d 3 50)
    have h50:a.tmps[50]?.getD undef=.tuple #[v8,.int .i64 ri,.int .i64 re]:=rq (e8);have V7:=Hd CV;have hJ:=Hd hh.st;have hsz:=Hd hh.size;have hun:=Hd hh.un;clear hh e8 CV;go_simp;exact⟨_,rfl,DR.refl _ _,⟨v8,rfl,V7.o⟩,⟨VJ.slots hJ.o.1 sn sn,hJ.o.2⟩⟩
   ·refine fK fun L a Be hh=>?_
    obtain⟨v8,e8,CV⟩:=(show ∃v',(a.tmps.getD 46 undef)=.tuple #[v',.int .i64 ri,.int .i64 re]∧DP 8 8 30 y 0 v' Be from hh.d 4 46)
    have h46:a.tmps[46]?.getD undef=.tuple #[v8,.int .i64 ri,.int .i64 re]:=rq (e8);have V7:=Hd CV;have U4:=Hd (cO hh.st.2.1 hh.un);have hJ:=Hd hh.st;have hsz:=Hd hh.size;have hun:=Hd hh.un;clear hh e8 CV;go_simp;exact⟨_,rfl,DR.refl _ _,V7.o,⟨VJ.told hJ.o.1 U4.o sn,fun _=>rfl,hJ.o.2.2⟩⟩
   ·refine fK fun L a Be hh=>?_
    obtain⟨v8,e8,CV⟩:=(show ∃v',(a.tmps.getD 46 undef)=.tuple #[v',.int .i64 ri,.int .i64 re]∧DP 8 8 30 y 0 v' Be from hh.d 4 46)
    have h46:a.tmps[46]?.getD undef=.tuple #[v8,.int .i64 ri,.int .i64 re]:=rq (e8);have V7:=Hd CV;have hJ:=Hd hh.st;have hsz:=Hd hh.size;have hun:=Hd hh.un;clear hh e8 CV;go_simp;exact⟨_,rfl,DR.refl _ _,rfl,⟨VJ.slots hJ.o.1 sn sn,hJ.o.2⟩⟩
   ·refine fK fun L a Be hh=>?_
    obtain⟨v8,e8,CV⟩:=(show ∃v',(a.tmps.getD 46 undef)=.tuple #[v',.int .i64 ri,.int .i64 re]∧DP 8 8 30 y 0 v' Be from hh.d 4 46)
    have h46:a.tmps[46]?.getD undef=.tuple #[v8,.int .i64 ri,.int .i64 re]:=rq (e8);have V7:=Hd CV;have hJ:=Hd hh.st;have hsz:=Hd hh.size;have hun:=Hd hh.un;clear hh e8 CV;go_simp;exact⟨_,rfl,DR.refl _ _,rfl,⟨VJ.slots hJ.o.1 sn sn,hJ.o.2⟩⟩
   ·refine fK fun L a Be hh=>?_;have U4:=Hd (cO hh.st.2.2 hh.un);have hbz:=Hd (show wS.heap.size<=Be.heap.size from hh.rel.bel.size);have hJ:=Hd hh.st;have hsz:=Hd hh.size;have hun:=Hd hh.un;clear hh;go_simp;exact⟨_,rfl,DR.below (bR.alloc nR _) hbz.o,trivial,⟨VJ.made hJ.o.1 U4.o (bM.bI (by rw[hsz.o];simp)),hJ.o.2.1,fun _=>rfl⟩⟩
   ·refine fK fun L a Be hh=>?_;have hup:=hh.up 8 ag;obtain⟨g9,c9,h9,mZ,gK,VS,Xg,-⟩:=hh.st.1.ex hup
    obtain⟨⟨Ud,e8,QI,Ph,ho8⟩,hd8⟩:=(show DP 8 8 30 y 0 (a.tmps.getD 51 undef) Be from hh.d 5 51)
    have hJ:=Hd hh.st;have a0a:=Hd (hh.up 5 ag);refine dn 30 _ _ rfl g9 0 (by have h:=h9;unfold bM.sl at h;simpa[go_sem]using h) Ud (by simpa[go_sem]using e8) _ gK.blk (by rw[QI,Xg];decide) (by rw[QI];kernel_rfl) ho8 ?_;intro w9 ng BD
    have a0n:az w9 g9 Ud:=by
     have e:c9.take 0++Ud++c9.drop (0+Ud.length)=Ud:=by rw[QI,List.drop_of_length_le (by rw[Xg];decide)];simp
     rw[←e];exact BD
    have hP:=hJ.o.1.put h9 mZ gK VS ng a0n Ph QI e8;exact⟨undef,rfl,hP.2,trivial,⟨hP.1,fun _=>a0a.o,fun _=>hup⟩⟩
   ·refine fK fun L a Be hh=>?_;have h52:=rq (hh.d 6 52);have hJ:=hh.j;clear hh;go_simp;exact⟨_,rfl,DR.refl _ _,rfl,⟨VJ.slots hJ.o.1 sn sn,hJ.o.2⟩⟩
   ·refine fK fun L a Be hh=>?_;have h53:=rq (hh.d 7 53);have hJ:=hh.j;clear hh;go_simp;exact⟨_,rfl,DR.refl _ _,rfl,⟨VJ.slots hJ.o.1 sn sn,hJ.o.2⟩⟩
   intro L w4 val hL hJ hR hv;have h16:val 16=.int .i64 ri:=hv 10 16 ag;have h17:val 17=.int .i64 re:=hv 11 17 ag;have HR4:=Hd hR;obtain⟨g9,c9,e9,mZ,bD,VS,Xg,hv9⟩:=hJ.1.ex (hL 8 (by decide));have hv34:=hv9 (hL 9 (by decide));have hd34:DP 8 8 30 y 0 (val 51) w4:=hv 5 51 ag;have VH:=Hd hd34;have UI:=Hd hv34;have uT:=Hd (And.intro mZ bD);clear hv hL hJ hR hd34 hv34 mZ bD VS Xg hv9;simp only[regs.aG,List.map_cons,List.map_nil,h16,h17];simp only[Act.put,List.setIfInBounds_toArray,List.set_cons_zero,List.set_cons_succ];clear h16 h17
   skip
   rw[e9];clear e9;have XZ:Hid (au w4 p (Vb 8 8 30 Ad x.t.length cd dm) 30):=X0.o.stays (HR4.o.bel.block _ X0.o.inside);have a4n:Hid (au w4 r z5 30):=UT.o.stays (HR4.o.bel.block _ UT.o.inside);have gZ:Hid (UC wB g b m s1 ⟨8,⟨8,30⟩,Oa p r⟩ y w4):=E5.o.below HR4.o.bel;obtain⟨An,cn,mn,hvn,htn,hmn⟩:=(VH.o.2 rfl).ex
   have hcn:c9=(Vb 8 8 30 An y.t.length cn mn):=by
    have h1:=UI.o.symm.trans hvn
    injection h1 with h1
    have h2:=congrArg Array.toList h1
    simpa using h2
   subst hcn;have HTN:=Hd htn;have HMN:=Hd hmn;clear hvn htn hmn VH UI FP FR FC X0 UT E5 a3p VF kH;have q2:(re != re)=false:=by simp
   have q3:decide (re=re)=true:=by simp
   go_upto_region 13 with(first|(with_reducible refine gL ?_;first|(refine lF 30 _ rfl rfl _ 0 rfl ((Vb 8 8 30 An y.t.length cn mn)) uT.o.2.blk ((Vb 8 8 30 An y.t.length cn mn)) rfl _ underlying30 rfl ag ?_))|(with_reducible refine gS ?_;first|(refine ay 30 _ _ rfl rfl rfl _ 0 rfl ((Vb 8 8 30 An y.t.length cn mn)) rfl ((Vb 8 8 30 Ad x.t.length cd dm)) XZ.o.blk ((Vb 8 8 30 An y.t.length cn mn)) rfl (nE rfl) ag rfl ?_;intro w5 yA uS)))
   go_wp2_with (fail)
   go_roundw
   case rel=>
    refine⟨j+1,gQ.o,by go_num,s1,y,⟨⟨An,cn,mn,XZ.o.wrote yA.o uS.o,HTN.o.wrote XZ.o (by decide) yA.o,HMN.o.wrote XZ.o.blk (by unfold kE;simp) yA.o⟩,a4n.o.stays (yA.o.far (by have:=qU.o;omega)),⟨gZ.o.at_.part (E':=Oa p r) (fun k _ hk=>yA.o.far fun e=>hk (.inl e)) (fun k hk=>?_),gZ.o.ft,yA.o.below gZ.o.bel HPG.o⟩,HPG.o,by rw[EG.o];exact qU.o⟩,Qo.o,VY.o⟩;have hk':=gZ.o.at_.old k hk;exact⟨by rw[yA.o.size];exact hk'.1,.inl hk⟩
   case measure=>have:=gQ.o;simp[intOf];omega
  ·obtain rfl:j=L.length:=by omega
   have t4:decide (L.length<L.length)=false:=by simp
   clear hlt
   go_upto_region 14 with(fail)
   have FP:Hid (∀W,KX r wD W->az W p (Vb 8 8 30 Ad x.t.length cd dm)):=fun W hr=>by
    exact(BL.o.stays (hr.same p BL.o.inside (by have:=qU.o;omega))).blk
   refine wR (KX r) (fun L wx=>RV r z5 (Vb 8 8 30 Ad x.t.length cd dm) (L 3) wx) [60,61,6] (fun _=>KX.refl _ _) (fun _ _ _ h k=>h.trans k) (fun i=>match i with
    |0|2=>rp g 0
    |1=>rV (.agg ((Vb 8 8 30 Ad x.t.length cd dm)).toArray)
    |_=>ra) (KX.of_below bR.drew) (⟨fun _=>Ld.o.blk.below' bR.drew,nofun⟩) ⟨?_,?_,?_,?_,trivial⟩ ?_
   any_goals (first|refine zp fun L a w1 hh=>?_|fail)
   have h9:=hh.p 9 g 0;rotate_left
   ·have h8:=hh.p 8 p 0;have hB:=Hd (FP.o _ hh.rel);have hJ:=Hd hh.st;exact aK 30 _ rfl p 0 (by simpa[go_sem]using h8) _ hB.o ((Vb 8 8 30 Ad x.t.length cd dm)) rfl _ underlying30 rfl ag ⟨_,rfl,KX.refl _ _,rfl,hJ.o⟩
   have h60:=rq (hh.d 0 60);rotate_left
   ·have h7:=hh.p 7 r 0;have h61:=rq (hh.d 1 61);have rQ:=hh.st.no hh.un;refine dn 30 _ _ rfl r 0 (by simpa[go_sem]using h7) (Vb 8 8 30 Ad x.t.length cd dm) (by simpa[go_sem]using h61) _ rQ (nE rfl) ag (by rfl) ?_;intro w9 ng gK;exact⟨undef,rfl,KX.wrote ng,trivial,⟨nofun,fun _=>gK⟩⟩
   any_goals (have hJ:=hh.j;clear hh;go_simp;exact⟨_,rfl,KX.refl _ _,rfl,hJ.o⟩)
   intro L w4 val hL hJ hR hv;have h60:val 60=.pointer (some ⟨g,0,none⟩):=hv 0 60 ag;have h6:val 6=.pointer (some ⟨g,0,none⟩):=hv 2 6 ag;have HR4:=Hd hR;have HV4:=Hd (hJ.yes (hL 3 (by decide)));clear hv hL hJ hR;simp only[regs.aG,List.map_cons,List.map_nil,h60,h6];simp only[Act.put,List.setIfInBounds_toArray,List.set_cons_zero,List.set_cons_succ];clear h60 h6
   skip
   go_wp2_with (fail);refine Ul rfl rfl rfl HV4.o underlying30 rfl ag ?_;refine⟨g,b,m,s,.agg (Vb 8 8 30 Ad x.t.length cd dm).toArray,x,rfl,⟨I9.o.at_.part (E':=fun _=>False) (fun k hk hn=>HR4.o.same k hk fun e=>hn (.inr e)) (fun k hk=>hk.elim),fun k hk=>?_,?_⟩,?_,HSX.o,?_⟩
   ·have h1:=I9.o.ft k hk;have h2:=qU.o;have h3:=EG.o;have h4:=HRR.o;omega
   ·show Below _ _ _;rw[HRR.o];have h2:r<=wB.heap.size:=by have:=qU.o;have:=EG.o;omega
    exact IV.o.trans ((I9.o.bel.mono h2).trans (HR4.o.aQ nR (Nat.le_trans h2 I9.o.bel.size)))
   ·exact(EP.doc HDT.o HDM.o).kx Ld.o (by decide) (by unfold kE;simp) HR4.o
   ·have:=HLX.o;rw[List.take_length]at this;exact Nat.le_trans this HF.o.2.2
end
section
open Go.RowKit fG gm aF Go.Maps
theorem GZ{α β:Type}{f g:α->Option β}:∀{l:List α},(∀x∈l,f x=g x)->l.filterMap f=l.filterMap g
 |[],_=>rfl
 |a::l,h=>by
  rw[List.filterMap_cons,List.filterMap_cons,h a List.mem_cons_self,GZ fun x hx=>h x (List.mem_cons_of_mem _ hx)]
def kept(t:T)(i:Int)(q:It):Bool:=!(decide (q.i=i)||within t q.i i)
theorem Py{α:Type}(p:α->Bool){l:List α}{j:Nat}(hj:j<l.length)(h:p l[j]=true):(l.filter p)[((l.take j).filter p).length]?=some l[j]:=by
 have e:l.filter p=(l.take j).filter p++l[j]::(l.drop (j+1)).filter p:=by
  have e1:l=l.take j++l[j]::l.drop (j+1):=by rw[←List.drop_eq_getElem_cons hj,List.take_append_drop]
  conv=>lhs;rw[e1]
  rw[List.filter_append,List.filter_cons,if_pos h]
 rw[e,List.getElem?_append_right nR,Nat.sub_self];rfl
theorem G6{α:Type}(p:α->Bool){l:List α}{j:Nat}(hj:j<l.length):((l.take (j+1)).filter p).length=((l.take j).filter p).length+if p l[j]=true then 1 else 0:=by
 rw[List.take_succ_eq_append_getElem hj,List.filter_append,List.length_append]
 congr 1
 by_cases h:p l[j]=true
 ·rw[List.filter_cons,if_pos h,if_pos h];rfl
 ·rw[List.filter_cons,if_neg h,if_neg h];rfl
end
section
open Go.RowKit aF xk Go.Shelf
attribute [local go_sem] Oper.semAt_some
theorem Jc{r:Option Nat}{P:Program}{ops:Array Oper}{rest:List Oper}{o:Oper}{a:Act}{Q:Exit->Act->World->Prop}{w:World}(hd:∀c,o.op≠.defer c)(hgd:Region.wanted o (yielded ops a.tmps)=true)
  (h:o.wp P a w (wpListIn { Fence.wide with round:=r } 0 P ops Q rest) Q):wpListIn { Fence.wide with round:=r } 0 P ops Q (o::rest) a w:=by
 unfold wpListIn;rw[if_pos hgd];refine⟨fun _ _=>trivial,?_⟩;unfold Oper.wp at h;rw[show({ Fence.wide with round:=r }:Fence).round=r from rfl,Oper.semAt_eq _ _ _ hd];generalize (execOp a.eval o).run P w=x at*;cases x with
 |ok y w'=>
  cases y<;>simp only[Oper.upon,Oper.uponIn]at h ⊢<;>first
   |exact h
   |exact⟨nofun,callsIn_wide.2 h⟩
   |exact⟨nofun,fun c cs _=>let ⟨v,w',r,s⟩:=h c cs;⟨v,w',r,stepsIn_wide.2 s⟩⟩
 |halt y w'=>cases y<;>simp only[Oper.upon,Oper.uponIn]at h ⊢<;>exact h
def MC(l:List Int):Bool:=l.all fun n=>decide (-16384<=n)&&decide (n<=16383)
theorem WN{l:List Int}{k:Nat}(h:k<l.length)(hb:l[k] < -16384∨16383<l[k]):MC l=false:=by
 unfold MC;rw[List.all_eq_false];exact⟨_,List.getElem_mem h,by rcases hb with hb|hb<;>simp<;>omega⟩
theorem RY{l:List Int}{k:Nat}(h:k<l.length)(ha:MC (l.take k)=true)(hb:-16384<=l[k]∧l[k]<=16383):MC (l.take (k+1))=true:=by
 unfold MC at*;rw[List.take_succ_eq_append_getElem h,List.all_append,ha];simp[hb.1,hb.2]
theorem WZ(l:List Int)(A:Option Addr)(c:Nat)(w:World)(hr:Row eI w A l)(hl:l.length<=1000):Calls prog 62 #[.slice A l.length c] w (aZ (.bool (MC l)) w):=by
 have HR:=Hd hr;have HL:=Hd hl;clear hr hl;go_enter func62,ntmps62;go_wp2_with (fail)
 go_loopw [7] (fun i wr=>∃k:Nat,k<=l.length∧i=.int .i64 k∧Hid (MC (l.take k)=true)∧Hid (bz w wr)) (fun i _=>l.length - (intOf i).toNat)
 case atStart=>exact⟨0,Nat.zero_le _,rfl,by show _=_;simp[MC],bR⟩
 case round=>
  obtain⟨k,hk,rfl,HA,HB⟩:=hrel;generalize wr=wj at*;have hlb:(l.length:Int)<=1000:=by have:=HL.o;omega
  by_cases hlt:k<l.length
  ·have t1:decide (k<l.length)=true:=by simpa using hlt
   obtain⟨b,o,rA,kc⟩:=(HR.o.below HB.o).at_ hlt;have HBD:=Hd (WN hlt);have Qo:=Hd (RY hlt HA.o);have gQ:=Hd hlt;unfold eI at kc;generalize l[k]=n at*;subst rA;by_cases h1:n < -16384
   ·have t2:decide (n < -16384)=true:=decide_eq_true h1;have HX:=Hd (HBD.o (.inl h1));clear h1;go_wp2_with (fail);go_ret;exact⟨by rw[HX.o];rfl,HB.o⟩
   ·have t2:decide (n < -16384)=false:=decide_eq_false h1;by_cases h2:16383<n
    ·have t3:decide (16383<n)=true:=decide_eq_true h2;have HX:=Hd (HBD.o (.inr h2));clear h1 h2;go_wp2_with (fail);go_ret;exact⟨by rw[HX.o];rfl,HB.o⟩
    ·have t3:decide (16383<n)=false:=decide_eq_false h2;have HX:=Hd (Qo.o ⟨by omega,by omega⟩);clear h1 h2;go_wp2_with (fail)
     go_roundw
     case rel=>exact⟨k+1,gQ.o,by go_num,HX.o,HB.o⟩
     case measure=>have:=gQ.o;simp[intOf];omega
  ·obtain rfl:k=l.length:=by omega
   have t1:decide (l.length<l.length)=false:=by simp
   rw[List.take_length]at HA;clear hlt hk;go_wp2_with (fail);go_ret;exact⟨by rw[HA.o];rfl,HB.o⟩
theorem Ky(A:Option Addr)(n c:Nat)(w:World):Calls prog 63 #[.slice A n c] w fun e w'=>e=.returned (.func (.func 86) #[] #[.pointer (some ⟨w.heap.size,0,none⟩)])∧w'=w.alloc (.cells #[.slice A n c] jR):=by
 go_enter func63,ntmps63;go_wp2_with (fail);go_ret;exact⟨rfl,rfl⟩
structure uJ(bx:Nat)(A:Option Addr)(c:Nat)(l:List jl)(W:World):Prop where
 box:W.cell? ⟨bx,0,none⟩=some (.slice A l.length c)
 row:aV 22 jl.cs W A l
def oM(l:List jl):List (Array Value):=(List.range l.length).map fun j=>#[.int .i64 ((l.length:Int) - 1 - (j:Nat)),.agg ((l.map jl.cs).getD (l.length - 1 - j) []).toArray]
theorem jW(l:List jl):(oM l).length=l.length:=by simp[oM]
theorem Dk(l:List jl){j:Nat}(hj:j<(oM l).length):(oM l)[j]=#[.int .i64 ((l.length:Int) - 1 - (j:Nat)),.agg ((l.map jl.cs).getD (l.length - 1 - j) []).toArray]:=by simp[oM]
theorem Kw{bx:Nat}{A:Option Addr}{c:Nat}{l:List jl}{W:World}(hl:l.length<=100000)(h:uJ bx A c l W) :
  uF prog 86 #[.pointer (some ⟨bx,0,none⟩)] (oM l) (fun _=>Eq) (fun A' B=>uJ bx A c l A'->uJ bx A c l B) W:=by
 intro lp J Jx _ _ hY h0;have HY:=Hd hY;have HL:=Hd hl;have c0:=h.box;have HB:=Hd h;clear hY hl h;refine(callsIn_wide (n:=0)).1 (callsIn_of_wp func86 rfl trivial ?_ rfl);simp only[ntmps86,List.size_toArray,List.length_cons,List.length_nil,Nat.reduceAdd,Nat.reduceSub,Array.replicate_succ,Array.replicate_zero,List.push_toArray,List.append_toArray,List.nil_append,List.cons_append];have hlb:(l.length:Int)<=100000:=by have:=HL.o;omega
 gi_wp2_with (fail)
 gi_loopw [3] (fun x wr=>∃j:Nat,j<=l.length∧x=.int .i64 ((l.length:Int) - 1 - (j:Nat))∧Hid (J j wr)∧Hid (uJ bx A c l wr)) (fun x _=>(intOf x+1).toNat)
 case atStart=>exact⟨0,Nat.zero_le _,by simp,h0,HB⟩
 case round=>
  obtain⟨j,hj,rfl,HJ,HK⟩:=hrel;by_cases hlt:j<l.length
  ·have hlt':j<(oM l).length:=by rw[jW];exact hlt
   obtain⟨fn,tmps,assign,body,hy,hR⟩:=HY.o j hlt' wr HJ.o;rw[Dk]at hy
   obtain⟨m,hm⟩:=aC (l.length - 1 - j)
   have e:(l.length:Int) - 1 - (j:Nat)=(m:Nat):=by omega
   have hml:m<l.length:=by omega
   have e2:((m:Nat):Int) - 1=(l.length:Int) - 1 - ((j+1:Nat):Int):=by omega
   obtain⟨g,o,rA,hc⟩:=HK.o.row (Nat.lt_of_le_of_lt (Nat.zero_le m) hml);rw[hm,List.getD_eq_getElem?_getD,List.getElem?_map,List.getElem?_eq_getElem hml,Option.map_some,Option.getD_some]at hy;have oZ:Hid (wr.rangeAt g (o+m*22) (l[m].cs)):=fun i v hv=>hc m hml i v hv;have cb:=HK.o.box;subst rA;rw[e]at hy ⊢;generalize l[m]=q at*;have i2:g<wr.heap.size:=World.block_lt_of_cell? wr ⟨g,_,none⟩ (oZ.o 0 (.int .i64 q.it.i) rfl);have hmb:((m:Nat):Int)<=100000:=by omega
   have HE2:=Hd e2;have HM:=Hd hm;have HR:=Hd hR;clear e e2 hm hR hc
   gi_wp2_with ((with_reducible show wpListIn _ _ _ _ _ (Oper.mk _ (Op.load 167 _) _ _ _ _::_) _ _);refine Jc (r:=none) (fun _ e=>nomatch e) rfl (wp_load_mid 167 _ rfl g (o+m*22) (by simp[go_sem]) q.cs _ oZ.o underlying167 rfl ag ?_))
   refine⟨rfl,HR.o.mono ?_⟩;rintro e W3 ⟨-,(⟨rfl,hJ3,hk3⟩|⟨rfl,hJx3⟩)⟩
   ·have HB3:Hid (uJ bx (some ⟨g,o,none⟩) c l W3):=hk3 HK.o;have uI:=Hd hJ3;clear hJ3 hk3 HJ HK oZ
    gi_wp2_with (fail)
    go_roundw
    case rel=>exact⟨j+1,by omega,by rw[←HE2.o],uI,HB3⟩
    case measure=>simp[intOf]
   ·have uI:=Hd hJx3;clear hJx3 HJ HK oZ
    gi_wp2_with (fail)
    refine bodyPost_ret (results_none rfl _ _ _) rfl ?_;exact⟨⟨_,rfl⟩,.inr ⟨j+1,by rw[jW];omega,uI.o⟩⟩
  ·have e:(l.length:Int) - 1 - (j:Nat)=-1:=by omega
   obtain rfl:j=l.length:=by omega
   have HJ2:Hid (J (oM l).length wr):=by rw[jW];exact HJ
   rw[e];clear e HJ HK
   gi_wp2_with (fail)
   go_end0
   exact⟨⟨_,rfl⟩,.inl HJ2.o⟩
end
end Go.Proofs.YthmegninhpihkaaGreat
