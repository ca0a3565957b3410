import Derived.Test.YthoildbfghfhpaaGreatQScF
import Derived.Maps.OwnSet
import Derived.Maps.Ext
import Derived.LaidEqlPtr
import Derived.Shelf.SlicesE.Delete
set_option maxHeartbeats 16000000
set_option maxRecDepth 100000
namespace Go.Proofs.YthoildbfghfhpaaGreat
open Go.RowKit trm
def rcs (r:Int×Int):List Value:=[.int .i64 r.1,.int .i64 r.2]
abbrev RRow (w:World) (A:Option Addr) (t:T):Prop:=SRow 2 rcs w A t
theorem RRow.at_ {w:World} {A:Option Addr} {l:T} (h:RRow w A l) {j:Nat} (hj:j<l.length):∃ b off,A=some ⟨b,off,none⟩∧w.cell? ⟨b,off+j*2,none⟩=some (.int .i64 l[j].1)∧w.cell? ⟨b,off+j*2+1,none⟩=some (.int .i64 l[j].2):=by
 obtain ⟨b,off,e,hc⟩:=h (by omega);exact ⟨b,off,e,hc j hj 0 _ rfl,hc j hj 1 _ rfl⟩
def ic (z:Int):List Value:=[.int .i64 z]
theorem ic_len (z:Int):(ic z).length=1:=rfl
theorem ic_plain (z:Int):∀ u∈ic z,u.oneCell'=true:=by
 intro u hu;simp only [ic,List.mem_singleton] at hu;subst hu;rfl
abbrev IOwn (w:World) (base:Nat) (v:Value) (l:List Int):Prop:=SOwn 3 1 ic w base v l
theorem info_int:(Tryz.prog.info? 3).map (fun i=>(i.zero,i.size,i.bytes))=some (some (.int .i64 0),1,8):=by kernel_rfl
theorem IOwn.irow {w:World} {base:Nat} {v:Value} {l:List Int} (h:IOwn w base v l):∃ A c,v=.slice A l.length c∧l.length<=c∧c<=maxLen∧Row eI w A l:=by
 obtain ⟨A,c,h1,h2,h3,h4⟩:=h.row ic_len;refine ⟨A,c,h1,h2,h3,fun hn=>?_⟩;obtain ⟨b,off,e,hc⟩:=h4 hn;refine ⟨b,off,e,fun j hj=>?_⟩;have:=hc j hj 0 _ rfl;rw [Nat.mul_one,Nat.add_zero] at this;exact this
theorem app_one {w:World} {base:Nat} {v:Value} {l:List Int} (h:IOwn w base v l) (x:Int) {c:Nat} (hn:l.length<=900000000) (hbase:base<=w.heap.size) :
  ∃ v' w',(Builtin.append_ #[42,42] 42 #[v,.slice (some ⟨w.heap.size,0,none⟩) 1 c]).run Tryz.prog (w.alloc (.cells #[.int .i64 x] 3))=.ok v' w'∧IOwn w' base v' (l++[x]) ∧
   (w.alloc (.cells #[.int .i64 x] 3)).grownBy w' v.ownBlock∧(v'.ownBlock=v.ownBlock∨v'.ownBlock=some (w.heap.size+1)):=by
 obtain ⟨v',w',h1,h2,h3,h4⟩:=SOwn.app (P:=Tryz.prog) (xs:=[x]) (c:=c) (g:=w.heap.size) (o:=0) Tryz.underlying42 info_int rfl (by decide) (by decide) ic_len ic_plain
  (h.below (bR.alloc nR (.cells #[.int .i64 x] 3))) (fun _=>srow_new (enc:=ic) ic_len w [x] _ rfl) (by simp;omega) (by simp;omega)
 refine ⟨v',w',h1,h2,h3,?_⟩
 simpa using h4
end Go.Proofs.YthoildbfghfhpaaGreat
namespace Go.Proofs.YthoildbfghfhpaaGreat
open Go.RowKit trm
theorem kids_le (t:T) (p:Int):(kids t p).length<=t.length:=by
 unfold kids;rw [List.length_map];exact List.length_filter_le _ _
def KidsQ (l:List Int) (w:World) (e:Ending) (w':World):Prop:=∃ v,e=.returned v∧IOwn w' w.heap.size v l∧Below w.heap.size w w'
end Go.Proofs.YthoildbfghfhpaaGreat
namespace Go.Proofs.YthoildbfghfhpaaGreat
open Go.RowKit trm
end Go.Proofs.YthoildbfghfhpaaGreat
namespace Go.Proofs.YthoildbfghfhpaaGreat
open Go.RowKit trm
end Go.Proofs.YthoildbfghfhpaaGreat
namespace Go.Proofs.YthoildbfghfhpaaGreat
open Go.RowKit trm
theorem walk_le {t:T} (ok:Ok t) {i:Int} (hi:i=0∨i∈ids t):(trm.walk t i).length<=t.length+1:=by
 rw [← walk_len ok];refine len_of_sub (walk_nodup ok i) fun x hx=>walk_all ok |>.2 ?_
 rcases (walk_mem ok hi).1 hx with rfl | h
 ·exact has_iff.2 hi
 ·exact has_iff.2 (.inr (within_has h).1)
theorem walk_some {t:T} (ok:Ok t) (i:Int):0<(trm.walk t i).length:=by rw [walk_eq ok];simp
theorem app_int {w:World} {base:Nat} {v:Value} {l:List Int} (h:IOwn w base v l) {g o c:Nat} {xs:List Int} (hx:Row eI w (some ⟨g,o,none⟩) xs) (hn:l.length+xs.length<=900000000) (hbase:base<=w.heap.size) :
  ∃ v' w',(Builtin.append_ #[42,42] 42 #[v,.slice (some ⟨g,o,none⟩) xs.length c]).run Tryz.prog w=.ok v' w'∧IOwn w' base v' (l++xs) ∧
   w.grownBy w' v.ownBlock∧(v'.ownBlock=v.ownBlock∨v'.ownBlock=some w.heap.size):=
 SOwn.app (P:=Tryz.prog) Tryz.underlying42 info_int rfl (by decide) (by decide) ic_len ic_plain h (fun _ hn=>by
  obtain ⟨b,off,e,hc⟩:=hx hn;refine ⟨b,off,e,fun j hj i v hv=>?_⟩;have hi:i=0:=by have:=(List.getElem?_eq_some_iff.1 hv).1;simp [ic] at this;exact this
  subst hi;rw [Nat.mul_one,Nat.add_zero,hc j hj]
  exact hv) (by omega) hbase
end Go.Proofs.YthoildbfghfhpaaGreat
namespace Go.Proofs.YthoildbfghfhpaaGreat
open Go.RowKit trm
def RTyp (w:World) (A:Option Addr):Prop:=∀ a,A=some a->∃ cs fz,w.heap[a.block]?=some (.cells cs 132 fz)
theorem RTyp.below {w w':World} {A:Option Addr} (h:RTyp w A) (hb:Below w.heap.size w w'):RTyp w' A:=fun a e=>by
 obtain ⟨cs,fz,h1⟩:=h a e;exact ⟨cs,fz,(hb.block _ (lt_of_block h1)).trans h1⟩
def DTree (w:World) (v:Value) (t:T):Prop:=∃ A c,v=.slice A t.length c∧RRow w A t∧RTyp w A
theorem DTree.below {w w':World} {v:Value} {t:T} (h:DTree w v t) (hb:Below w.heap.size w w'):DTree w' v t:=by
 obtain ⟨A,c,e,hr,hy⟩:=h;exact ⟨A,c,e,SRow.below hr hb,hy.below hb⟩
end Go.Proofs.YthoildbfghfhpaaGreat
namespace Go.Proofs.YthoildbfghfhpaaGreat
open Go.RowKit trm
end Go.Proofs.YthoildbfghfhpaaGreat
namespace Go.Proofs.YthoildbfghfhpaaGreat
open Go.RowKit Go.Maps omap Go.WideShapes
abbrev lt:Int->Int->Bool:=fun a b=>decide (a<b)
theorem ord:omap.Ord lt where
 irr a:=by simp
 tr a b c h1 h2:=by
  simp only [decide_eq_true_eq] at *;omega
 tot a b h1 h2:=by
  simp only [decide_eq_false_iff_not] at *;omega
def ptrElem:Value->Option (DataW Unit×List MemPlace)
 | .pointer (some ⟨g,0,none⟩)=>some (.lit (.int .i64 (g:Int)),[])
 | .pointer none=>some (.nil,[])
 | _=>none
theorem ptrElem_some (g:Nat):ptrElem (.pointer (some ⟨g,0,none⟩))=some (.lit (.int .i64 (g:Int)),[]):=rfl
theorem ptrElem_inv {v:Value} {g:Nat} {ps:List MemPlace} (h:ptrElem v=some (.lit (.int .i64 (g:Int)),ps)):v=.pointer (some ⟨g,0,none⟩):=by
 unfold ptrElem at h;split at h
 ·simp only [Option.some.injEq,Prod.mk.injEq,DataW.lit.injEq,Lit.int.injEq,true_and] at h;have:=h.1
  congr
  omega
 ·simp at h
 ·cases h
theorem ptrElem_nil {v:Value} {ps:List MemPlace} (h:ptrElem v=some (.nil,ps)):v=.pointer none:=by
 unfold ptrElem at h;split at h
 ·simp at h
 ·rfl
 ·cases h
abbrev L:=List (Int×Nat)
def enc1 (x:Int×Nat):Lit×DataW Unit:=(.int .i64 x.1,.lit (.int .i64 (x.2:Int)))
def mapOf (l:L):DataW Unit:=.map (l.map enc1)
theorem size_mapOf (l:L):Maps.size (mapOf l)=l.length:=by simp [mapOf,Maps.size]
theorem sameKey_enc (x:Int×Nat) (k:Int):(enc1 x).1.sameKey (.int .i64 k)=decide (x.1=k):=by
 simp only [enc1,Lit.sameKey];exact Bool.eq_iff_iff.2 (by simp)
theorem filter_mapOf (l:L) (k:Int):(l.map enc1).filter (fun p=>!p.1.sameKey (.int .i64 k))=(del k l).map enc1:=by
 unfold del;rw [List.filter_map]
 congr 1
 refine List.filter_congr fun x _=>?_;simp [sameKey_enc]
theorem insert_mapOf (k:Int) (g:Nat):∀ l:L,DataW.insert (enc1 (k,g)) (l.map enc1)=(ins lt k g l).map enc1
 | []=>rfl
 | y::l=>by
  unfold ins;rw [List.map_cons,DataW.insert];have:(enc1 (k,g)).1.before (enc1 y).1=lt k y.1:=rfl;rw [this];split
  ·rfl
  ·rw [insert_mapOf k g l,List.map_cons]
theorem del_mapOf (l:L) (k:Int):(mapOf l).del (.int .i64 k)=mapOf (del k l):=by
 unfold mapOf DataW.del;simp only [filter_mapOf]
theorem put_mapOf (l:L) (k:Int) (g:Nat):(mapOf l).put (.int .i64 k) (.lit (.int .i64 (g:Int)))=mapOf (put lt k g l):=by
 unfold mapOf DataW.put;simp only [filter_mapOf];rw [show ((Lit.int .i64 k,DataW.lit (Lit.int IntKind.i64 (g:Int))):Lit×DataW Unit)=enc1 (k,g) from rfl,insert_mapOf];rfl
theorem atKey_mapOf (l:L) (k:Int):(mapOf l).atKey (.int .i64 k) .nil=match omap.look l k with | some g=>.lit (.int .i64 (g:Int)) | none=>.nil:=by
 induction l with
 | nil=>rfl
 | cons x l ih=>
  unfold mapOf DataW.atKey at ih ⊢;rw [look_cons];simp only [List.map_cons,List.find?_cons,sameKey_enc] at ih ⊢;by_cases h:x.1=k
  ·simp [h,enc1]
  ·simp only [h,decide_false,if_false];exact ih
structure MapAt (w:World) (m:Nat) (l:L):Prop where
 rises:Rises lt l
 own:w.ownsMap Tryz.prog 3 ptrElem m l.length (mapOf l)
 few:l.length<=1073741824
theorem keyedI:Keyed Tryz.prog 3:=int_keyed Tryz.underlying3
theorem zeroPtr (w:World):(zeroValue 182).run Tryz.prog w=.ok (.pointer none) w:=by kernel_rfl
def ptrTo:Option Nat->Value
 | some g=>.pointer (some ⟨g,0,none⟩)
 | none=>.pointer none
section
variable {w w':World} {m:Nat} {l:L}
theorem MapAt.inside (h:MapAt w m l):m<w.heap.size:=h.own.lt
theorem MapAt.stays (h:MapAt w m l) (hb:w'.heap[m]?=w.heap[m]?):MapAt w' m l:=by
 obtain ⟨es,clock,h1,h2⟩:=h.own;exact ⟨h.rises,⟨es,clock,hb.trans h1,h2⟩,h.few⟩
theorem key_of {i:Int} (hi:I64 i):keyOf Tryz.prog 3 (.int .i64 i)=some (.int .i64 i):=Go.Maps.keyOf_int_mk Tryz.underlying3 (by
 obtain ⟨h1,h2⟩:=hi;simp only [Lit.wf];rw [Bool.and_eq_true,decide_eq_true_eq,decide_eq_true_eq]
 exact ⟨h1,h2⟩)
theorem MapAt.lookup (h:MapAt w m l) {i:Int} (hs:I64 i) :
  (Instr.lookup 186 (.map (some m)) (.int .i64 i) false).run Tryz.prog w=.ok (ptrTo (omap.look l i)) w:=by
 obtain ⟨v,ps,hrun,hv⟩:=h.own.lookup keyedI Tryz.underlying186 (zeroPtr w) (zd:=.nil) (zp:=[]) rfl (key_of hs);rw [hrun];rw [atKey_mapOf] at hv;cases hl:omap.look l i with
 | none=>rw [hl] at hv;rw [ptrElem_nil hv];rfl
 | some g=>rw [hl] at hv;rw [ptrElem_inv hv];rfl
theorem MapAt.len (h:MapAt w m l) (ty:TypeId):(Builtin.len_ #[186] ty #[.map (some m)]).run Tryz.prog w=.ok (.int .i64 (l.length:Nat)) w:=by
 rw [h.own.len Tryz.underlying186 ty,size_mapOf]
theorem again {w:World} {m n:Nat} {l:L} (h:w.ownsMap Tryz.prog 3 ptrElem m n (mapOf l)):w.ownsMap Tryz.prog 3 ptrElem m l.length (mapOf l):=by
 obtain ⟨es,clock,h1,h2,_,h4⟩:=h;refine ⟨es,clock,h1,h2,?_,h4⟩;have e:Maps.size (mapOf l)=es.size:=by rw [h4];simp [Maps.size,length_sorted]
 rw [size_mapOf] at e;omega
theorem MapAt.store (h:MapAt w m l) {i:Int} (hs:I64 i) (g:Nat) (hn:(put lt i g l).length<=1073741824) :
  ∃ w',(Instr.mapUpdate 186 (.map (some m)) (.int .i64 i) (.pointer (some ⟨g,0,none⟩))).run Tryz.prog w=.ok () w'∧MapAt w' m (put lt i g l)∧w.grownBy w' (some m):=by
 obtain ⟨w',hrun,ho,hg⟩:=h.own.update keyedI Tryz.underlying186 (by have:=h.few;unfold maxLen;omega) (key_of hs) (ptrElem_some g);rw [put_mapOf] at ho;exact ⟨w',hrun,⟨rises_put ord h.rises,again ho,hn⟩,hg⟩
theorem MapAt.drop (h:MapAt w m l) {i:Int} (hs:I64 i) (ty:TypeId) :
  ∃ w',(Builtin.delete_ #[186,3] ty #[.map (some m),.int .i64 i]).run Tryz.prog w=.ok (.tuple #[]) w'∧MapAt w' m (del i l)∧w.grownBy w' (some m):=by
 obtain ⟨w',hrun,ho,hg⟩:=h.own.drop keyedI Tryz.underlying186 (key_of hs) ty;rw [del_mapOf] at ho;exact ⟨w',hrun,⟨rises_del h.rises,again ho,Nat.le_trans (List.length_filter_le _ _) h.few⟩,hg.grown⟩
end
theorem mapAt_made (w:World):MapAt (w.alloc (.map #[] 0)) w.heap.size []:=
 ⟨List.Pairwise.nil,World.ownsMap_made _ _ _ _,by simp⟩
end Go.Proofs.YthoildbfghfhpaaGreat
namespace Go.Proofs.YthoildbfghfhpaaGreat
open Go.RowKit trm
abbrev Bset:=Nat->Prop
structure TurnP (S S':Bset) (w w':World):Prop where
 os:w'.os=w.os
 tape:w'.tape=w.tape
 output:w'.output=w.output
 size:w.heap.size<=w'.heap.size
 far:∀ k,k<w.heap.size->¬ S k->¬ S' k∧w'.heap[k]?=w.heap[k]?
theorem TurnP.refl (S:Bset) (w:World):TurnP S S w w:=⟨rfl,rfl,rfl,nR,fun _ _ h=>⟨h,rfl⟩⟩
theorem TurnP.trans {S S' S'':Bset} {w w' w'':World} (h:TurnP S S' w w') (k:TurnP S' S'' w' w''):TurnP S S'' w w'':=
 ⟨k.os.trans h.os,k.tape.trans h.tape,k.output.trans h.output,Nat.le_trans h.size k.size,fun j hj hn=>by
  obtain ⟨h1,h2⟩:=h.far j hj hn;obtain ⟨k1,k2⟩:=k.far j (Nat.lt_of_lt_of_le hj h.size) h1
  exact ⟨k1,k2.trans h2⟩⟩
theorem TurnP.below {S:Bset} {w w':World} (hb:Below w.heap.size w w'):TurnP S S w w':=⟨hb.os,hb.tape,hb.output,hb.size,fun k hk hn=>⟨hn,hb.block k hk⟩⟩
theorem TurnP.to_below {S S':Bset} {w w':World} {B:Nat} (h:TurnP S S' w w') (hB:B<=w.heap.size) (hS:∀ g,S g->B<=g):Below B w w':=
 ⟨h.os,h.tape,h.output,h.size,fun k hk=>(h.far k (by omega) (fun e=>by have:=hS k e;omega)).2⟩
theorem TurnP.set {S:Bset} {w:World} {a:Addr} (h:S a.block) (u:Value):TurnP S S w (w.setCell a u):=
 ⟨rfl,rfl,rfl,by simp [World.setCell],fun k _ hn=>⟨hn,heap_setCell_other _ _ _ _ (fun e=>hn (e ▸ h))⟩⟩
theorem TurnP.grown {S:Bset} {w w':World} {row:Option Nat} (hg:w.grownBy w' row) (hr:∀ k,row=some k->S k):TurnP S S w w':=
 ⟨hg.os,hg.tape,hg.output,hg.size,fun k hk hn=>⟨hn,hg.block k hk (fun e=>hn (hr k e.symm))⟩⟩
theorem TurnP.sub {S S' S2:Bset} {w w':World} (h:TurnP S S' w w') (hs:∀ k,S2 k->S' k∨(w.heap.size<=k)):TurnP S S2 w w':=
 ⟨h.os,h.tape,h.output,h.size,fun k hk hn=>⟨fun e=>by
  rcases hs k e with h1 | h1
  ·exact (h.far k hk hn).1 h1
  ·omega,(h.far k hk hn).2⟩⟩
theorem TurnP.more {S S' S2:Bset} {w w':World} (h:TurnP S S' w w') (hs:∀ k,S k->S2 k):TurnP S2 (fun k=>S2 k∨S' k) w w':=
 ⟨h.os,h.tape,h.output,h.size,fun k hk hn=>by
  have h1:=h.far k hk (fun e=>hn (hs k e))
  exact ⟨fun e=>e.elim hn h1.1,h1.2⟩⟩
def BlkT (w:World) (g:Nat) (cs:List Value) (T:TypeId):Prop:=w.heap[g]?=some (.cells cs.toArray T (0,0))
section
variable {w w':World} {g:Nat} {cs:List Value} {T:TypeId}
theorem BlkT.blk (h:BlkT w g cs T):Blk w g cs:=⟨T,h⟩
theorem BlkT.inside (h:BlkT w g cs T):g<w.heap.size:=lt_of_block h
theorem BlkT.stays (h:BlkT w g cs T) (hb:w'.heap[g]?=w.heap[g]?):BlkT w' g cs T:=hb.trans h
theorem BlkT.new (w:World) (cs:List Value) (T:TypeId):BlkT (w.alloc (.cells cs.toArray T)) w.heap.size cs T:=heap_alloc_new w _
theorem BlkT.set (h:BlkT w g cs T) (i:Nat) (u:Value):BlkT (w.setCell ⟨g,i,none⟩ u) g (cs.set i u) T:=by
 obtain ⟨T',h'⟩:=h.blk.set i u;have hlt:=h.inside;have e:w.heap[g]=.cells cs.toArray T (0,0):=by simpa [BlkT,Array.getElem?_eq_getElem hlt] using h
 show (w.heap.modify g _)[g]?=_;rw [Array.getElem?_eq_getElem (by simpa using hlt),Array.getElem_modify_self,e];simp
end
abbrev tNode:TypeId:=185
abbrev tPtr:TypeId:=182
abbrev tTree:TypeId:=188
def kc (o:Option Nat):List Value:=[ptrTo o]
theorem kc_len (o:Option Nat):(kc o).length=1:=rfl
theorem kc_plain (o:Option Nat):∀ u∈kc o,u.oneCell'=true:=by
 intro u hu;simp only [kc,List.mem_singleton] at hu;subst hu;cases o<;>rfl
theorem flat_kc (l:List (Option Nat)):l.flatMap kc=l.map ptrTo:=by
 induction l with
 | nil=>rfl
 | cons x l ih=>rw [List.flatMap_cons,ih,List.map_cons];rfl
abbrev KOwn (w:World) (v:Value) (l:List (Option Nat)):Prop:=SOwn tPtr 1 kc w 0 v l
theorem KOwn.typed {w:World} {v:Value} {l:List (Option Nat)} (h:KOwn w v l) {g:Nat} (hg:v.ownBlock=some g):∃ cur fr,w.heap[g]?=some (.cells cur tPtr fr):=by
 rcases h.2 with ⟨rfl,h0⟩ | ⟨g',cap,cur,rfl,_,hb,_⟩
 ·cases hg
 ·obtain rfl:g'=g:=Option.some.inj hg;exact ⟨cur,_,hb⟩
theorem KOwn.not_blk {w:World} {v:Value} {l:List (Option Nat)} (h:KOwn w v l) {g:Nat} (hg:v.ownBlock=some g) {cs:List Value} {T:TypeId} (hb:BlkT w g cs T) (hT:T≠tPtr):False:=by
 obtain ⟨cur,fr,h1⟩:=h.typed hg;have:=hb.symm.trans h1;simp only [Option.some.injEq,Obj.cells.injEq] at this;exact hT this.2.1
theorem MapAt.not_blk {w:World} {m:Nat} {es:L} (h:MapAt w m es) {cs:List Value} {T:TypeId} (hb:BlkT w m cs T):False:=by
 obtain ⟨es',clock,h1,_⟩:=h.own;have:=hb.symm.trans h1;cases this
theorem MapAt.not_own {w:World} {m:Nat} {es:L} (h:MapAt w m es) {v:Value} {l:List (Option Nat)} (hk:KOwn w v l) (hg:v.ownBlock=some m):False:=by
 obtain ⟨es',clock,h1,_⟩:=h.own;obtain ⟨cur,fr,h2⟩:=hk.typed hg;have:=h2.symm.trans h1;cases this
structure Sh where
 m:Nat
 g:Int->Nat
 v:Int->Value
def ks (s:Sh) (l:List Int):List (Option Nat):=l.map fun k=>some (s.g k)
structure NodeAt (w:World) (g:Nat) (i:Int) (p:Option Nat) (v:Value) (l:List (Option Nat)):Prop where
 blk:BlkT w g [.int .i64 i,ptrTo p,v] tNode
 own:KOwn w v l
def Foot (b:Nat) (s:Sh) (H:Int->Prop):Bset:=fun k=>k=b∨k=s.m∨∃ i,H i∧(k=s.g i∨(s.v i).ownBlock=some k)
structure Raw (w:World) (b:Nat) (s:Sh) (H:Int->Prop) (P:Int->Option Int) (K:Int->List Int):Prop where
 blk:BlkT w b [.map (some s.m)] tTree
 map:∃ es,MapAt w s.m es∧∀ i g,omap.look es i=some g↔H i∧s.g i=g
 node:∀ i,H i->NodeAt w (s.g i) i ((P i).map s.g) (s.v i) (ks s (K i))
 inj:∀ i j,H i->H j->s.g i=s.g j->i=j
 apart:∀ i j k,H i->H j->(s.v i).ownBlock=some k->(s.v j).ownBlock=some k->i=j
section
variable {w w':World} {b:Nat} {s:Sh} {H:Int->Prop} {P:Int->Option Int} {K:Int->List Int}
theorem NodeAt.stays {g:Nat} {i:Int} {p:Option Nat} {v:Value} {l:List (Option Nat)} (h:NodeAt w g i p v l) (h1:w'.heap[g]?=w.heap[g]?) (h2:∀ k,v.ownBlock=some k->w'.heap[k]?=w.heap[k]?):NodeAt w' g i p v l:=
 ⟨h.blk.stays h1,h.own.stays h2⟩
theorem Raw.inside (h:Raw w b s H P K):∀ k,Foot b s H k->k<w.heap.size:=by
 rintro k (rfl | rfl | ⟨i,hi,rfl | hk⟩)
 ·exact h.blk.inside
 ·obtain ⟨es,hm,_⟩:=h.map;exact hm.inside
 ·exact (h.node i hi).blk.inside
 ·exact (SOwn.block (h.node i hi).own hk).2
theorem Raw.stays (h:Raw w b s H P K) (hb:∀ k,Foot b s H k->w'.heap[k]?=w.heap[k]?):Raw w' b s H P K:=by
 refine ⟨h.blk.stays (hb _ (.inl rfl)),?_,fun i hi=>(h.node i hi).stays (hb _ (.inr (.inr ⟨i,hi,.inl rfl⟩))) fun k hk=>hb _ (.inr (.inr ⟨i,hi,.inr hk⟩)),h.inj,h.apart⟩;obtain ⟨es,hm,hl⟩:=h.map;exact ⟨es,hm.stays (hb _ (.inr (.inl rfl))),hl⟩
theorem Raw.below (h:Raw w b s H P K) (hb:Below w.heap.size w w'):Raw w' b s H P K:=h.stays fun k hk=>hb.block k (h.inside k hk)
theorem Raw.look (h:Raw w b s H P K) {i:Int} (hi:I64 i) :
  ∃ o:Option Nat,(Instr.lookup 186 (.map (some s.m)) (.int .i64 i) false).run Tryz.prog w=.ok (ptrTo o) w∧(∀ g,o=some g↔H i∧s.g i=g):=by
 obtain ⟨es,hm,hl⟩:=h.map;exact ⟨_,hm.lookup hi,hl i⟩
theorem Raw.look_some (h:Raw w b s H P K) {i:Int} (hi:I64 i) (hh:H i) :
  (Instr.lookup 186 (.map (some s.m)) (.int .i64 i) false).run Tryz.prog w=.ok (.pointer (some ⟨s.g i,0,none⟩)) w:=by
 obtain ⟨o,h1,h2⟩:=h.look hi;rw [(h2 (s.g i)).2 ⟨hh,rfl⟩] at h1;exact h1
theorem Raw.look_none (h:Raw w b s H P K) {i:Int} (hi:I64 i) (hh:¬ H i) :
  (Instr.lookup 186 (.map (some s.m)) (.int .i64 i) false).run Tryz.prog w=.ok (.pointer none) w:=by
 obtain ⟨o,h1,h2⟩:=h.look hi;cases o with
 | none=>exact h1
 | some g=>exact absurd ((h2 g).1 rfl).1 hh
theorem Raw.cells (h:Raw w b s H P K) {i:Int} (hi:H i):(w.cell? ⟨s.g i,0,none⟩=some (.int .i64 i)∧w.cell? ⟨s.g i,1,none⟩=some (ptrTo ((P i).map s.g))∧w.cell? ⟨s.g i,2,none⟩=some (s.v i)) ∧
  (w.frozen? ⟨s.g i,0,none⟩=false∧w.frozen? ⟨s.g i,1,none⟩=false∧w.frozen? ⟨s.g i,2,none⟩=false)∧s.g i<w.heap.size:=by
 have:=(h.node i hi).blk.blk;exact ⟨⟨this.cell 0,this.cell 1,this.cell 2⟩,⟨this.free 0,this.free 1,this.free 2⟩,this.inside⟩
theorem Raw.top (h:Raw w b s H P K):w.cell? ⟨b,0,none⟩=some (.map (some s.m))∧b<w.heap.size:=⟨h.blk.blk.cell 0,h.blk.inside⟩
end
def upT (t:T) (i:Int):Option Int:=if i=0 then none else some (par t i)
abbrev hasP (t:T):Int->Prop:=fun i=>has t i=true
abbrev RawT (w:World) (b:Nat) (s:Sh) (t:T):Prop:=Raw w b s (hasP t) (upT t) (kids t)
structure TreeAt (w:World) (b:Nat) (s:Sh) (t:T):Prop where
 raw:RawT w b s t
 ok:Ok t
abbrev FootT (b:Nat) (s:Sh) (t:T):Bset:=Foot b s (hasP t)
theorem TreeAt.below {w w':World} {b:Nat} {s:Sh} {t:T} (h:TreeAt w b s t) (hb:Below w.heap.size w w'):TreeAt w' b s t:=⟨h.raw.below hb,h.ok⟩
theorem TreeAt.stays {w w':World} {b:Nat} {s:Sh} {t:T} (h:TreeAt w b s t) (hb:∀ k,FootT b s t k->w'.heap[k]?=w.heap[k]?):TreeAt w' b s t:=⟨h.raw.stays hb,h.ok⟩
theorem kids_none {t:T} (ok:Ok t) {i:Int} (h:¬ has t i=true):kids t i=[]:=by
 have h1:=not_has h;rw [List.eq_nil_iff_forall_not_mem];intro k hk;have:=ok.pin _ (mem_kids.1 hk);simp only at this;exact this.elim h1.1 h1.2
end Go.Proofs.YthoildbfghfhpaaGreat
namespace Go.Proofs.YthoildbfghfhpaaGreat
open Go.RowKit trm
theorem all_take {l:List Int} {P:Int->Bool} {k:Nat} (hk:k<l.length) (h:(l.take k).all P=true) (h1:P l[k]=true):(l.take (k+1)).all P=true:=by
 rw [List.take_succ_eq_append_getElem hk,List.all_append,h];simp [h1]
theorem all_not {l:List Int} {P:Int->Bool} {k:Nat} (hk:k<l.length) (h1:P l[k]=false):l.all P=false:=by
 rw [List.all_eq_false];exact ⟨l[k],List.getElem_mem hk,by simp [h1]⟩
section
variable {w:World} {b:Nat} {s:Sh} {t:T}
theorem thas (h:TreeAt w b s t) (A:Option Addr) (l:List Int) (c:Nat) (hr:Row eI w A l) (hi:∀ x∈l,I64 x) (hn:l.length<=100000) :
  Calls Tryz.prog 211 #[.pointer (some ⟨b,0,none⟩),.slice A l.length c] w fun e w'=>e=.returned (.bool (l.all (has t)))∧Below w.heap.size w w':=by
 obtain ⟨c0,bi⟩:=h.raw.top;have HRW:=Hd h.raw;have HR:=Hd hr;have HI:=Hd hi;have HN:=Hd hn;clear h hr hi hn;go_enter Tryz.func211,Tryz.ntmps211;go_wp2_with (fail)
 go_loopw [9] (fun x wr=>∃ k:Nat,k<=l.length∧x=.int .i64 k∧Hid ((l.take k).all (has t)=true)∧Hid (wr=w)) (fun x _=>l.length - (intOf x).toNat)
 case atStart=>exact ⟨0,Nat.zero_le _,rfl,by show _=_;simp,rfl⟩
 case round=>
  obtain ⟨k,hk,rfl,HK,HW⟩:=hrel;obtain rfl:=HW.out;by_cases hlt:k<l.length
  ·have t1:decide (k<l.length)=true:=by simpa using hlt
   obtain ⟨b2,o2,rfl,k1⟩:=HR.out.at_ hlt;have HS:=Hd (all_take (P:=has t) hlt HK.out);have HT:=Hd (all_not (P:=has t) hlt);have hix:=HI.out _ (List.getElem_mem hlt);have HB:=Hd (show k<=100000 by have:=HN.out;omega);generalize l[k]=x at *;unfold eI at k1;by_cases hx:has t x=true
   ·have hlk:=HRW.out.look_some hix hx;have HS2:=Hd (HS.out hx);have hkb:(k:Int)<=100000:=by have:=HB.out;omega
    clear HS HT hx hix HB;go_wp2_with (fail)
    go_roundw
    case rel=>exact ⟨k+1,by omega,by go_num,HS2,by trivial⟩
    case measure=>simp [intOf];omega
   ·have hlk:=HRW.out.look_none hix hx;have HT2:=Hd (HT.out (by simpa using hx));have hkb:(k:Int)<=100000:=by have:=HB.out;omega
    clear HS HT hx hix HB;go_wp2_with (fail);go_ret;exact ⟨ret_bool HT2.out.symm,bR⟩
  ·obtain rfl:k=l.length:=by omega
   have HF:Hid (l.all (has t)=true):=by have h:=HK.out;rw [List.take_length] at h;exact h
   have t1:decide (l.length<l.length)=false:=by simp
   go_wp2_with (fail);go_ret;exact ⟨ret_bool HF.out.symm,bR⟩
theorem upT_some {i:Int} (h0:i≠0):upT t i=some (par t i):=if_neg h0
theorem upT_zero:upT t 0=none:=rfl
theorem par_zero (ok:Ok t):par t 0=-1:=par_none fun h=>ok.ne0 h rfl
theorem tparent (h:TreeAt w b s t) (i:Int) (hi:I64 i) :
  Calls Tryz.prog 214 #[.pointer (some ⟨b,0,none⟩),.int .i64 i] w fun e w'=>e=.returned (.int .i64 (par t i))∧Below w.heap.size w w':=by
 obtain ⟨c0,bi⟩:=h.raw.top;by_cases hx:has t i=true
 ·have hlk:=h.raw.look_some hi hx;obtain ⟨⟨n0,n1,n2⟩,-,ni⟩:=h.raw.cells (i:=i) hx;by_cases h0:i=0
  ·subst h0;have HQ:=Hd (par_zero h.ok);rw [upT_zero] at n1;simp only [Option.map_none,ptrTo] at n1;clear h hi hx n0 n2;go_enter Tryz.func214,Tryz.ntmps214;go_wp2_with (fail);go_ret;exact ⟨ret_num HQ.out.symm,bR⟩
  ·rw [upT_some h0] at n1;have hp:hasP t (par t i):=has_iff.2 (h.ok.par_ok ((has_iff.1 hx).resolve_left h0));obtain ⟨⟨m0,-,-⟩,-,mi⟩:=h.raw.cells hp;simp only [Option.map_some,ptrTo] at n1;clear h hi hx n0 n2 h0 hp;go_enter Tryz.func214,Tryz.ntmps214;go_wp2_with (fail);go_ret;exact ⟨rfl,bR⟩
 ·have hlk:=h.raw.look_none hi hx;have HQ:=Hd (par_none (not_has hx).2);clear h hi hx;go_enter Tryz.func214,Tryz.ntmps214;go_wp2_with (fail);go_ret;exact ⟨ret_num HQ.out.symm,bR⟩
end
end Go.Proofs.YthoildbfghfhpaaGreat
namespace Go.Proofs.YthoildbfghfhpaaGreat
open Go.RowKit trm
theorem made_one (z:Value) (n:Nat) (hz:z.cells=#[z]):madeCells z.cells n=(List.replicate n z).toArray:=by
 rw [hz];apply Array.ext
 ·rw [size_madeCells];simp
 ·intro i h1 h2;simp [madeCells,Nat.mod_one]
theorem make_int (w:World) (n:Nat) (hn:n<=20000000):(Instr.makeSlice 42 (.int .i64 (n:Nat)) (.int .i64 (n:Nat))).run Tryz.prog w=.ok (.slice (some ⟨w.heap.size,0,none⟩) n n) (w.alloc (.cells ((List.replicate n 0).map eI).toArray 3)):=by
 obtain ⟨i,hi,hz,hsize,hby⟩:=info_parts info_int;have h:=run_make (P:=Tryz.prog) w 42 3 i (.int .i64 0) Tryz.underlying42 hi hz .i64 .i64 n n (by omega) (by omega) (by rw [hby];omega) (by omega);rw [hsize,Int.toNat_natCast,Nat.mul_one,made_one _ _ rfl] at h;rw [List.map_replicate];exact h
def fillZ {α:Type} (z:α) (L:List α) (k:Nat):List α:=L.take k++List.replicate (L.length - k) z
theorem fillZ_all {α:Type} (z:α) (L:List α):fillZ z L L.length=L:=by simp [fillZ]
theorem fillZ_set {α:Type} (z:α) (L:List α) {k:Nat} (hk:k<L.length):(fillZ z L k).set k L[k]=fillZ z L (k+1):=by
 unfold fillZ;rw [List.set_append_right _ _ (by rw [List.length_take];omega),List.length_take,Nat.min_eq_left (Nat.le_of_lt hk),Nat.sub_self,show L.length - k=(L.length - (k+1))+1 by omega,List.replicate_succ,List.set_cons_zero,List.take_succ_eq_append_getElem hk,List.append_assoc];rfl
theorem IOwn.of_blk {w:World} {base g:Nat} {l:List Int} (h:BlkT w g (l.map eI) 3) (hb:base<=g) (hm:l.length<=100000):IOwn w base (.slice (some ⟨g,0,none⟩) l.length l.length) l:=by
 have e:∀ l:List Int,l.flatMap ic=l.map eI:=fun l=>by
  induction l with
  | nil=>rfl
  | cons x l ih=>rw [List.flatMap_cons,ih,List.map_cons];rfl
 show World.ownsRow _ _ _ _ _ _ _;rw [e];refine ⟨by simp,.inr ⟨g,l.length,_,rfl,hb,h,nR,by unfold maxLen;omega,by simp,?_⟩⟩;simp [List.take_of_length_le]
section
variable {w:World} {b:Nat} {s:Sh} {t:T}
theorem KOwn.at_ {v:Value} {l:List (Option Nat)} (h:KOwn w v l):∃ A c,v=.slice A l.length c∧l.length<=c∧c<=maxLen∧∀ j (hj:j<l.length),∃ g,A=some ⟨g,0,none⟩∧v.ownBlock=some g∧w.cell? ⟨g,j,none⟩=some (ptrTo l[j]):=by
 obtain ⟨A,c,e,h1,h2,hr⟩:=SOwn.row h kc_len;refine ⟨A,c,e,h1,h2,fun j hj=>?_⟩;subst e;rcases h.2 with ⟨e,_⟩ | ⟨g',cap,cur,e,hg,hb,_⟩
 ·injection e with e1 e2 _
  omega
 ·injection e with e1 _ _
  subst e1;obtain ⟨g,off,e,hc⟩:=hr (by omega)
  injection e with e
  injection e with e2 e3 _
  subst e2 e3;have:=hc j hj 0 _ rfl;rw [Nat.mul_one,Nat.add_zero,Nat.zero_add] at this;exact ⟨_,rfl,rfl,this⟩
theorem ks_get (s:Sh) (l:List Int) {j:Nat} (hj:j<(ks s l).length):(ks s l)[j]=some (s.g (l[j]'(by unfold ks at hj;simpa using hj))):=by
 simp [ks]
theorem ks_len (s:Sh) (l:List Int):(ks s l).length=l.length:=List.length_map _
theorem tkids (h:TreeAt w b s t) (hn:t.length<=10000) (i:Int) (hi:I64 i) :
  Calls Tryz.prog 212 #[.pointer (some ⟨b,0,none⟩),.int .i64 i] w (KidsQ (kids t i) w):=by
 unfold KidsQ;obtain ⟨c0,bi⟩:=h.raw.top;by_cases hx:has t i=true
 ·have hlk:=h.raw.look_some hi hx;obtain ⟨⟨n0,n1,n2⟩,-,ni⟩:=h.raw.cells (i:=i) hx;obtain ⟨A,c,hv,hc1,hc2,hat⟩:=(h.raw.node i hx).own.at_;rw [ks_len] at hv hc1;rw [hv] at n2
  have HAT:Hid (∀ j (hj:j<(kids t i).length),∃ g,A=some ⟨g,0,none⟩∧∀ W,Below w.heap.size w W->W.cell? ⟨g,j,none⟩=some (.pointer (some ⟨s.g (kids t i)[j],0,none⟩))∧W.cell? ⟨s.g (kids t i)[j],0,none⟩=some (.int .i64 (kids t i)[j])∧s.g (kids t i)[j]<W.heap.size):=by
   intro j hj;obtain ⟨g,e,-,hcell⟩:=hat j (by rw [ks_len];exact hj);rw [ks_get] at hcell;have hk:hasP t (kids t i)[j]:=has_iff.2 (.inr (h.ok.kid (List.getElem_mem hj)).1);obtain ⟨⟨m0,-,-⟩,-,mi⟩:=h.raw.cells hk;refine ⟨g,e,fun W hb=>⟨?_,?_,Nat.lt_of_lt_of_le mi hb.size⟩⟩
   ·exact (hb.cell (World.block_lt_of_cell? w ⟨g,j,none⟩ hcell)).trans hcell
   ·exact (hb.cell (World.block_lt_of_cell? w ⟨_,0,none⟩ m0)).trans m0
  have HL:Hid ((kids t i).length<=10000):=Nat.le_trans (kids_le t i) hn
  obtain ⟨L,hL⟩:∃ L,kids t i=L:=⟨_,rfl⟩
  have hB:∀ o,w.cell? ⟨s.g i,2,none⟩=some o->∀ W,Below w.heap.size w W->W.cell? ⟨s.g i,2,none⟩=some o:=fun o e W hb=>(hb.cell (World.block_lt_of_cell? w ⟨_,2,none⟩ n2)).trans e;rw [hL] at n2 HAT HL ⊢;have hmk:=make_int w L.length (by have:=HL.out;omega);have hw0:Below w.heap.size w (w.alloc (.cells ((List.replicate L.length 0).map eI).toArray 3)):=bR.alloc nR _;have HB0:=Hd hw0;have HF0:Hid (BlkT (w.alloc (.cells ((List.replicate L.length 0).map eI).toArray 3)) w.heap.size ((fillZ 0 L 0).map eI) 3):=BlkT.new w _ _
  generalize hz:((List.replicate L.length 0).map eI).toArray=zs at hmk hw0 HB0 HF0;have n2':=hB _ n2 _ HB0.out;have ni':s.g i<(w.alloc (.cells zs 3)).heap.size:=Nat.lt_of_lt_of_le ni hw0.size;clear h hi hx n0 n1 hv hc1 hc2 hat hL hw0 hz hB hn;go_enter Tryz.func212,Tryz.ntmps212;go_wp2_with (fail)
  go_loopw [28] (fun x wr=>∃ k:Nat,k<=L.length∧x=.int .i64 k∧Hid (BlkT wr w.heap.size ((fillZ 0 L k).map eI) 3)∧Hid (Below w.heap.size w wr)) (fun x _=>L.length - (intOf x).toNat)
  case atStart=>exact ⟨0,Nat.zero_le _,rfl,HF0,HB0⟩
  case round=>
   obtain ⟨k,hk,rfl,HF,HB⟩:=hrel;by_cases hlt:k<L.length
   ·have t1:decide (k<L.length)=true:=by simpa using hlt
    obtain ⟨g,rfl,hall⟩:=HAT.out k hlt;obtain ⟨k1,k2,k3⟩:=hall _ HB.out;have fr:=HF.out.blk.free k;have hsz:=HF.out.inside
    have hcc:wr.cell? ⟨w.heap.size,k,none⟩=some (.int .i64 0):=by
     rw [HF.out.blk.cell k,List.getElem?_map];unfold fillZ;rw [List.getElem?_append_right (by rw [List.length_take];omega),List.length_take,Nat.min_eq_left hk,Nat.sub_self,List.getElem?_replicate,if_pos (by omega)];rfl
    have HF1:Hid (BlkT (wr.setCell ⟨w.heap.size,k,none⟩ (.int .i64 L[k])) w.heap.size ((fillZ 0 L (k+1)).map eI) 3):=by
     have:=HF.out.set k (.int .i64 L[k]);rw [← fillZ_set 0 L hlt,List.map_set];exact this
    have HB1:Hid (Below w.heap.size w (wr.setCell ⟨w.heap.size,k,none⟩ (.int .i64 L[k]))):=below_set HB.out nR;have hkb:(k:Int)<=10000:=by have:=HL.out;omega
    generalize L[k]=x at *;clear hall HF HB;go_wp2_with (fail)
    go_roundw
    case rel=>exact ⟨k+1,by omega,by go_num,HF1,HB1⟩
    case measure=>simp [intOf];omega
   ·obtain rfl:k=L.length:=by omega
    have t1:decide (L.length<L.length)=false:=by simp
    have hF:=HF.out;rw [fillZ_all] at hF;have HF2:=Hd (IOwn.of_blk hF nR (by have:=HL.out;omega));clear hF HF;go_wp2_with (fail);go_ret;exact ⟨_,rfl,HF2.out,HB.out⟩
 ·have hlk:=h.raw.look_none hi hx;have HQ:=Hd (kids_none h.ok hx);clear h hi hx;go_enter Tryz.func212,Tryz.ntmps212;go_wp2_with (fail);go_ret;rw [HQ.out];exact ⟨_,rfl,SOwn.nil _ _,bR⟩
end
end Go.Proofs.YthoildbfghfhpaaGreat
namespace Go.Proofs.YthoildbfghfhpaaGreat
open Go.RowKit trm
section
variable {w:World} {b:Nat} {s:Sh} {t:T}
theorem info_node:(Tryz.prog.info? 185).map (fun i=>(i.zero,i.size,i.bytes))=some (some (.agg #[.int .i64 0,.pointer none,.slice none 0 0]),3,40):=by kernel_rfl
theorem ptr_same (w:World) (a:Nat):(binOp .eql 182 (.pointer (some ⟨a,0,none⟩)) (.pointer (some ⟨a,0,none⟩))).run Tryz.prog w=.ok (.bool true) w:=by
 obtain ⟨i,hi,hz,hsize,hby⟩:=info_parts info_node;exact run_eql_ptr_same w _ Tryz.underlying182 hi
theorem ptr_other {w:World} {a b:Nat} {ca cb:List Value} {ta tb:TypeId} (ha:BlkT w a ca ta) (hb:BlkT w b cb tb) (hne:a≠b):(binOp .eql 182 (.pointer (some ⟨a,0,none⟩)) (.pointer (some ⟨b,0,none⟩))).run Tryz.prog w=.ok (.bool false) w:=by
 obtain ⟨i,hi,hz,hsize,hby⟩:=info_parts info_node;exact run_eql_ptr_other w Tryz.underlying182 hi (by rw [hsize];decide) (fun e=>hne (by injection e)) ha hb
theorem es_len {es:L} (hr:omap.Rises lt es) (ok:Ok t) (hl:∀ i g,omap.look es i=some g↔hasP t i∧s.g i=g):es.length=t.length+1:=by
 have n1:(es.map (·.1)).Nodup:=by
  rw [List.Nodup,List.pairwise_map]
  exact hr.imp fun h e=>by
   simp only [decide_eq_true_eq] at h;omega
 have n2:(0::ids t).Nodup:=List.nodup_cons.2 ⟨fun h=>ok.ne0 h rfl,ok.nd⟩
 have m1:∀ x∈es.map (·.1),x∈(0::ids t:List Int):=by
  intro x hx;obtain ⟨⟨a,g⟩,hm,rfl⟩:=List.mem_map.1 hx;have:=(hl a g).1 (omap.Rises.look_of_mem ord hr hm);exact List.mem_cons.2 (has_iff.1 this.1)
 have m2:∀ x∈(0::ids t:List Int),x∈es.map (·.1):=by
  intro x hx;have:=(hl x (s.g x)).2 ⟨has_iff.2 (List.mem_cons.1 hx),rfl⟩;exact List.mem_map.2 ⟨_,omap.look_mem this,rfl⟩
 have h1:=len_of_sub n1 m1;have h2:=len_of_sub n2 m2;rw [List.length_map] at h1 h2;unfold ids at h1 h2;rw [List.length_cons,List.length_map] at h1 h2;omega
theorem TreeAt.maplen (h:TreeAt w b s t) (ty:TypeId):(Builtin.len_ #[186] ty #[.map (some s.m)]).run Tryz.prog w=.ok (.int .i64 ((t.length+1:Nat):Int)) w:=by
 obtain ⟨es,hm,hl⟩:=h.raw.map;rw [hm.len ty,es_len hm.rises h.ok hl]
theorem tlen (h:TreeAt w b s t):Calls Tryz.prog 213 #[.pointer (some ⟨b,0,none⟩)] w fun e w'=>e=.returned (.int .i64 ((t.length+1:Nat):Int))∧Below w.heap.size w w':=by
 obtain ⟨c0,bi⟩:=h.raw.top;have hl:=h.maplen;clear h;generalize t.length+1=n at *;go_enter Tryz.func213,Tryz.ntmps213;go_wp2_with (fail);go_ret;exact ⟨rfl,bR⟩
def kidC (t:T) (i:Int):Int:=if i=0 then 33 else if has t i=false then 30 else 0
def kidV (s:Sh) (t:T) (i:Int):Value:=if kidC t i=0 then .pointer (some ⟨s.g i,0,none⟩) else .pointer none
theorem tkid (h:TreeAt w b s t) (i:Int) (hi:I64 i) :
  Calls Tryz.prog 163 #[.pointer (some ⟨b,0,none⟩),.int .i64 i] w fun e w'=>e=.returned (.tuple #[kidV s t i,.int .i64 (kidC t i)])∧w'=w:=by
 obtain ⟨c0,bi⟩:=h.raw.top
 obtain ⟨V,hV⟩:∃ V,kidV s t i=V:=⟨_,rfl⟩
 obtain ⟨C,hC⟩:∃ C,kidC t i=C:=⟨_,rfl⟩
 have HV:=Hd hV;rw [hV,hC];clear hV;unfold kidV at HV;rw [hC] at HV;unfold kidC at hC;by_cases h0:i=0
 ·rw [if_pos h0] at hC;subst hC;have HQ:=Hd (HV.out.symm.trans (if_neg (by decide)));have t1:(i==0)=true:=by simpa using h0
  clear h hi h0 HV;go_enter Tryz.func163,Tryz.ntmps163;go_wp2_with (fail);go_ret2;rw [HQ.out];exact ⟨rfl,rfl⟩
 have t1:(i==0)=false:=by simpa using h0
 rw [if_neg h0] at hC;by_cases hx:has t i=true
 ·have hlk:=h.raw.look_some hi hx;rw [if_neg (by simp [hx])] at hC;subst hC;have HQ:=Hd (HV.out.symm.trans (if_pos rfl));clear h hi h0 hx HV;go_enter Tryz.func163,Tryz.ntmps163;go_wp2_with (fail);go_ret2;rw [HQ.out];exact ⟨rfl,rfl⟩
 ·have hlk:=h.raw.look_none hi hx;rw [if_pos (by simpa using hx)] at hC;subst hC;have HQ:=Hd (HV.out.symm.trans (if_neg (by decide)));clear h hi h0 hx HV;go_enter Tryz.func163,Tryz.ntmps163;go_wp2_with (fail);go_ret2;rw [HQ.out];exact ⟨rfl,rfl⟩
end
section
variable {w:World} {b:Nat} {s:Sh} {t:T}
theorem nothers (h:TreeAt w b s t) (hn:t.length<=10000) {i p:Int} (hi:i∈ids t) (hp:has t p=true) :
  Calls Tryz.prog 168 #[.pointer (some ⟨s.g p,0,none⟩),.pointer (some ⟨s.g i,0,none⟩)] w fun e w'=>e=.returned (.int .i64 (((kids t p).filter fun k=>decide (k≠i)).length:Nat))∧w'=w:=by
 have h0:=h.ok.ne0 hi;obtain ⟨⟨-,n1,-⟩,-,ni⟩:=h.raw.cells (i:=i) (has_iff.2 (.inr hi));obtain ⟨⟨-,-,p2⟩,-,pi⟩:=h.raw.cells (i:=p) hp;obtain ⟨A,c,hv,hc1,hc2,hat⟩:=(h.raw.node p hp).own.at_;rw [ks_len] at hv;rw [hv] at p2;have hlen:(kids t p).length<=10000:=Nat.le_trans (kids_le t p) hn;have hpi:=has_iff.2 (h.ok.par_ok hi);have hnd:=kids_nodup h.ok.nd p;rw [upT_some h0] at n1;simp only [Option.map_some,ptrTo] at n1;by_cases e:par t i=p
 ·subst e;have hm:=kid_of hi
  have hl:((kids t (par t i)).filter fun k=>decide (k≠i)).length+1=(kids t (par t i)).length:=by
   have:=List.length_erase_of_mem hm;rw [hnd.erase_eq_filter] at this;have h2:=List.length_pos_of_mem hm;have e:(kids t (par t i)).filter (fun k=>decide (k≠i))=(kids t (par t i)).filter (fun k=>k != i):=List.filter_congr fun x _=>by by_cases h:x=i<;>simp [h]
   rw [e];omega
  generalize ((kids t (par t i)).filter fun k=>decide (k≠i)).length=m at *;generalize (kids t (par t i)).length=n at *;obtain rfl:=hl;clear h hi h0 hc1 hc2 hat hv hn hm hnd hpi;have hpe:=ptr_same w (s.g (par t i));have hq:wrap64 (((m+1:Nat):Int) - 1)=(m:Nat):=by rw [IntWalk.wrap64_in _ (by omega)];omega
  go_enter Tryz.func168,Tryz.ntmps168;go_wp2_with (fail);go_ret;exact ⟨rfl,rfl⟩
 ·have hni:i∉kids t p:=fun h'=>e (h.ok.kid h').2
  have hl:((kids t p).filter fun k=>decide (k≠i))=kids t p:=List.filter_eq_self.2 fun x hx=>by
   rw [decide_eq_true_eq];rintro rfl;exact hni hx
  rw [hl];have hne:¬ s.g (par t i)=s.g p:=fun h'=>e (h.raw.inj _ _ hpi hp h');have hpe:=ptr_other (h.raw.node _ hpi).blk (h.raw.node _ hp).blk hne;generalize (kids t p).length=n at *;generalize s.g (par t i)=ga at *;generalize s.g p=gp at *;generalize s.g i=gi at *;clear h hi h0 hc1 hc2 hat hv hn hnd hpi hl hni e hlen hp;go_enter Tryz.func168,Tryz.ntmps168;go_wp2_with (fail);go_ret;exact ⟨rfl,rfl⟩
def upB (t:T) (o:Int):Option Int->Bool
 | none=>false
 | some j=>decide (j=o)||within t j o
def upN (t:T):Option Int->Nat
 | none=>0
 | some j=>depth t j+1
theorem within_upT (ok:Ok t) {i o:Int} (hi:has t i=true) (ho:has t o=true):within t i o=upB t o (upT t i):=by
 rw [within_step ok];by_cases h0:i=0
 ·subst h0;rw [if_neg (by simp),upT_zero];rfl
 ·rw [if_pos ⟨hi,ho,h0⟩,upT_some h0];rfl
theorem upN_lt (ok:Ok t) {i:Int} (hi:has t i=true):upN t (upT t i)<upN t (some i):=by
 by_cases h0:i=0
 ·subst h0;rw [upT_zero];show 0<_+1;omega
 ·rw [upT_some h0];show depth t (par t i)+1<depth t i+1;have:=depth_step ok ((has_iff.1 hi).resolve_left h0);omega
theorem upT_has (ok:Ok t) {i j:Int} (hi:has t i=true) (h:upT t i=some j):has t j=true:=by
 by_cases h0:i=0
 ·subst h0;cases h
 ·rw [upT_some h0] at h
  injection h with h
  subst h;exact has_iff.2 (ok.par_ok ((has_iff.1 hi).resolve_left h0))
def upM (s:Sh) (t:T):Value->Nat
 | .pointer (some a)=>match (0::ids t).find? fun j=>decide (s.g j=a.block) with
  | some j=>depth t j+1
  | none=>0
 | _=>0
theorem upM_some (h:TreeAt w b s t) {j:Int} (hj:has t j=true):upM s t (.pointer (some ⟨s.g j,0,none⟩))=upN t (some j):=by
 unfold upM;simp only;cases hf:(0::ids t).find? fun k=>decide (s.g k=s.g j) with
 | none=>
  have:=List.find?_eq_none.1 hf j (List.mem_cons.2 (has_iff.1 hj));simp at this
 | some k=>
  have h1:=List.find?_some hf;have h2:=List.mem_of_find?_eq_some hf;simp only [decide_eq_true_eq] at h1;rw [h.raw.inj k j (has_iff.2 (List.mem_cons.1 h2)) hj h1];rfl
theorem upM_any (h:TreeAt w b s t) {u:Option Int} (hu:∀ j,u=some j->has t j=true):upM s t (ptrTo (u.map s.g))=upN t u:=by
 cases u with
 | none=>rfl
 | some j=>exact upM_some h (hu j rfl)
theorem nwithin (h:TreeAt w b s t) {i o:Int} (hi:has t i=true) (ho:has t o=true) :
  Calls Tryz.prog 167 #[.pointer (some ⟨s.g i,0,none⟩),.pointer (some ⟨s.g o,0,none⟩)] w fun e w'=>e=.returned (.bool (within t i o))∧w'=w:=by
 obtain ⟨⟨-,n1,-⟩,-,ni⟩:=h.raw.cells (i:=i) hi;have HT:=Hd h;have HO:=Hd ho;have HUP:=Hd (fun j=>upT_has (j:=j) h.ok hi);rw [within_upT h.ok hi ho];clear h hi ho;generalize upT t i=u at *
 obtain ⟨pv,hpv⟩:∃ pv,ptrTo (u.map s.g)=pv:=⟨_,rfl⟩
 have HPV:=Hd hpv;rw [hpv] at n1;clear hpv
 obtain ⟨R,hR⟩:∃ R,upB t o u=R:=⟨_,rfl⟩
 have HQ:=Hd hR;rw [hR];clear hR;go_enter Tryz.func167,Tryz.ntmps167;go_wp2_with (fail)
 go_loopw [5] (fun x wr=>∃ u:Option Int,x=ptrTo (u.map s.g)∧Hid (upB t o u=R)∧Hid (∀ j,u=some j->has t j=true)∧Hid (wr=w)) (fun x _=>upM s t x)
 case atStart=>exact ⟨u,HPV.out.symm,HQ,fun j e=>HUP.out j e,rfl⟩
 case round=>
  obtain ⟨u1,rfl,HB,HH,HW⟩:=hrel;obtain rfl:=HW.out;cases u1 with
  | none=>
   have HF:Hid (R=false):=HB.out.symm;simp only [Option.map_none,ptrTo];go_wp2_with (fail);go_ret;exact ⟨ret_bool HF.out.symm,rfl⟩
  | some j=>
   have hj:=HH.out j rfl;obtain ⟨⟨-,j1,-⟩,-,ji⟩:=HT.out.raw.cells (i:=j) hj;simp only [Option.map_some,ptrTo];by_cases e:j=o
   ·subst e;have hpe:=ptr_same wr (s.g j);have HF:Hid (R=true):=by rw [← HB.out];show _=_;simp [upB]
    clear hj;go_wp2_with (fail);go_ret;exact ⟨ret_bool HF.out.symm,rfl⟩
   ·have hpe:=ptr_other (HT.out.raw.node _ hj).blk (HT.out.raw.node _ HO.out).blk (fun h'=>e (HT.out.raw.inj _ _ hj HO.out h'))
    have HB2:Hid (upB t o (upT t j)=R):=by
     rw [← HB.out];show _=(decide (j=o)||within t j o);rw [decide_eq_false e,Bool.false_or];exact (within_upT HT.out.ok hj HO.out).symm
    have HH2:=Hd (fun k=>upT_has (j:=k) HT.out.ok hj)
    have HME:Hid (upM s t (ptrTo ((upT t j).map s.g))<upM s t (.pointer (some ⟨s.g j,0,none⟩))):=by
     show _<_;rw [upM_some HT.out hj,upM_any HT.out (fun k=>upT_has (j:=k) HT.out.ok hj)];exact upN_lt HT.out.ok hj
    clear hj e HB HH;generalize upT t j=u2 at *
    obtain ⟨pw,hpw⟩:∃ pw,ptrTo (u2.map s.g)=pw:=⟨_,rfl⟩
    have HPW:=Hd hpw;rw [hpw] at j1 HME;clear hpw;go_wp2_with (fail)
    go_roundw
    case rel=>exact ⟨u2,HPW.out.symm,HB2,HH2,by trivial⟩
    case measure=>exact HME.out
end
end Go.Proofs.YthoildbfghfhpaaGreat
namespace Go.Proofs.YthoildbfghfhpaaGreat
open Go.RowKit trm
section
variable {w:World} {b:Nat} {s:Sh} {t:T}
theorem TreeAt.drewN (h:TreeAt w b s t) (n:Nat):TreeAt (w.drewN n) b s t:=h.below (Below.drewN' bR n)
end
end Go.Proofs.YthoildbfghfhpaaGreat
namespace Go.Proofs.YthoildbfghfhpaaGreat
section
open Go.Shelf
def l_del_ren:Go.Shelf.Ren:=⟨fun | 45=>174 | n=>n,fun | 22=>183 | 23=>182 | 3=>3 | 4=>4 | 0=>0 | n=>n,fun | n=>n⟩
theorem l_del:Go.Proofs.SlLaysE.n45 Tryz.prog l_del_ren:={
 mixed:=by kernel_rfl
 f45:=⟨Tryz.f174.name,by decide,Tryz.func174.trans (congrArg some (by kernel_rfl))⟩
 t0:=Tryz.underlying0
 a0:=Tryz.isAgg0
 z0:=Tryz.sizeOf0
 v0:=Tryz.zeroValue0
 t3:=Tryz.underlying3
 a3:=Tryz.isAgg3
 z3:=Tryz.sizeOf3
 v3:=Tryz.zeroValue3
 t4:=Tryz.underlying4
 a4:=Tryz.isAgg4
 z4:=Tryz.sizeOf4
 v4:=Tryz.zeroValue4
 t22:=Tryz.underlying183
 a22:=Tryz.isAgg183
 z22:=Tryz.sizeOf183
 v22:=Tryz.zeroValue183
 a23:=Tryz.isAgg182
 z23:=Tryz.sizeOf182 }
end
end Go.Proofs.YthoildbfghfhpaaGreat
