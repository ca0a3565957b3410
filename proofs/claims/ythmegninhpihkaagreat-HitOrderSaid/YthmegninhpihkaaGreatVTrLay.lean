import Derived.Shelf.SlicesE.Delete
import Derived.Test.YthmegninhpihkaaGreatProg
set_option maxHeartbeats 16000000
set_option maxRecDepth 100000
open Go.Proofs.Tryz
namespace Go.Proofs.YthmegninhpihkaaGreat
section
open Go.Shelf
def OY:Go.Shelf.Ren:=⟨fun|45=>145|n=>n,fun|22=>192|23=>191|3=>3|4=>4|0=>0|n=>n,fun|n=>n⟩
theorem a1L:Go.Proofs.SlLaysE.n45 prog OY:={
 mixed:=by kernel_rfl
 f45:=⟨Tryz.f145.name,by decide,func145.trans (congrArg some (by kernel_rfl))⟩
 t0:=underlying0
 a0:=Tryz.isAgg0
 z0:=Tryz.sizeOf0
 v0:=Tryz.zeroValue0
 t3:=underlying3
 a3:=Tryz.isAgg3
 z3:=Tryz.sizeOf3
 v3:=Tryz.zeroValue3
 t4:=underlying4
 a4:=Tryz.isAgg4
 z4:=Tryz.sizeOf4
 v4:=Tryz.zeroValue4
 t22:=underlying192
 a22:=Tryz.isAgg192
 z22:=Tryz.sizeOf192
 v22:=Tryz.zeroValue192
 a23:=Tryz.isAgg191
 z23:=Tryz.sizeOf191 }
end
end Go.Proofs.YthmegninhpihkaaGreat
