/-
  Nodes, as the document has them.
-/
import Derived.Test.YtehmblcbccceaaaGreatKScD
import Derived.Deep.Grids
import Derived.Deep.DeepCutAuto
import Derived.Deep.CutBlock
import Derived.Test.YtehmblcbccceaaaGreatKScC

set_option maxRecDepth 100000
namespace Go.Proofs.YtehmblcbccceaaaGreat
open Go.RowKit pxm imm

end Go.Proofs.YtehmblcbccceaaaGreat

namespace Go.Proofs.YtehmblcbccceaaaGreat
open Go.RowKit pxm imm

end Go.Proofs.YtehmblcbccceaaaGreat

namespace Go.Proofs.YtehmblcbccceaaaGreat
open Go.RowKit pxm imm

end Go.Proofs.YtehmblcbccceaaaGreat

namespace Go.Proofs.YtehmblcbccceaaaGreat
open Go.RowKit pxm imm

end Go.Proofs.YtehmblcbccceaaaGreat

namespace Go.Proofs.YtehmblcbccceaaaGreat
open Go.RowKit pxm imm

def Bx.l (r : Bx) : List Int := [r.a, r.b, r.c, r.d]
end Go.Proofs.YtehmblcbccceaaaGreat
