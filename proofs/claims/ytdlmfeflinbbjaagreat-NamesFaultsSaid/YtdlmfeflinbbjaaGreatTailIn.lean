import Derived.Test.YtdlmfeflinbbjaaGreatAstMayAt
import Derived.StillTailTactics
import Derived.BigQuiet
import Derived.OrdersIn
import Derived.OwnWalkIn
import Derived.RangeFuncCalls
namespace Go.Proofs.YtdlmfeflinbbjaaGreat
open Go.RowKit
section
variable {n:Nat} {P:Program} {ops:Array Oper} {Q:Exit→Act→World→Prop} {md:Region.Mode} {lp:Nat} {w:World}
end
def plainOp (o:Oper):Bool:=match o.op with | .defer _=>false | _=>true
end Go.Proofs.YtdlmfeflinbbjaaGreat
