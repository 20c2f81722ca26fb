/- ParseSpoiled: what its walk needs. -/
import Derived.Test.YtlbhlncipajapaaDoorPs18
set_option maxHeartbeats 16000000
set_option maxRecDepth 100000
namespace Go.Proofs.YtlbhlncipajapaaDoor

end Go.Proofs.YtlbhlncipajapaaDoor
