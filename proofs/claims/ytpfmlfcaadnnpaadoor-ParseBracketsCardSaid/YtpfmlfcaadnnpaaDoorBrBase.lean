/- ParseBrackets: what its walk needs. -/
import Derived.Test.YtpfmlfcaadnnpaaDoorPb14
set_option maxHeartbeats 16000000
set_option maxRecDepth 100000
namespace Go.Proofs.YtpfmlfcaadnnpaaDoor

end Go.Proofs.YtpfmlfcaadnnpaaDoor
