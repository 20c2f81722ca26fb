import Derived.Test.YtdlmfeflinbbjaaGreatAstRefMayPJ
import Derived.Deep.RegionHeld3
import Derived.Deep.CutRange
import Derived.Outline
namespace Go.Proofs.YtdlmfeflinbbjaaGreat
open Go.RowKit Go.Shelf
attribute [local go_sem] Oper.semAt_some
end Go.Proofs.YtdlmfeflinbbjaaGreat
