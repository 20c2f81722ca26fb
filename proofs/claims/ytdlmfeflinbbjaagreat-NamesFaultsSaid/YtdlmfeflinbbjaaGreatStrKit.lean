import Derived.Test.YtdlmfeflinbbjaaGreatRows
import Derived.Test.YtdlmfeflinbbjaaGreatDigMath
import Derived.WalkKit
import Derived.Laws.BytesString
namespace Go.Proofs.YtdlmfeflinbbjaaGreat
open Go.RowKit
def str (l:List UInt8):ByteArray:=⟨l.toArray⟩
theorem str_size (l:List UInt8):(str l).size = l.length:=by unfold str;simp [ByteArray.size]
def byteOf (x:Int):UInt8:=UInt8.ofNat x.toNat
end Go.Proofs.YtdlmfeflinbbjaaGreat
