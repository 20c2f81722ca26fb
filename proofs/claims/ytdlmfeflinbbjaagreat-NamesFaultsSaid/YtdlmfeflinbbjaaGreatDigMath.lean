import Derived.WalkKit
namespace Go.Proofs.YtdlmfeflinbbjaaGreat
open Go.RowKit
def dg (n:Nat):UInt8:=UInt8.ofNat (48+n)
def digs (n:Nat):List UInt8:=if n < 10 then [dg n] else digs (n / 10) ++ [dg (n % 10)]
termination_by n
decreasing_by omega
def frac:Nat→Nat→List UInt8
  | 0,_=>[]
  | n+1,b=>dg (b*10 / 4294967296) :: frac n (b*10 % 4294967296)
def rest:Nat→Nat→Nat
  | 0,b=>b
  | n+1,b=>rest n (b*10 % 4294967296)
def strip (l:List UInt8):List UInt8:=(l.reverse.dropWhile (· == 48)).reverse
theorem take_at {l:List UInt8} {k:Nat} {c:UInt8} (h:l[k]? = some c):l.take (k+1) = l.take k ++ [c]:=by
  obtain ⟨hk,hb⟩:=List.getElem?_eq_some_iff.1 h
  rw [List.take_succ_eq_append_getElem hk,hb]
def tail (f:List UInt8):List UInt8:=if f = [] then [] else 46 :: f
def clip (n:Int):Nat:=(min (max n 0) 32).toNat
def shortL (q n:Int):List UInt8:=(if q < 0 then [45] else []) ++ digs (q.natAbs / 4294967296) ++ tail (strip (frac (clip n) (q.natAbs % 4294967296)))
end Go.Proofs.YtdlmfeflinbbjaaGreat
