import Derived.Test.YtdlmfeflinbbjaaGreatAstMayAt
namespace Go.Proofs.YtdlmfeflinbbjaaGreat
def partsN (p:Pr) (e:Nat):List Nat:=match p.exprs[e]? with
  | some x=>(partsE x).map Int.toNat
  | none=>[]
def treeN (p:Pr):Nat→Nat→List Nat
  | 0,_=>[]
  | f+1,e=>e :: (partsN p e).flatMap (treeN p f)
def tree (p:Pr) (e:Nat):List Nat:=treeN p (e+1) e
def Ahead (p:Pr):Prop:=∀ e,∀ z∈partsN p e,z < e
def fresh:List Nat→List Nat→List Nat
  | _,[]=>[]
  | s,a :: l=>if a∈s then fresh s l else a :: fresh (a :: s) l
def still (p:Pr) (s l:List Nat):List Nat:=fresh s (l.flatMap (tree p))
def MetOk (p:Pr) (s l:List Nat):Prop:=∀ a x c,l = a ++ x :: c→∀ m∈s,m≤x→∀ z∈tree p m,z∈s∨z∈a.flatMap (tree p)
def metP (p:Pr) (e:Nat):List Nat:=still p [] [e]
end Go.Proofs.YtdlmfeflinbbjaaGreat
