import Derived.Test.YtdlmfeflinbbjaaGreatAstRow
namespace Go.Proofs.YtdlmfeflinbbjaaGreat
def natV (z:Nat):Value:=.int .i64 (z:Int)
theorem own_lt {X:World} {base sz k:Nat} {T:TypeId} {v:Value} {xs:List Value} (h:X.ownsRow base T sz v k xs) {g:Nat} (hg:v.ownBlock = some g):base≤g∧∃ cur:Array Value,X.heap[g]? = some (.cells cur T (0,0)):=by
  rcases h.2 with ⟨rfl,_⟩ | ⟨g',cap,cur,rfl,hb,hgb,_⟩
  · simp [Value.ownBlock] at hg
  · have:g' = g:=by simpa [Value.ownBlock] using hg
    subst this;exact ⟨hb,cur,hgb⟩
theorem own_same {X Y:World} {base sz k:Nat} {T:TypeId} {v:Value} {xs:List Value} (h:X.ownsRow base T sz v k xs) (hs:∀ g,v.ownBlock = some g→Y.heap[g]? = X.heap[g]?):Y.ownsRow base T sz v k xs:=by
  refine ⟨h.1,?_⟩
  rcases h.2 with h1 | ⟨g,cap,cur,rfl,hb,hgb,hr⟩
  · exact .inl h1
  · exact .inr ⟨g,cap,cur,rfl,hb,(hs g rfl).trans hgb,hr⟩
end Go.Proofs.YtdlmfeflinbbjaaGreat
