import Derived.Test.YtdlmfeflinbbjaaGreatAstMayP
namespace Go.Proofs.YtdlmfeflinbbjaaGreat
open Go.Lib (hid)
open Go.RowKit
theorem may_any (sd se:Value) (p:Pr) (w:World) (h:ProgAt w sd se p) (hs:Small p):Calls Tryz.prog 61 #[.agg #[sd,se]] w fun e w'=>MayPost (mayP p) w e w':=by
  obtain ⟨⟨o1,dcap,db,doff,rfl,hd1,hd2,hd3,hd4⟩,⟨o2,cap,b,off,rfl,he1,he2,he3,he4⟩,h3,h4⟩:=h
  exact may_core o1 o2 b off cap db doff dcap p _ _ (hid rfl) (hid rfl) (by have:=hs.exprs;omega) (by have:=hs.decls;omega) w (hid hs) (hid he3) (hid hd3) (hid he4) (hid hd4)
end Go.Proofs.YtdlmfeflinbbjaaGreat
