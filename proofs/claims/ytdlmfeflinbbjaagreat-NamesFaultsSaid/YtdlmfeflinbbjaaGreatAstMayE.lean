import Derived.Test.YtdlmfeflinbbjaaGreatAstMayk3
import Derived.Test.YtdlmfeflinbbjaaGreatAstMayk19
import Derived.Test.YtdlmfeflinbbjaaGreatAstMayk20
import Derived.Test.YtdlmfeflinbbjaaGreatAstMayk0
namespace Go.Proofs.YtdlmfeflinbbjaaGreat
open Go.Lib (hid)
open Go.RowKit Go.Shelf
theorem mayAt_any (x:Ex) (s:Value) (i:Nat) (w:World) (ha:IntsAt w s x.args) (hk:ExOk x) :
    Calls Tryz.prog 98 #[exV x s,.int .i64 (i:Int)] w fun e w'=>MayPost (mayE x i) w e w':=by
  by_cases h:1≤x.kind∧x.kind≤21
  · have q1:decide (x.kind < 1) = false:=decide_eq_false (by omega)
    have q2:decide (21 < x.kind) = false:=decide_eq_false (by omega)
    obtain ⟨o,cap,b,off,hs,_⟩:=id ha
    by_cases h3:x.kind = 3
    · exact callsIn_wide.1 (mayAt_k3 x s i q1 q2 w (hid ha) (hid hk) o _ cap (hid hs) (hid rfl) (hid (by rw [h3];rfl)) (hid (by rw [h3];rfl)) (hid (by rw [h3];rfl)))
    · by_cases h19:x.kind = 19
      · exact callsIn_wide.1 (mayAt_k19 x s i q1 q2 w (hid ha) (hid hk) o _ cap (hid hs) (hid rfl) (hid (by rw [h19];rfl)) (hid (by rw [h19];rfl)) (hid (by rw [h19];rfl)))
      · by_cases h20:x.kind = 20
        · exact callsIn_wide.1 (mayAt_k20 x s i q1 q2 w (hid ha) (hid hk) o _ cap (hid hs) (hid rfl) (hid (by rw [h20];rfl)) (hid (by rw [h20];rfl)) (hid (by rw [h20];rfl)))
        · exact callsIn_wide.1 (mayAt_k0 x s i q1 q2 w (hid ha) (hid hk) o _ cap (hid hs) (hid rfl) (hid (beq_false_of_ne h3)) (hid (beq_false_of_ne h19)) (hid (beq_false_of_ne h20)))
  · exact mayAt_kind x s i h w
end Go.Proofs.YtdlmfeflinbbjaaGreat
