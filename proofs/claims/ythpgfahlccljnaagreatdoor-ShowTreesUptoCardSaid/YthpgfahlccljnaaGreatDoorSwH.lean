import Derived.Lib.Hide
import Derived.Below
set_option maxHeartbeats 16000000
set_option maxRecDepth 100000
namespace Go.Proofs.YthpgfahlccljnaaGreatDoor
open Go.RowKit
theorem Hd{p:Prop}(h:p):RowKit.Hid p:=h
theorem qL(n:Nat):n≤n:=Nat.le_refl n
theorem ql{n m:Nat}(h:n<m):n≤m:=Nat.le_of_lt h
theorem qF{p:Prop}[Decidable p](h:¬p):decide p=false:=decide_eq_false h
theorem qT{p:Prop}[Decidable p](h:p):decide p=true:=decide_eq_true h
theorem qB(B:Nat)(w:World):Below B w w:=Below.refl B w
theorem qI{α:Type _}{a b:α}(h:some a=some b):a=b:=Option.some.inj h
theorem qO(w:World)(b:Nat)(e:TypeId)(k:Nat):w.ownsRow b e k (Value.slice none 0 0) 0 []:=World.ownsRow_nil w b e k
end Go.Proofs.YthpgfahlccljnaaGreatDoor
