import Derived.Test.YthpgfahlccljnaaGreatDoorSw17
import Derived.Lib.Join
import Derived.Test.YthpgfahlccljnaaGreatDoorSwSh
set_option maxHeartbeats 16000000
set_option maxRecDepth 100000
open Go.Proofs.Tryz(prog)
namespace Go.Proofs.YthpgfahlccljnaaGreatDoor
open Go.RowKit
def Wd (B b:Nat) (s:Value) (S:ByteArray) (W:World):Prop:=∃m,str m=S∧IsWr B b s (Lib.byteCells m) W
theorem Wd.alloc {B b:Nat} {s:Value} {S:ByteArray} {W:World} (h:Wd B b s S W) (o:Obj):Wd B b s S (W.alloc o):=by obtain⟨m,e,h⟩:=h;exact⟨m,e,isWr_alloc h o⟩
theorem Wd.below {B b:Nat} {s:Value} {S:ByteArray} {W Y:World} (h:Wd B b s S W) (hb:Below W.heap.size W Y):Wd B b s S Y:=by obtain⟨m,e,h⟩:=h;exact⟨m,e,h.below hb⟩
theorem Wd.cells {B b:Nat} {s:Value} {S:ByteArray} {W:World} (h:Wd B b s S W):b<W.heap.size∧W.cell? ⟨b,2,none⟩=some s∧B≤b:=by
 obtain⟨m,e,h⟩:=h
 rcases h with h | h <;> exact⟨wlt_of_heap h.2.choose_spec.1,h.cells.2.1,h.1⟩
def BoxW (W:World) (xb b:Nat):Prop:=W.heap[xb]?=some (.cells #[.pointer (some ⟨b,0,none⟩)] 53 (0,0))∧xb≠b
theorem BoxW.cell {W:World} {xb b:Nat} (h:BoxW W xb b):W.cell? ⟨xb,0,none⟩=some (.pointer (some ⟨b,0,none⟩)):=by simp[World.cell?,h.1]
theorem BoxW.below {W Y:World} {xb b:Nat} (h:BoxW W xb b) (hb:Below W.heap.size W Y):BoxW Y xb b:=⟨(hb.block xb (wlt_of_heap h.1)).trans h.1,h.2⟩
theorem BoxW.kept {W Y:World} {xb b:Nat} (h:BoxW W xb b) (hk:Lib.OthersKept 5 (some b) W Y):BoxW Y xb b :=
 ⟨hk xb _ h.1 (by intro e;exact h.2 (qI e)) (by intro c fz e;injection e with e1 e2;revert e2;decide),h.2⟩
def WrPost (B b:Nat) (s:Value) (S:ByteArray) (W:World) (r:Ending) (Y:World):Prop:=r=.returned (.tuple #[])∧Hid (Wd B b s S Y∧Below B W Y∧Lib.OthersKept 5 (some b) W Y)
theorem putW (B b n:Nat) (s:Value) (S:ByteArray) (ss:List ByteArray) (hn:ss.length=n) (nl:(n:Int)≤1000) (W:World) (hw:Wd B b s S W) (hlen:(catB S ss).size≤100000000000000) (hB:B≤W.heap.size) :
  Calls prog 36 #[.pointer (some ⟨b,0,none⟩),.slice (some ⟨W.heap.size,0,none⟩) n n] (W.alloc (.cells ⟨ss.map Value.string⟩ 9)) fun r Y=>WrPost B b s (catB S ss) W r Y:=by
 obtain⟨h1,_,_⟩:=hw.cells
 obtain⟨m,e,h⟩:=hw
 subst e
 exact(put_new B b n s m ss hn nl W h h1 hlen hB).mono fun r Y h=>⟨h.1,Hd ⟨⟨_,str_cats m ss,h.2.1⟩,h.2.2⟩⟩
theorem lineW (B b n:Nat) (s:Value) (S:ByteArray) (ss:List ByteArray) (hn:ss.length=n) (nl:(n:Int)≤1000) (W:World) (hw:Wd B b s S W) (hlen:(catB S ss).size≤90000000000000) (hB:B≤W.heap.size) :
  Calls prog 39 #[.pointer (some ⟨b,0,none⟩),.slice (some ⟨W.heap.size,0,none⟩) n n] (W.alloc (.cells ⟨ss.map Value.string⟩ 9)) fun r Y=>WrPost B b s (catB S ss++⟨#[10]⟩) W r Y:=by
 obtain⟨h1,_,_⟩:=hw.cells
 obtain⟨m,e,h⟩:=hw
 subst e
 exact(line_new B b n s m ss hn nl W h h1 hlen hB).mono fun r Y h=>⟨h.1,Hd ⟨⟨_,str_line m ss,h.2.1⟩,h.2.2⟩⟩
def lineI (S:ByteArray) (ws:List ByteArray):ByteArray:=catB (catB (catB S [⟨#[32,32]⟩]) ws) [⟨#[59]⟩]++⟨#[10]⟩
theorem catB_le (S:ByteArray) (ws:List ByteArray):S.size≤(catB S ws).size:=by
 induction ws generalizing S with
 | nil=>exact qL _
 | cons w ws ih =>
  have:=ih (S++w)
  rw[ByteArray.size_append] at this
  show S.size≤(catB (S++w) ws).size
  omega
theorem line1_any (B b xb gs n cap:Nat) (s:Value) (S:ByteArray) (ss:List ByteArray) (hn:ss.length=n) (nl:(n:Int)≤1000) (W:World) (hw:Hid (Wd B b s S W)) (hx:Hid (BoxW W xb b)) (hS:Hid (StrRow W gs ss)) (hg:Hid (gs≠b)) (hlen:Hid ((lineI S ss).size≤90000000000000)) (hB:B≤W.heap.size) :
  Calls prog 65 #[.slice (some ⟨gs,0,none⟩) n cap,.pointer (some ⟨xb,0,none⟩)] W fun r Y=>WrPost B b s (lineI S ss) W r Y:=by
 have x0:=hx.out.cell
 have hl1:(catB (catB (catB S [⟨#[32,32]⟩]) ss) [⟨#[59]⟩]).size≤90000000000000:=by have:=hlen.out;unfold lineI at this;rw[ByteArray.size_append] at this;omega
 have hl2:=catB_le (catB (catB S [⟨#[32,32]⟩]) ss) [⟨#[59]⟩]
 have hl3:=catB_le (catB S [⟨#[32,32]⟩]) ss
 have HN:=Hd hn
 have HL:=Hd (show _∧_∧_ from⟨hl1,hl2,hl3⟩)
 have C1:Hid (Calls prog 36 #[.pointer (some ⟨b,0,none⟩),.slice (some ⟨W.heap.size,0,none⟩) 1 1] (W.alloc (.cells #[.string ⟨#[32,32]⟩] 9)) fun r Y=>WrPost B b s (catB S [⟨#[32,32]⟩]) W r Y):=Hd (putW B b 1 s S [⟨#[32,32]⟩] rfl (by decide) W hw.out (by omega) hB)
 clear hn hl1 hl2 hl3
 go_enter Tryz.func65,Tryz.ntmps65
 go_wp2_with fail
 (with_reducible refine C1.out.mono ?_)
 rintro r w1 ⟨rfl,h1⟩
 dsimp only
 have x1:=(hx.out.kept h1.out.2.2).cell
 have C2:Hid (Calls prog 36 #[.pointer (some ⟨b,0,none⟩),.slice (some ⟨gs,0,none⟩) n cap] w1 fun r Y=>WrPost B b s (catB (catB S [⟨#[32,32]⟩]) ss) w1 r Y):=Hd (by
  obtain⟨m,e,h⟩:=h1.out.1
  have hlm:=HL.out
  rw[←e] at hlm ⊢
  exact(wput_any B b gs n cap s m ss HN nl w1 (Hd h) (Hd (hS.out.kept hg.out h1.out.2.2)) hg.out (by rw[cats_len];omega) (by have:=h1.out.2.1.size;omega)).mono fun r Y h=>⟨h.1,Hd ⟨⟨_,str_cats m ss,h.2.1⟩,h.2.2⟩⟩)
 go_wp2_with fail
 (with_reducible refine C2.out.mono ?_)
 rintro r w2 ⟨rfl,h2⟩
 dsimp only
 have x2:=((hx.out.kept h1.out.2.2).kept h2.out.2.2).cell
 have C3:Hid (Calls prog 39 #[.pointer (some ⟨b,0,none⟩),.slice (some ⟨w2.heap.size,0,none⟩) 1 1] (w2.alloc (.cells #[.string ⟨#[59]⟩] 9)) fun r Y=>WrPost B b s (lineI S ss) w2 r Y):=Hd (lineW B b 1 s _ [⟨#[59]⟩] rfl (by decide) w2 h2.out.1 HL.out.1 (by have:=h1.out.2.1.size;have:=h2.out.2.1.size;omega))
 go_wp2_with fail
 (with_reducible refine C3.out.mono ?_)
 rintro r w3 ⟨rfl,h3⟩
 dsimp only
 go_wp2_with fail
 go_end0
 exact⟨rfl,Hd ⟨h3.out.1,(h1.out.2.1.trans h2.out.2.1).trans h3.out.2.1,(h1.out.2.2.trans h2.out.2.2).trans h3.out.2.2⟩⟩
theorem text2_any (B b xb:Nat) (o:Option Addr) (n cap:Nat) (S t:ByteArray) (e:Int) (W:World) (hw:Hid (Wd B b (.slice o n cap) S W)) (hx:Hid (BoxW W xb b)) (TX:Hid (Calls prog 18 #[.slice o n cap,.int .i64 e] W fun r Y=>r=.returned (.string t)∧Below W.heap.size W Y)) :
  Calls prog 66 #[.int .i64 e,.pointer (some ⟨xb,0,none⟩)] W fun r Y=>r=.returned (.string t)∧Hid (Below W.heap.size W Y):=by
 have x0:=hx.out.cell
 have x1:=hw.out.cells.2.1
 go_enter Tryz.func66,Tryz.ntmps66
 go_wp2_with (go_at_call 18;(with_reducible refine TX.out.mono ?_);rintro r w1 ⟨rfl,h1⟩)
 go_ret
 exact⟨rfl,Hd h1⟩
def wordsI (T:Int→ByteArray) (y:It):List ByteArray :=
 if y.kind=1 then [⟨#[108,101,116,32]⟩,y.name,⟨#[58,32]⟩,typeB y.type,⟨#[32,61,32]⟩,T y.e] else
 if y.kind=2 then [⟨#[100,101,114,32]⟩,y.name,⟨#[32,61,32]⟩,T y.e,⟨#[32,105,110,105,116,32]⟩,T y.f] else
 if y.kind=3 then [⟨#[114,101,115,101,116,32]⟩,y.name,⟨#[32,111,110,32]⟩,T y.f,⟨#[32,61,32]⟩,T y.e] else
 if y.kind=4 then [⟨#[109,101,109,32]⟩,y.name,⟨#[58,32]⟩,typeB y.type,⟨#[32,105,110,105,116,32]⟩,T y.e] else
 if y.kind=5 then [⟨#[111,110,32]⟩,T y.f,⟨#[32,115,101,116,32]⟩,y.name,⟨#[32,61,32]⟩,T y.e] else
 if y.kind=6 then [⟨#[109,111,100,101,32]⟩,y.name,⟨#[32,123]⟩,statesB ⟨#[]⟩ y.states y.states.length,⟨#[125]⟩] else
 if y.kind=7 then [⟨#[102,114,111,109,32]⟩,y.name,⟨#[46]⟩,y.state,⟨#[32,111,110,32]⟩,T y.f,⟨#[32,103,111,116,111,32]⟩,y.next] else
 [⟨#[111,117,116,32]⟩,y.name]
theorem statesB_app (s:ByteArray) (l:List ByteArray) (i:Nat):statesB s l i=s++statesB ⟨#[]⟩ l i:=by
 induction i with
 | zero=>exact(ByteArray.append_empty ..).symm
 | succ i ih =>
  show(if 0<i then statesB s l i++⟨#[44,32]⟩ else statesB s l i)++l.getD i ⟨#[]⟩=s++((if 0<i then statesB ⟨#[]⟩ l i++⟨#[44,32]⟩ else statesB ⟨#[]⟩ l i)++l.getD i ⟨#[]⟩)
  rw[ih]
  split <;> simp only[ByteArray.append_assoc]
theorem joinTail_snoc (sep:List UInt8) (r:List (List UInt8)) (x:List UInt8):Lib.joinTail sep (r++[x])=Lib.joinTail sep r++(sep++x):=by
 unfold Lib.joinTail;simp
theorem states_join (l:List ByteArray):str (Lib.join (l.map (·.data.toList)) (⟨#[44,32]⟩:ByteArray).data.toList)=statesB ⟨#[]⟩ l l.length:=by
 have key:∀i,i≤l.length→statesB ⟨#[]⟩ l i=str (Lib.join ((l.take i).map (·.data.toList)) (⟨#[44,32]⟩:ByteArray).data.toList):=by
  intro i
  induction i with
  | zero=>intro _;rfl
  | succ i ih =>
   intro hi
   obtain⟨x,hx⟩:∃x,l[i]?=some x:=⟨_,List.getElem?_eq_getElem (by omega)⟩
   have e:l.getD i ⟨#[]⟩=x:=by rw[List.getD_eq_getElem?_getD,hx];rfl
   have et:l.take (i+1)=l.take i++[x]:=by rw[List.take_add_one,hx];rfl
   show(if 0<i then statesB ⟨#[]⟩ l i++⟨#[44,32]⟩ else statesB ⟨#[]⟩ l i)++l.getD i ⟨#[]⟩=_
   rw[e,et,List.map_append,ih (by omega)]
   cases htk:l.take i with
   | nil =>
    have hi0:i=0:=by have:=congrArg List.length htk;rw[List.length_take,List.length_nil] at this;omega
    subst hi0
    rw[if_neg (by omega)]
    show str (Lib.join [] _)++x=str (Lib.join [x.data.toList] _)
    rw[Lib.join_nil,Lib.join_one]
    exact ByteArray.empty_append ..
   | cons a r =>
    have h0:0<i:=by have:=congrArg List.length htk;rw[List.length_take,List.length_cons] at this;omega
    rw[if_pos h0,List.map_cons,List.cons_append,Lib.join_cons,Lib.join_cons]
    show _=str (a.data.toList++Lib.joinTail _ (r.map _++[x.data.toList]))
    rw[joinTail_snoc]
    unfold str
    apply ByteArray.ext
    simp
 have h:=key l.length (qL _)
 rw[List.take_length] at h
 exact h.symm
theorem words_1 (T:Int→ByteArray) (S:ByteArray) (y:It) (h:y.kind=1):lineI S (wordsI T y)=S++itemB T y:=by
 have e1:(⟨#[32,32,108,101,116,32]⟩:ByteArray)=⟨#[32,32]⟩++⟨#[108,101,116,32]⟩:=str_add [32,32] ⟨#[108,101,116,32]⟩
 have e2:(⟨#[59,10]⟩:ByteArray)=⟨#[59]⟩++⟨#[10]⟩:=str_add [59] ⟨#[10]⟩
 unfold wordsI itemB
 rw[if_pos h,if_pos h]
 rw[e1,e2]
 unfold lineI catB
 simp only[List.foldl,ByteArray.append_assoc]
theorem words_2 (T:Int→ByteArray) (S:ByteArray) (y:It) (h:y.kind=2):lineI S (wordsI T y)=S++itemB T y:=by
 have e1:(⟨#[32,32,100,101,114,32]⟩:ByteArray)=⟨#[32,32]⟩++⟨#[100,101,114,32]⟩:=str_add [32,32] ⟨#[100,101,114,32]⟩
 have e2:(⟨#[59,10]⟩:ByteArray)=⟨#[59]⟩++⟨#[10]⟩:=str_add [59] ⟨#[10]⟩
 unfold wordsI itemB
 rw[if_neg (show ¬y.kind=1 by omega),if_neg (show ¬y.kind=1 by omega)]
 rw[if_pos h,if_pos h]
 rw[e1,e2]
 unfold lineI catB
 simp only[List.foldl,ByteArray.append_assoc]
theorem words_3 (T:Int→ByteArray) (S:ByteArray) (y:It) (h:y.kind=3):lineI S (wordsI T y)=S++itemB T y:=by
 have e1:(⟨#[32,32,114,101,115,101,116,32]⟩:ByteArray)=⟨#[32,32]⟩++⟨#[114,101,115,101,116,32]⟩:=str_add [32,32] ⟨#[114,101,115,101,116,32]⟩
 have e2:(⟨#[59,10]⟩:ByteArray)=⟨#[59]⟩++⟨#[10]⟩:=str_add [59] ⟨#[10]⟩
 unfold wordsI itemB
 rw[if_neg (show ¬y.kind=1 by omega),if_neg (show ¬y.kind=1 by omega)]
 rw[if_neg (show ¬y.kind=2 by omega),if_neg (show ¬y.kind=2 by omega)]
 rw[if_pos h,if_pos h]
 rw[e1,e2]
 unfold lineI catB
 simp only[List.foldl,ByteArray.append_assoc]
theorem words_4 (T:Int→ByteArray) (S:ByteArray) (y:It) (h:y.kind=4):lineI S (wordsI T y)=S++itemB T y:=by
 have e1:(⟨#[32,32,109,101,109,32]⟩:ByteArray)=⟨#[32,32]⟩++⟨#[109,101,109,32]⟩:=str_add [32,32] ⟨#[109,101,109,32]⟩
 have e2:(⟨#[59,10]⟩:ByteArray)=⟨#[59]⟩++⟨#[10]⟩:=str_add [59] ⟨#[10]⟩
 unfold wordsI itemB
 rw[if_neg (show ¬y.kind=1 by omega),if_neg (show ¬y.kind=1 by omega)]
 rw[if_neg (show ¬y.kind=2 by omega),if_neg (show ¬y.kind=2 by omega)]
 rw[if_neg (show ¬y.kind=3 by omega),if_neg (show ¬y.kind=3 by omega)]
 rw[if_pos h,if_pos h]
 rw[e1,e2]
 unfold lineI catB
 simp only[List.foldl,ByteArray.append_assoc]
theorem words_5 (T:Int→ByteArray) (S:ByteArray) (y:It) (h:y.kind=5):lineI S (wordsI T y)=S++itemB T y:=by
 have e1:(⟨#[32,32,111,110,32]⟩:ByteArray)=⟨#[32,32]⟩++⟨#[111,110,32]⟩:=str_add [32,32] ⟨#[111,110,32]⟩
 have e2:(⟨#[59,10]⟩:ByteArray)=⟨#[59]⟩++⟨#[10]⟩:=str_add [59] ⟨#[10]⟩
 unfold wordsI itemB
 rw[if_neg (show ¬y.kind=1 by omega),if_neg (show ¬y.kind=1 by omega)]
 rw[if_neg (show ¬y.kind=2 by omega),if_neg (show ¬y.kind=2 by omega)]
 rw[if_neg (show ¬y.kind=3 by omega),if_neg (show ¬y.kind=3 by omega)]
 rw[if_neg (show ¬y.kind=4 by omega),if_neg (show ¬y.kind=4 by omega)]
 rw[if_pos h,if_pos h]
 rw[e1,e2]
 unfold lineI catB
 simp only[List.foldl,ByteArray.append_assoc]
theorem words_6 (T:Int→ByteArray) (S:ByteArray) (y:It) (h:y.kind=6):lineI S (wordsI T y)=S++itemB T y:=by
 have e1:(⟨#[32,32,109,111,100,101,32]⟩:ByteArray)=⟨#[32,32]⟩++⟨#[109,111,100,101,32]⟩:=str_add [32,32] ⟨#[109,111,100,101,32]⟩
 have e2:(⟨#[125,59,10]⟩:ByteArray)=(⟨#[125]⟩++⟨#[59]⟩)++⟨#[10]⟩:=(str_add [125,59] ⟨#[10]⟩).trans (congrArg (·++(⟨#[10]⟩:ByteArray)) (str_add [125] ⟨#[59]⟩))
 unfold wordsI itemB
 rw[if_neg (show ¬y.kind=1 by omega),if_neg (show ¬y.kind=1 by omega)]
 rw[if_neg (show ¬y.kind=2 by omega),if_neg (show ¬y.kind=2 by omega)]
 rw[if_neg (show ¬y.kind=3 by omega),if_neg (show ¬y.kind=3 by omega)]
 rw[if_neg (show ¬y.kind=4 by omega),if_neg (show ¬y.kind=4 by omega)]
 rw[if_neg (show ¬y.kind=5 by omega),if_neg (show ¬y.kind=5 by omega)]
 rw[if_pos h,if_pos h]
 rw[e1,e2]
 rw[statesB_app (_++_)]
 unfold lineI catB
 simp only[List.foldl,ByteArray.append_assoc]
theorem words_7 (T:Int→ByteArray) (S:ByteArray) (y:It) (h:y.kind=7):lineI S (wordsI T y)=S++itemB T y:=by
 have e1:(⟨#[32,32,102,114,111,109,32]⟩:ByteArray)=⟨#[32,32]⟩++⟨#[102,114,111,109,32]⟩:=str_add [32,32] ⟨#[102,114,111,109,32]⟩
 have e2:(⟨#[59,10]⟩:ByteArray)=⟨#[59]⟩++⟨#[10]⟩:=str_add [59] ⟨#[10]⟩
 unfold wordsI itemB
 rw[if_neg (show ¬y.kind=1 by omega),if_neg (show ¬y.kind=1 by omega)]
 rw[if_neg (show ¬y.kind=2 by omega),if_neg (show ¬y.kind=2 by omega)]
 rw[if_neg (show ¬y.kind=3 by omega),if_neg (show ¬y.kind=3 by omega)]
 rw[if_neg (show ¬y.kind=4 by omega),if_neg (show ¬y.kind=4 by omega)]
 rw[if_neg (show ¬y.kind=5 by omega),if_neg (show ¬y.kind=5 by omega)]
 rw[if_neg (show ¬y.kind=6 by omega),if_neg (show ¬y.kind=6 by omega)]
 rw[if_pos h,if_pos h]
 rw[e1,e2]
 unfold lineI catB
 simp only[List.foldl,ByteArray.append_assoc]
theorem words_8 (T:Int→ByteArray) (S:ByteArray) (y:It) (h:y.kind=8):lineI S (wordsI T y)=S++itemB T y:=by
 have e1:(⟨#[32,32,111,117,116,32]⟩:ByteArray)=⟨#[32,32]⟩++⟨#[111,117,116,32]⟩:=str_add [32,32] ⟨#[111,117,116,32]⟩
 have e2:(⟨#[59,10]⟩:ByteArray)=⟨#[59]⟩++⟨#[10]⟩:=str_add [59] ⟨#[10]⟩
 unfold wordsI itemB
 rw[if_neg (show ¬y.kind=1 by omega),if_neg (show ¬y.kind=1 by omega)]
 rw[if_neg (show ¬y.kind=2 by omega),if_neg (show ¬y.kind=2 by omega)]
 rw[if_neg (show ¬y.kind=3 by omega),if_neg (show ¬y.kind=3 by omega)]
 rw[if_neg (show ¬y.kind=4 by omega),if_neg (show ¬y.kind=4 by omega)]
 rw[if_neg (show ¬y.kind=5 by omega),if_neg (show ¬y.kind=5 by omega)]
 rw[if_neg (show ¬y.kind=6 by omega),if_neg (show ¬y.kind=6 by omega)]
 rw[if_neg (show ¬y.kind=7 by omega),if_neg (show ¬y.kind=7 by omega)]
 rw[e1,e2]
 unfold lineI catB
 simp only[List.foldl,ByteArray.append_assoc]
theorem words_line (T:Int→ByteArray) (S:ByteArray) (y:It) (h1:1≤y.kind) (h8:y.kind≤8):lineI S (wordsI T y)=S++itemB T y:=by
 obtain h | h | h | h | h | h | h | h:y.kind=1∨y.kind=2∨y.kind=3∨y.kind=4∨y.kind=5∨y.kind=6∨y.kind=7∨y.kind=8:=by omega
 ·exact words_1 T S y h
 ·exact words_2 T S y h
 ·exact words_3 T S y h
 ·exact words_4 T S y h
 ·exact words_5 T S y h
 ·exact words_6 T S y h
 ·exact words_7 T S y h
 ·exact words_8 T S y h
theorem others_below {b:Option Nat} {W Y:World} (hb:Below W.heap.size W Y):Lib.OthersKept 5 b W Y:=fun k _ h _ _=>(hb.block k (wlt_of_heap h)).trans h
def ItI (WB W:World) (b xb:Nat) (s:Value) (S:ByteArray) (Y:World):Prop:=Wd WB.heap.size b s S Y∧BoxW Y xb b∧Below WB.heap.size WB Y∧Below WB.heap.size W Y∧Lib.OthersKept 5 (some b) W Y
theorem ItI.line {WB W wr V Y:World} {b xb n:Nat} {s:Value} {S S':ByteArray} {ws:List ByteArray} (hn:ws.length=n) (nl:(n:Int)≤1000) (h:ItI WB W b xb s S wr) (hV:Below wr.heap.size wr V) (hb:Below V.heap.size V Y) (hS:lineI S ws=S') (hM:S'.size≤90000000000000) (ib:Nat) {cs:Array Value} (hib:V.heap[ib]?=some (.cells cs 36 (0,0))) (hbi:ib≠b) :
  Calls prog 65 #[.slice (some ⟨Y.heap.size,0,none⟩) n n,.pointer (some ⟨xb,0,none⟩)] (Y.alloc (.cells ⟨ws.map Value.string⟩ 9)) fun r Z=>r=.returned (.tuple #[])∧Hid (ItI WB W b xb s S' Z)∧Hid (∀i u,(Y.alloc (.cells ⟨ws.map Value.string⟩ 9)).cell? ⟨ib,i,none⟩=some u→Z.cell? ⟨ib,i,none⟩=some u):=by
 subst hS
 obtain⟨h1,h2,h3,h4,h5⟩:=h
 have k1:=h3.size
 have k2:=hV.size
 have k3:=hb.size
 have hbw:=h1.cells.1
 have hY:Below wr.heap.size wr Y:=hV.trans (hb.mono k2)
 have hYa:Below wr.heap.size wr (Y.alloc (.cells ⟨ws.map Value.string⟩ 9)):=hY.alloc (by omega) _
 refine(line1_any WB.heap.size b xb Y.heap.size n n s S ws hn nl (Y.alloc (.cells ⟨ws.map Value.string⟩ 9)) (Hd (h1.below hYa)) (Hd (h2.below hYa)) (Hd (rowSS Y ws)) (Hd (by omega)) (Hd hM) (by rw[World.size_alloc];omega)).mono fun r Z h=>⟨h.1,Hd ?_,Hd fun i u hu=>?_⟩
 rotate_left
 ·have e1:(Y.alloc (.cells ⟨ws.map Value.string⟩ 9)).heap[ib]?=some (.cells cs 36 (0,0)):=(((qB Y.heap.size Y).alloc (qL _) _).block ib (wlt_of_heap ((hb.block ib (wlt_of_heap hib)).trans hib))).trans ((hb.block ib (wlt_of_heap hib)).trans hib)
  have e2:=h.2.out.2.2 ib _ e1 (by intro e;exact hbi (qI e)) (by intro c fz e;injection e with e3 e4;revert e4;decide)
  rw[World.cell?_of_block (w:=Y.alloc (.cells ⟨ws.map Value.string⟩ 9)) (a:=⟨ib,i,none⟩) (e2.trans e1.symm)]
  exact hu
 obtain⟨g1,g2,g3⟩:=h.2.out
 have hWY:Below WB.heap.size W (Y.alloc (.cells ⟨ws.map Value.string⟩ 9)):=h4.trans (hYa.mono k1)
 exact⟨g1,(h2.below hYa).kept g3,(h3.trans (hYa.mono k1)).trans g2,hWY.trans g2,(h5.trans (others_below hYa)).trans g3⟩
theorem mayI_e3 {n:Nat} {x:It} (h:mayI n x=true) (he:hasE x.kind=true):0≤x.e∧x.e<(n:Int):=by
 unfold mayI standsE at h
 rw[he,Bool.and_eq_true] at h
 simpa using h.1
theorem mayI_f3 {n:Nat} {x:It} (h:mayI n x=true) (he:hasF x.kind=true):0≤x.f∧x.f<(n:Int):=by
 unfold mayI standsE at h
 rw[he,Bool.and_eq_true] at h
 simpa using h.2
theorem catB_word (S:ByteArray):∀{ws:List ByteArray} {t:ByteArray},t ∈ ws→t.size≤(catB S ws).size
 | w :: ws,t,h=>by
  rcases List.mem_cons.1 h with rfl | h
  ·have:=catB_le (S++t) ws
   rw[ByteArray.size_append] at this
   show t.size≤(catB (S++t) ws).size
   omega
  ·exact catB_word (S++w) h
theorem lineI_word (S:ByteArray) {ws:List ByteArray} {t:ByteArray} (h:t ∈ ws):t.size≤(lineI S ws).size:=by
 have h1:=catB_word (catB S [⟨#[32,32]⟩]) h
 have h2:=catB_le (catB (catB S [⟨#[32,32]⟩]) ws) [⟨#[59]⟩]
 unfold lineI
 rw[ByteArray.size_append]
 omega
theorem join_any (ss:List ByteArray) (ns:Nat) (os:Option Addr) (cs sb sf:Nat) (hns:ns=ss.length) (hso:0<ns→os=some ⟨sb,sf,none⟩) (hsn:ns≤cs) (hst:ns≤140737488351232) (wr Y:World) (hsx:∀i,i<ns→wr.cell? ⟨sb,sf+i*1,none⟩=some (.string (ss.getD i ⟨#[]⟩))) (hY:Below wr.heap.size wr Y) (hl:(statesB ⟨#[]⟩ ss ss.length).size≤90000000000000) :
  Calls prog 67 #[.slice os ns cs,.string ⟨#[44,32]⟩] Y fun r Z=>r=.returned (.string (statesB ⟨#[]⟩ ss ss.length))∧Hid (Below Y.heap.size Y Z):=by
 subst hns
 rcases Nat.eq_zero_or_pos ss.length with h0 | h0
 ·have hs:ss=[]:=List.length_eq_zero_iff.1 h0
  subst hs
  exact(Tryz.strings_Join_none os cs ⟨#[44,32]⟩ Y).mono fun r Z h=>⟨h.1,Hd (by rw[h.2];exact qB _ _)⟩
 ·obtain rfl:=hso h0
  have hc:∀(j:Nat) x,ss[j]?=some x→Y.cell? ⟨sb,sf+j,none⟩=some (.string x):=fun j x hx=>by
   have hj:=(List.getElem?_eq_some_iff.1 hx).1
   have h2:=cell_below hY (hsx j hj)
   rw[Nat.mul_one,List.getD_eq_getElem?_getD,hx] at h2
   exact h2
  obtain⟨x0,hx0⟩:∃x,ss[0]?=some x:=⟨_,List.getElem?_eq_getElem h0⟩
  have hbk:=World.block_lt_of_cell? _ _ (hc 0 x0 hx0)
  have hj:=states_join ss
  have hl2:(Lib.join (ss.map (·.data.toList)) (⟨#[44,32]⟩:ByteArray).data.toList).length≤140737488355328:=by
   have e:=congrArg ByteArray.size hj
   rw[str_size] at e
   omega
  exact(Tryz.strings_Join sb sf cs ss ⟨#[44,32]⟩ Y hc hbk (by omega) hsn hl2).mono fun r Z h=>⟨by rw[h.1,←hj];rfl,Hd h.2⟩
theorem items_any (WB:World) (b:Nat) (o:Option Addr) (n cap:Nat) (T:Int→ByteArray) (ne:Nat) (TX:Hid (∀e:Nat,e<ne→∀Y,Below WB.heap.size WB Y→Calls prog 18 #[.slice o n cap,.int .i64 (e:Int)] Y fun r Z=>r=.returned (.string (T (e:Int)))∧Below Y.heap.size Y Z))
  (its:List It) (k:Nat) (hk:Hid (its.length=k)) (kl:(k:Int)≤1000) (oi:Option Addr) (ci bi fi:Nat) (hoi:Hid (0<k→oi=some ⟨bi,fi,none⟩)) (hx:Hid (∀i,i<k→∀y,its[i]?=some y→ItAt WB bi (fi+i*9) y)) (hm:Hid (∀y ∈ its,mayI ne y=true∧1≤y.kind∧y.kind≤8))
  (S0:ByteArray) (W:World) (hw:Hid (Wd WB.heap.size b (.slice o n cap) S0 W)) (hbl:Hid (Below WB.heap.size WB W)) (hM:Hid ((itsB T S0 its k).size≤90000000000000)) :
  Calls prog 42 #[.pointer (some ⟨b,0,none⟩),.slice oi k ci] W fun r Y=>WrPost WB.heap.size b (.slice o n cap) (itsB T S0 its k) W r Y:=by
 have hbs:=hbl.out.size
 have hbb:=hw.out.cells.1
 obtain⟨xb,hxb⟩:∃xb,xb=W.heap.size:=⟨_,rfl⟩
 have H0:Hid (ItI WB W b xb (.slice o n cap) S0 (W.alloc (.cells #[.pointer (some ⟨b,0,none⟩)] 53))):=Hd ⟨hw.out.alloc _,⟨by rw[hxb];exact heap_alloc_new W _,by omega⟩,hbl.out.alloc hbs _,(qB _ _).alloc hbs _,others_below ((qB _ _).alloc (qL _) _)⟩
 obtain⟨W1,hW1⟩:∃W1,W1=W.alloc (.cells #[.pointer (some ⟨b,0,none⟩)] 53):=⟨_,rfl⟩
 rw[←hW1] at H0
 go_enter Tryz.func42,Tryz.ntmps42
 go_wp2_with fail
 rw[←hW1,←hxb]
 clear hW1 hxb
 go_loopw [12] (fun i wr=>∃j:Nat,j≤k∧i=.int .i64 (j:Int)∧Hid (ItI WB W b xb (.slice o n cap) (itsB T S0 its j) wr)) (fun i _=>k-litLen i)
 case atStart=>exact⟨0,Nat.zero_le _,rfl,H0⟩
 case round =>
  obtain⟨j,hj,rfl,hI⟩:=hrel
  rcases Nat.lt_or_ge j k with hlt | hge
  ·have q1:decide ((j:Int)<(k:Int))=true:=qT (by omega)
   obtain⟨y,hy⟩:∃y,its[j]?=some y:=⟨_,List.getElem?_eq_getElem (by have:=hk.out;omega)⟩
   obtain⟨_,a0,a1,a2,a3,a4,a5,a6,a7,a8,hss,hok⟩:=(hx.out j hlt y hy).below hI.out.2.2.1
   obtain⟨m1,m2,m3⟩:=hm.out y (List.mem_of_getElem? hy)
   have HNX:Hid (∀ws,ws=wordsI T y→lineI (itsB T S0 its j) ws=itsB T S0 its (j+1)):=Hd fun ws hws=>by
    rw[hws,words_line T _ y m2 m3]
    show _=itsB T S0 its j++itemB T (its.getD j itZ)
    rw[List.getD_eq_getElem?_getD,hy];rfl
   have HMJ:Hid ((itsB T S0 its (j+1)).size≤90000000000000):=Hd (by have:=itsB_le T S0 its (j+1) k hlt;have:=hM.out;omega)
   have ix:=ix_its (cap:=ci) hoi.out hlt (by omega)
   unfold Ix at ix
   obtain⟨kd,nm,ty,e,f,ss,st,nx,pos⟩:=y
   dsimp only at a0 a1 a2 a3 a4 a5 a6 a7 a8 m2 m3 hss
   obtain⟨os,cs,sb,sf,rfl,hsn,hsc,hso,hsx⟩:=hss
   obtain⟨ns,hns⟩:∃ns,ns=ss.length:=⟨_,rfl⟩
   rw[←hns] at a5 hso hsx hsn
   have hst:ns≤140737488351232:=by have:=hok.states;unfold reachN at this;dsimp only at this;omega
   obtain⟨V,hV⟩:∃V,V=wr.alloc (.cells #[.int .i64 kd,.string nm,.int .i64 ty,.int .i64 e,.int .i64 f,.slice os ns cs,.string st,.string nx,.int .i64 pos] 36):=⟨_,rfl⟩
   have HIB:Hid (V.heap[wr.heap.size]?=some (.cells #[.int .i64 kd,.string nm,.int .i64 ty,.int .i64 e,.int .i64 f,.slice os ns cs,.string st,.string nx,.int .i64 pos] 36 (0,0))∧wr.heap.size≠b):=Hd ⟨by rw[hV];exact heap_alloc_new wr _,by have:=hI.out.1.cells.1;omega⟩
   have HVV:Hid (Below wr.heap.size wr V):=Hd (by rw[hV];exact(qB _ _).alloc (qL _) _)
   have HBD:Hid (Below V.heap.size V V.drew):=Hd ((qB _ _).drew)
   have v0:V.cell? ⟨wr.heap.size,0,none⟩=some (.int .i64 kd):=by rw[hV];exact new_cell rfl rfl
   have v1:V.cell? ⟨wr.heap.size,1,none⟩=some (.string nm):=by rw[hV];exact new_cell rfl rfl
   have v2:V.cell? ⟨wr.heap.size,2,none⟩=some (.int .i64 ty):=by rw[hV];exact new_cell rfl rfl
   have v3:V.cell? ⟨wr.heap.size,3,none⟩=some (.int .i64 e):=by rw[hV];exact new_cell rfl rfl
   have v4:V.cell? ⟨wr.heap.size,4,none⟩=some (.int .i64 f):=by rw[hV];exact new_cell rfl rfl
   have v5:V.cell? ⟨wr.heap.size,5,none⟩=some (.slice os ns cs):=by rw[hV];exact new_cell rfl rfl
   have v6:V.cell? ⟨wr.heap.size,6,none⟩=some (.string st):=by rw[hV];exact new_cell rfl rfl
   have v7:V.cell? ⟨wr.heap.size,7,none⟩=some (.string nx):=by rw[hV];exact new_cell rfl rfl
   have HTY:Hid (∀Y,Calls prog 41 #[.int .i64 ty] Y fun r Z=>r=.returned (.string (typeB ty))∧Hid (Below Y.heap.size Y Z)):=Hd fun Y=>(typed_any ty Y).mono fun r Z h=>⟨h.1,Hd h.2⟩
   have HTT:Hid (∀a:Nat,a<ne→∀Y,Below V.heap.size V Y→Calls prog 66 #[.int .i64 (a:Int),.pointer (some ⟨xb,0,none⟩)] Y fun r Z=>r=.returned (.string (T (a:Int)))∧Hid (Below Y.heap.size Y Z)):=Hd fun a ha Y hY=>by
    have hWY:=HVV.out.trans (hY.mono HVV.out.size)
    have h3:=hI.out.2.2.1
    exact text2_any WB.heap.size b xb o n cap (itsB T S0 its j) (T (a:Int)) (a:Int) Y (Hd (hI.out.1.below hWY)) (Hd (hI.out.2.1.below hWY)) (Hd (TX.out a ha Y (h3.trans (hWY.mono h3.size))))
   have mixed:prog.follows .mixedOrders=true:=by kernel_rfl
   have HSS:Hid (ns=ss.length∧(0<ns→os=some ⟨sb,sf,none⟩)∧(∀i,i<ns→wr.cell? ⟨sb,sf+i*1,none⟩=some (.string (ss.getD i ⟨#[]⟩)))∧ns≤cs):=Hd ⟨hns,hso,hsx,hsn⟩
   obtain⟨tb,htb⟩:∃tb,tb=typeB ty:=⟨_,rfl⟩
   rw[←htb] at HTY
   have HTB:=Hd htb
   have HIx:=hI
   clear hy hok hso hsx hsn hns hsc htb
   by_cases hk1:kd=1
   ·subst hk1
    obtain⟨e0,e1⟩:=mayI_e3 m1 (by rfl)
    obtain⟨ea,rfl⟩:∃ea:Nat,e=(ea:Int):=⟨e.toNat,by dsimp only at e0;omega⟩
    have hea:ea<ne:=by dsimp only at e1;omega
    obtain⟨te,hte⟩:∃te,te=T (ea:Int):=⟨_,rfl⟩
    have HEA:=Hd hte
    have HTE:Hid (∀Y,Below V.heap.size V Y→Calls prog 66 #[.int .i64 (ea:Int),.pointer (some ⟨xb,0,none⟩)] Y fun r Z=>r=.returned (.string te)∧Hid (Below Y.heap.size Y Z)):=Hd fun Y hY=>by rw[HEA.out];exact HTT.out ea hea Y hY
    clear hte e0 e1
    have HWS:Hid (lineI (itsB T S0 its j) [⟨#[108,101,116,32]⟩,nm,⟨#[58,32]⟩,tb,⟨#[32,61,32]⟩,te]=itsB T S0 its (j+1)):=Hd (HNX.out _ (by unfold wordsI;dsimp only;rw[if_pos rfl];rw[HTB.out,HEA.out]))
    have CL:Hid (∀Y,Below V.heap.size V Y→Calls prog 65 #[.slice (some ⟨Y.heap.size,0,none⟩) 6 6,.pointer (some ⟨xb,0,none⟩)] (Y.alloc (.cells #[.string ⟨#[108,101,116,32]⟩,.string nm,.string ⟨#[58,32]⟩,.string tb,.string ⟨#[32,61,32]⟩,.string te] 9)) fun r Z=>r=.returned (.tuple #[])∧Hid (ItI WB W b xb (.slice o n cap) (itsB T S0 its (j+1)) Z)∧Hid (∀i u,(Y.alloc (.cells #[.string ⟨#[108,101,116,32]⟩,.string nm,.string ⟨#[58,32]⟩,.string tb,.string ⟨#[32,61,32]⟩,.string te] 9)).cell? ⟨wr.heap.size,i,none⟩=some u→Z.cell? ⟨wr.heap.size,i,none⟩=some u)):=Hd fun Y hY=>ItI.line (n:=6) (ws:=[⟨#[108,101,116,32]⟩,nm,⟨#[58,32]⟩,tb,⟨#[32,61,32]⟩,te]) rfl (by decide) HIx.out HVV.out hY HWS.out HMJ.out wr.heap.size HIB.out.1 HIB.out.2
    go_upto_region 8 with (fail)
    rw[←hV]
    clear hV
    go_region_held3 (fun w'=>w'.cell? ⟨wr.heap.size,1,none⟩=some (.string nm)∧w'.cell? ⟨wr.heap.size,2,none⟩=some (.int .i64 ty)∧w'.cell? ⟨wr.heap.size,3,none⟩=some (.int .i64 (ea:Int)))
     ((repeat' apply And.intro) <;> (repeat (first | with_reducible assumption | with_reducible refine drew_cell ?_ | with_reducible refine hN2.out _ _ ?_ | with_reducible refine alloc_cell ?_ | with_reducible refine cell_below hb2.out ?_ | with_reducible refine cell_below hb1.out ?_)))
     (first
      | (go_at_call 41;(with_reducible refine Calls.mono (HTY.out _) ?_);rintro e1 w1 ⟨rfl,hb1⟩;have HB1:Hid (Below V.heap.size V w1):=Hd (below_tr HBD.out hb1.out))
      | (go_at_call 66;(with_reducible refine Calls.mono (HTE.out _ HB1.out) ?_);rintro e2 w2 ⟨rfl,hb2⟩;have HB2:Hid (Below V.heap.size V w2):=Hd (below_tr HB1.out hb2.out))
      | (go_at_call 65;(with_reducible refine Calls.mono (CL.out w2 HB2.out) ?_);rintro e9 w9 ⟨rfl,hN,hN2⟩))
    all_goals (
     go_wp2_with fail
     exact⟨⟨j+1,by omega,by go_num,hN⟩,by simp[litLen];omega⟩)
   by_cases hk2:kd=2
   ·subst hk2
    obtain⟨e0,e1⟩:=mayI_e3 m1 (by rfl)
    obtain⟨ea,rfl⟩:∃ea:Nat,e=(ea:Int):=⟨e.toNat,by dsimp only at e0;omega⟩
    have hea:ea<ne:=by dsimp only at e1;omega
    obtain⟨te,hte⟩:∃te,te=T (ea:Int):=⟨_,rfl⟩
    have HEA:=Hd hte
    have HTE:Hid (∀Y,Below V.heap.size V Y→Calls prog 66 #[.int .i64 (ea:Int),.pointer (some ⟨xb,0,none⟩)] Y fun r Z=>r=.returned (.string te)∧Hid (Below Y.heap.size Y Z)):=Hd fun Y hY=>by rw[HEA.out];exact HTT.out ea hea Y hY
    clear hte e0 e1
    obtain⟨f0,f1⟩:=mayI_f3 m1 (by rfl)
    obtain⟨fa,rfl⟩:∃fa:Nat,f=(fa:Int):=⟨f.toNat,by dsimp only at f0;omega⟩
    have hfa:fa<ne:=by dsimp only at f1;omega
    obtain⟨tf,htf⟩:∃tf,tf=T (fa:Int):=⟨_,rfl⟩
    have HFA:=Hd htf
    have HTF:Hid (∀Y,Below V.heap.size V Y→Calls prog 66 #[.int .i64 (fa:Int),.pointer (some ⟨xb,0,none⟩)] Y fun r Z=>r=.returned (.string tf)∧Hid (Below Y.heap.size Y Z)):=Hd fun Y hY=>by rw[HFA.out];exact HTT.out fa hfa Y hY
    clear htf f0 f1
    have HWS:Hid (lineI (itsB T S0 its j) [⟨#[100,101,114,32]⟩,nm,⟨#[32,61,32]⟩,te,⟨#[32,105,110,105,116,32]⟩,tf]=itsB T S0 its (j+1)):=Hd (HNX.out _ (by unfold wordsI;dsimp only;rw[if_neg (by decide)];rw[if_pos rfl];rw[HEA.out,HFA.out]))
    have CL:Hid (∀Y,Below V.heap.size V Y→Calls prog 65 #[.slice (some ⟨Y.heap.size,0,none⟩) 6 6,.pointer (some ⟨xb,0,none⟩)] (Y.alloc (.cells #[.string ⟨#[100,101,114,32]⟩,.string nm,.string ⟨#[32,61,32]⟩,.string te,.string ⟨#[32,105,110,105,116,32]⟩,.string tf] 9)) fun r Z=>r=.returned (.tuple #[])∧Hid (ItI WB W b xb (.slice o n cap) (itsB T S0 its (j+1)) Z)∧Hid (∀i u,(Y.alloc (.cells #[.string ⟨#[100,101,114,32]⟩,.string nm,.string ⟨#[32,61,32]⟩,.string te,.string ⟨#[32,105,110,105,116,32]⟩,.string tf] 9)).cell? ⟨wr.heap.size,i,none⟩=some u→Z.cell? ⟨wr.heap.size,i,none⟩=some u)):=Hd fun Y hY=>ItI.line (n:=6) (ws:=[⟨#[100,101,114,32]⟩,nm,⟨#[32,61,32]⟩,te,⟨#[32,105,110,105,116,32]⟩,tf]) rfl (by decide) HIx.out HVV.out hY HWS.out HMJ.out wr.heap.size HIB.out.1 HIB.out.2
    go_upto_region 10 with (fail)
    rw[←hV]
    clear hV
    go_region_held3 (fun w'=>w'.cell? ⟨wr.heap.size,1,none⟩=some (.string nm)∧w'.cell? ⟨wr.heap.size,3,none⟩=some (.int .i64 (ea:Int))∧w'.cell? ⟨wr.heap.size,4,none⟩=some (.int .i64 (fa:Int)))
     ((repeat' apply And.intro) <;> (repeat (first | with_reducible assumption | with_reducible refine drew_cell ?_ | with_reducible refine hN2.out _ _ ?_ | with_reducible refine alloc_cell ?_ | with_reducible refine cell_below hb2.out ?_ | with_reducible refine cell_below hb1.out ?_)))
     (first
      | (go_at_call 66;(with_reducible refine Calls.mono (HTE.out _ HBD.out) ?_);rintro e1 w1 ⟨rfl,hb1⟩;have HB1:Hid (Below V.heap.size V w1):=Hd (below_tr HBD.out hb1.out))
      | (go_at_call 66;(with_reducible refine Calls.mono (HTF.out _ HB1.out) ?_);rintro e2 w2 ⟨rfl,hb2⟩;have HB2:Hid (Below V.heap.size V w2):=Hd (below_tr HB1.out hb2.out))
      | (go_at_call 65;(with_reducible refine Calls.mono (CL.out w2 HB2.out) ?_);rintro e9 w9 ⟨rfl,hN,hN2⟩))
    all_goals (
     go_wp2_with fail
     exact⟨⟨j+1,by omega,by go_num,hN⟩,by simp[litLen];omega⟩)
   by_cases hk3:kd=3
   ·subst hk3
    obtain⟨e0,e1⟩:=mayI_e3 m1 (by rfl)
    obtain⟨ea,rfl⟩:∃ea:Nat,e=(ea:Int):=⟨e.toNat,by dsimp only at e0;omega⟩
    have hea:ea<ne:=by dsimp only at e1;omega
    obtain⟨te,hte⟩:∃te,te=T (ea:Int):=⟨_,rfl⟩
    have HEA:=Hd hte
    have HTE:Hid (∀Y,Below V.heap.size V Y→Calls prog 66 #[.int .i64 (ea:Int),.pointer (some ⟨xb,0,none⟩)] Y fun r Z=>r=.returned (.string te)∧Hid (Below Y.heap.size Y Z)):=Hd fun Y hY=>by rw[HEA.out];exact HTT.out ea hea Y hY
    clear hte e0 e1
    obtain⟨f0,f1⟩:=mayI_f3 m1 (by rfl)
    obtain⟨fa,rfl⟩:∃fa:Nat,f=(fa:Int):=⟨f.toNat,by dsimp only at f0;omega⟩
    have hfa:fa<ne:=by dsimp only at f1;omega
    obtain⟨tf,htf⟩:∃tf,tf=T (fa:Int):=⟨_,rfl⟩
    have HFA:=Hd htf
    have HTF:Hid (∀Y,Below V.heap.size V Y→Calls prog 66 #[.int .i64 (fa:Int),.pointer (some ⟨xb,0,none⟩)] Y fun r Z=>r=.returned (.string tf)∧Hid (Below Y.heap.size Y Z)):=Hd fun Y hY=>by rw[HFA.out];exact HTT.out fa hfa Y hY
    clear htf f0 f1
    have HWS:Hid (lineI (itsB T S0 its j) [⟨#[114,101,115,101,116,32]⟩,nm,⟨#[32,111,110,32]⟩,tf,⟨#[32,61,32]⟩,te]=itsB T S0 its (j+1)):=Hd (HNX.out _ (by unfold wordsI;dsimp only;rw[if_neg (by decide)];rw[if_neg (by decide)];rw[if_pos rfl];rw[HFA.out,HEA.out]))
    have CL:Hid (∀Y,Below V.heap.size V Y→Calls prog 65 #[.slice (some ⟨Y.heap.size,0,none⟩) 6 6,.pointer (some ⟨xb,0,none⟩)] (Y.alloc (.cells #[.string ⟨#[114,101,115,101,116,32]⟩,.string nm,.string ⟨#[32,111,110,32]⟩,.string tf,.string ⟨#[32,61,32]⟩,.string te] 9)) fun r Z=>r=.returned (.tuple #[])∧Hid (ItI WB W b xb (.slice o n cap) (itsB T S0 its (j+1)) Z)∧Hid (∀i u,(Y.alloc (.cells #[.string ⟨#[114,101,115,101,116,32]⟩,.string nm,.string ⟨#[32,111,110,32]⟩,.string tf,.string ⟨#[32,61,32]⟩,.string te] 9)).cell? ⟨wr.heap.size,i,none⟩=some u→Z.cell? ⟨wr.heap.size,i,none⟩=some u)):=Hd fun Y hY=>ItI.line (n:=6) (ws:=[⟨#[114,101,115,101,116,32]⟩,nm,⟨#[32,111,110,32]⟩,tf,⟨#[32,61,32]⟩,te]) rfl (by decide) HIx.out HVV.out hY HWS.out HMJ.out wr.heap.size HIB.out.1 HIB.out.2
    go_upto_region 12 with (fail)
    rw[←hV]
    clear hV
    go_region_held3 (fun w'=>w'.cell? ⟨wr.heap.size,1,none⟩=some (.string nm)∧w'.cell? ⟨wr.heap.size,4,none⟩=some (.int .i64 (fa:Int))∧w'.cell? ⟨wr.heap.size,3,none⟩=some (.int .i64 (ea:Int)))
     ((repeat' apply And.intro) <;> (repeat (first | with_reducible assumption | with_reducible refine drew_cell ?_ | with_reducible refine hN2.out _ _ ?_ | with_reducible refine alloc_cell ?_ | with_reducible refine cell_below hb2.out ?_ | with_reducible refine cell_below hb1.out ?_)))
     (first
      | (go_at_call 66;(with_reducible refine Calls.mono (HTF.out _ HBD.out) ?_);rintro e1 w1 ⟨rfl,hb1⟩;have HB1:Hid (Below V.heap.size V w1):=Hd (below_tr HBD.out hb1.out))
      | (go_at_call 66;(with_reducible refine Calls.mono (HTE.out _ HB1.out) ?_);rintro e2 w2 ⟨rfl,hb2⟩;have HB2:Hid (Below V.heap.size V w2):=Hd (below_tr HB1.out hb2.out))
      | (go_at_call 65;(with_reducible refine Calls.mono (CL.out w2 HB2.out) ?_);rintro e9 w9 ⟨rfl,hN,hN2⟩))
    all_goals (
     go_wp2_with fail
     exact⟨⟨j+1,by omega,by go_num,hN⟩,by simp[litLen];omega⟩)
   by_cases hk4:kd=4
   ·subst hk4
    obtain⟨e0,e1⟩:=mayI_e3 m1 (by rfl)
    obtain⟨ea,rfl⟩:∃ea:Nat,e=(ea:Int):=⟨e.toNat,by dsimp only at e0;omega⟩
    have hea:ea<ne:=by dsimp only at e1;omega
    obtain⟨te,hte⟩:∃te,te=T (ea:Int):=⟨_,rfl⟩
    have HEA:=Hd hte
    have HTE:Hid (∀Y,Below V.heap.size V Y→Calls prog 66 #[.int .i64 (ea:Int),.pointer (some ⟨xb,0,none⟩)] Y fun r Z=>r=.returned (.string te)∧Hid (Below Y.heap.size Y Z)):=Hd fun Y hY=>by rw[HEA.out];exact HTT.out ea hea Y hY
    clear hte e0 e1
    have HWS:Hid (lineI (itsB T S0 its j) [⟨#[109,101,109,32]⟩,nm,⟨#[58,32]⟩,tb,⟨#[32,105,110,105,116,32]⟩,te]=itsB T S0 its (j+1)):=Hd (HNX.out _ (by unfold wordsI;dsimp only;rw[if_neg (by decide)];rw[if_neg (by decide)];rw[if_neg (by decide)];rw[if_pos rfl];rw[HTB.out,HEA.out]))
    have CL:Hid (∀Y,Below V.heap.size V Y→Calls prog 65 #[.slice (some ⟨Y.heap.size,0,none⟩) 6 6,.pointer (some ⟨xb,0,none⟩)] (Y.alloc (.cells #[.string ⟨#[109,101,109,32]⟩,.string nm,.string ⟨#[58,32]⟩,.string tb,.string ⟨#[32,105,110,105,116,32]⟩,.string te] 9)) fun r Z=>r=.returned (.tuple #[])∧Hid (ItI WB W b xb (.slice o n cap) (itsB T S0 its (j+1)) Z)∧Hid (∀i u,(Y.alloc (.cells #[.string ⟨#[109,101,109,32]⟩,.string nm,.string ⟨#[58,32]⟩,.string tb,.string ⟨#[32,105,110,105,116,32]⟩,.string te] 9)).cell? ⟨wr.heap.size,i,none⟩=some u→Z.cell? ⟨wr.heap.size,i,none⟩=some u)):=Hd fun Y hY=>ItI.line (n:=6) (ws:=[⟨#[109,101,109,32]⟩,nm,⟨#[58,32]⟩,tb,⟨#[32,105,110,105,116,32]⟩,te]) rfl (by decide) HIx.out HVV.out hY HWS.out HMJ.out wr.heap.size HIB.out.1 HIB.out.2
    go_upto_region 14 with (fail)
    rw[←hV]
    clear hV
    go_region_held3 (fun w'=>w'.cell? ⟨wr.heap.size,1,none⟩=some (.string nm)∧w'.cell? ⟨wr.heap.size,2,none⟩=some (.int .i64 ty)∧w'.cell? ⟨wr.heap.size,3,none⟩=some (.int .i64 (ea:Int)))
     ((repeat' apply And.intro) <;> (repeat (first | with_reducible assumption | with_reducible refine drew_cell ?_ | with_reducible refine hN2.out _ _ ?_ | with_reducible refine alloc_cell ?_ | with_reducible refine cell_below hb2.out ?_ | with_reducible refine cell_below hb1.out ?_)))
     (first
      | (go_at_call 41;(with_reducible refine Calls.mono (HTY.out _) ?_);rintro e1 w1 ⟨rfl,hb1⟩;have HB1:Hid (Below V.heap.size V w1):=Hd (below_tr HBD.out hb1.out))
      | (go_at_call 66;(with_reducible refine Calls.mono (HTE.out _ HB1.out) ?_);rintro e2 w2 ⟨rfl,hb2⟩;have HB2:Hid (Below V.heap.size V w2):=Hd (below_tr HB1.out hb2.out))
      | (go_at_call 65;(with_reducible refine Calls.mono (CL.out w2 HB2.out) ?_);rintro e9 w9 ⟨rfl,hN,hN2⟩))
    all_goals (
     go_wp2_with fail
     exact⟨⟨j+1,by omega,by go_num,hN⟩,by simp[litLen];omega⟩)
   by_cases hk5:kd=5
   ·subst hk5
    obtain⟨e0,e1⟩:=mayI_e3 m1 (by rfl)
    obtain⟨ea,rfl⟩:∃ea:Nat,e=(ea:Int):=⟨e.toNat,by dsimp only at e0;omega⟩
    have hea:ea<ne:=by dsimp only at e1;omega
    obtain⟨te,hte⟩:∃te,te=T (ea:Int):=⟨_,rfl⟩
    have HEA:=Hd hte
    have HTE:Hid (∀Y,Below V.heap.size V Y→Calls prog 66 #[.int .i64 (ea:Int),.pointer (some ⟨xb,0,none⟩)] Y fun r Z=>r=.returned (.string te)∧Hid (Below Y.heap.size Y Z)):=Hd fun Y hY=>by rw[HEA.out];exact HTT.out ea hea Y hY
    clear hte e0 e1
    obtain⟨f0,f1⟩:=mayI_f3 m1 (by rfl)
    obtain⟨fa,rfl⟩:∃fa:Nat,f=(fa:Int):=⟨f.toNat,by dsimp only at f0;omega⟩
    have hfa:fa<ne:=by dsimp only at f1;omega
    obtain⟨tf,htf⟩:∃tf,tf=T (fa:Int):=⟨_,rfl⟩
    have HFA:=Hd htf
    have HTF:Hid (∀Y,Below V.heap.size V Y→Calls prog 66 #[.int .i64 (fa:Int),.pointer (some ⟨xb,0,none⟩)] Y fun r Z=>r=.returned (.string tf)∧Hid (Below Y.heap.size Y Z)):=Hd fun Y hY=>by rw[HFA.out];exact HTT.out fa hfa Y hY
    clear htf f0 f1
    have HWS:Hid (lineI (itsB T S0 its j) [⟨#[111,110,32]⟩,tf,⟨#[32,115,101,116,32]⟩,nm,⟨#[32,61,32]⟩,te]=itsB T S0 its (j+1)):=Hd (HNX.out _ (by unfold wordsI;dsimp only;rw[if_neg (by decide)];rw[if_neg (by decide)];rw[if_neg (by decide)];rw[if_neg (by decide)];rw[if_pos rfl];rw[HFA.out,HEA.out]))
    have CL:Hid (∀Y,Below V.heap.size V Y→Calls prog 65 #[.slice (some ⟨Y.heap.size,0,none⟩) 6 6,.pointer (some ⟨xb,0,none⟩)] (Y.alloc (.cells #[.string ⟨#[111,110,32]⟩,.string tf,.string ⟨#[32,115,101,116,32]⟩,.string nm,.string ⟨#[32,61,32]⟩,.string te] 9)) fun r Z=>r=.returned (.tuple #[])∧Hid (ItI WB W b xb (.slice o n cap) (itsB T S0 its (j+1)) Z)∧Hid (∀i u,(Y.alloc (.cells #[.string ⟨#[111,110,32]⟩,.string tf,.string ⟨#[32,115,101,116,32]⟩,.string nm,.string ⟨#[32,61,32]⟩,.string te] 9)).cell? ⟨wr.heap.size,i,none⟩=some u→Z.cell? ⟨wr.heap.size,i,none⟩=some u)):=Hd fun Y hY=>ItI.line (n:=6) (ws:=[⟨#[111,110,32]⟩,tf,⟨#[32,115,101,116,32]⟩,nm,⟨#[32,61,32]⟩,te]) rfl (by decide) HIx.out HVV.out hY HWS.out HMJ.out wr.heap.size HIB.out.1 HIB.out.2
    go_upto_region 16 with (fail)
    rw[←hV]
    clear hV
    go_region_held3 (fun w'=>w'.cell? ⟨wr.heap.size,4,none⟩=some (.int .i64 (fa:Int))∧w'.cell? ⟨wr.heap.size,1,none⟩=some (.string nm)∧w'.cell? ⟨wr.heap.size,3,none⟩=some (.int .i64 (ea:Int)))
     ((repeat' apply And.intro) <;> (repeat (first | with_reducible assumption | with_reducible refine drew_cell ?_ | with_reducible refine hN2.out _ _ ?_ | with_reducible refine alloc_cell ?_ | with_reducible refine cell_below hb2.out ?_ | with_reducible refine cell_below hb1.out ?_)))
     (first
      | (go_at_call 66;(with_reducible refine Calls.mono (HTF.out _ HBD.out) ?_);rintro e1 w1 ⟨rfl,hb1⟩;have HB1:Hid (Below V.heap.size V w1):=Hd (below_tr HBD.out hb1.out))
      | (go_at_call 66;(with_reducible refine Calls.mono (HTE.out _ HB1.out) ?_);rintro e2 w2 ⟨rfl,hb2⟩;have HB2:Hid (Below V.heap.size V w2):=Hd (below_tr HB1.out hb2.out))
      | (go_at_call 65;(with_reducible refine Calls.mono (CL.out w2 HB2.out) ?_);rintro e9 w9 ⟨rfl,hN,hN2⟩))
    all_goals (
     go_wp2_with fail
     exact⟨⟨j+1,by omega,by go_num,hN⟩,by simp[litLen];omega⟩)
   by_cases hk6:kd=6
   ·subst hk6
    obtain⟨sj,hsj⟩:∃sj,sj=statesB ⟨#[]⟩ ss ss.length:=⟨_,rfl⟩
    have HSJ:=Hd hsj
    have HJN:Hid (∀Y,Below V.heap.size V Y→Calls prog 67 #[.slice os ns cs,.string ⟨#[44,32]⟩] Y fun r Z=>r=.returned (.string sj)∧Hid (Below Y.heap.size Y Z)):=Hd fun Y hY=>by
     rw[HSJ.out]
     exact join_any ss ns os cs sb sf HSS.out.1 HSS.out.2.1 HSS.out.2.2.2 hst wr Y HSS.out.2.2.1 (HVV.out.trans (hY.mono HVV.out.size)) (by
      have h1:=HMJ.out
      rw[←HNX.out _ rfl] at h1
      have h2:(statesB ⟨#[]⟩ ss ss.length).size≤(lineI (itsB T S0 its j) (wordsI T ⟨6,nm,ty,e,f,ss,st,nx,pos⟩)).size:=lineI_word _ (by unfold wordsI;dsimp only;rw[if_neg (by decide),if_neg (by decide),if_neg (by decide),if_neg (by decide),if_neg (by decide),if_pos rfl];simp)
      omega)
    clear hsj
    have HWS:Hid (lineI (itsB T S0 its j) [⟨#[109,111,100,101,32]⟩,nm,⟨#[32,123]⟩,sj,⟨#[125]⟩]=itsB T S0 its (j+1)):=Hd (HNX.out _ (by unfold wordsI;dsimp only;rw[if_neg (by decide)];rw[if_neg (by decide)];rw[if_neg (by decide)];rw[if_neg (by decide)];rw[if_neg (by decide)];rw[if_pos rfl];rw[HSJ.out]))
    have CL:Hid (∀Y,Below V.heap.size V Y→Calls prog 65 #[.slice (some ⟨Y.heap.size,0,none⟩) 5 5,.pointer (some ⟨xb,0,none⟩)] (Y.alloc (.cells #[.string ⟨#[109,111,100,101,32]⟩,.string nm,.string ⟨#[32,123]⟩,.string sj,.string ⟨#[125]⟩] 9)) fun r Z=>r=.returned (.tuple #[])∧Hid (ItI WB W b xb (.slice o n cap) (itsB T S0 its (j+1)) Z)∧Hid (∀i u,(Y.alloc (.cells #[.string ⟨#[109,111,100,101,32]⟩,.string nm,.string ⟨#[32,123]⟩,.string sj,.string ⟨#[125]⟩] 9)).cell? ⟨wr.heap.size,i,none⟩=some u→Z.cell? ⟨wr.heap.size,i,none⟩=some u)):=Hd fun Y hY=>ItI.line (n:=5) (ws:=[⟨#[109,111,100,101,32]⟩,nm,⟨#[32,123]⟩,sj,⟨#[125]⟩]) rfl (by decide) HIx.out HVV.out hY HWS.out HMJ.out wr.heap.size HIB.out.1 HIB.out.2
    go_upto_region 18 with (fail)
    rw[←hV]
    clear hV
    go_region_held3 (fun w'=>w'.cell? ⟨wr.heap.size,1,none⟩=some (.string nm)∧w'.cell? ⟨wr.heap.size,5,none⟩=some (.slice os ns cs))
     ((repeat' apply And.intro) <;> (repeat (first | with_reducible assumption | with_reducible refine drew_cell ?_ | with_reducible refine hN2.out _ _ ?_ | with_reducible refine alloc_cell ?_ | with_reducible refine cell_below hb1.out ?_)))
     (first
      | (go_at_call 67;(with_reducible refine Calls.mono (HJN.out _ HBD.out) ?_);rintro e1 w1 ⟨rfl,hb1⟩;have HB1:Hid (Below V.heap.size V w1):=Hd (below_tr HBD.out hb1.out))
      | (go_at_call 65;(with_reducible refine Calls.mono (CL.out w1 HB1.out) ?_);rintro e9 w9 ⟨rfl,hN,hN2⟩))
    all_goals (
     go_wp2_with fail
     exact⟨⟨j+1,by omega,by go_num,hN⟩,by simp[litLen];omega⟩)
   by_cases hk7:kd=7
   ·subst hk7
    obtain⟨f0,f1⟩:=mayI_f3 m1 (by rfl)
    obtain⟨fa,rfl⟩:∃fa:Nat,f=(fa:Int):=⟨f.toNat,by dsimp only at f0;omega⟩
    have hfa:fa<ne:=by dsimp only at f1;omega
    obtain⟨tf,htf⟩:∃tf,tf=T (fa:Int):=⟨_,rfl⟩
    have HFA:=Hd htf
    have HTF:Hid (∀Y,Below V.heap.size V Y→Calls prog 66 #[.int .i64 (fa:Int),.pointer (some ⟨xb,0,none⟩)] Y fun r Z=>r=.returned (.string tf)∧Hid (Below Y.heap.size Y Z)):=Hd fun Y hY=>by rw[HFA.out];exact HTT.out fa hfa Y hY
    clear htf f0 f1
    have HWS:Hid (lineI (itsB T S0 its j) [⟨#[102,114,111,109,32]⟩,nm,⟨#[46]⟩,st,⟨#[32,111,110,32]⟩,tf,⟨#[32,103,111,116,111,32]⟩,nx]=itsB T S0 its (j+1)):=Hd (HNX.out _ (by unfold wordsI;dsimp only;rw[if_neg (by decide)];rw[if_neg (by decide)];rw[if_neg (by decide)];rw[if_neg (by decide)];rw[if_neg (by decide)];rw[if_neg (by decide)];rw[if_pos rfl];rw[HFA.out]))
    have CL:Hid (∀Y,Below V.heap.size V Y→Calls prog 65 #[.slice (some ⟨Y.heap.size,0,none⟩) 8 8,.pointer (some ⟨xb,0,none⟩)] (Y.alloc (.cells #[.string ⟨#[102,114,111,109,32]⟩,.string nm,.string ⟨#[46]⟩,.string st,.string ⟨#[32,111,110,32]⟩,.string tf,.string ⟨#[32,103,111,116,111,32]⟩,.string nx] 9)) fun r Z=>r=.returned (.tuple #[])∧Hid (ItI WB W b xb (.slice o n cap) (itsB T S0 its (j+1)) Z)∧Hid (∀i u,(Y.alloc (.cells #[.string ⟨#[102,114,111,109,32]⟩,.string nm,.string ⟨#[46]⟩,.string st,.string ⟨#[32,111,110,32]⟩,.string tf,.string ⟨#[32,103,111,116,111,32]⟩,.string nx] 9)).cell? ⟨wr.heap.size,i,none⟩=some u→Z.cell? ⟨wr.heap.size,i,none⟩=some u)):=Hd fun Y hY=>ItI.line (n:=8) (ws:=[⟨#[102,114,111,109,32]⟩,nm,⟨#[46]⟩,st,⟨#[32,111,110,32]⟩,tf,⟨#[32,103,111,116,111,32]⟩,nx]) rfl (by decide) HIx.out HVV.out hY HWS.out HMJ.out wr.heap.size HIB.out.1 HIB.out.2
    go_upto_region 20 with (fail)
    rw[←hV]
    clear hV
    go_region_held3 (fun w'=>w'.cell? ⟨wr.heap.size,1,none⟩=some (.string nm)∧w'.cell? ⟨wr.heap.size,6,none⟩=some (.string st)∧w'.cell? ⟨wr.heap.size,4,none⟩=some (.int .i64 (fa:Int))∧w'.cell? ⟨wr.heap.size,7,none⟩=some (.string nx))
     ((repeat' apply And.intro) <;> (repeat (first | with_reducible assumption | with_reducible refine drew_cell ?_ | with_reducible refine hN2.out _ _ ?_ | with_reducible refine alloc_cell ?_ | with_reducible refine cell_below hb1.out ?_)))
     (first
      | (go_at_call 66;(with_reducible refine Calls.mono (HTF.out _ HBD.out) ?_);rintro e1 w1 ⟨rfl,hb1⟩;have HB1:Hid (Below V.heap.size V w1):=Hd (below_tr HBD.out hb1.out))
      | (go_at_call 65;(with_reducible refine Calls.mono (CL.out w1 HB1.out) ?_);rintro e9 w9 ⟨rfl,hN,hN2⟩))
    all_goals (
     go_wp2_with fail
     exact⟨⟨j+1,by omega,by go_num,hN⟩,by simp[litLen];omega⟩)
   ·obtain rfl:kd=8:=by omega
    have HWS:Hid (lineI (itsB T S0 its j) [⟨#[111,117,116,32]⟩,nm]=itsB T S0 its (j+1)):=Hd (HNX.out _ (by unfold wordsI;dsimp only;rw[if_neg (by decide)];rw[if_neg (by decide)];rw[if_neg (by decide)];rw[if_neg (by decide)];rw[if_neg (by decide)];rw[if_neg (by decide)];rw[if_neg (by decide)]))
    have CL:Hid (∀Y,Below V.heap.size V Y→Calls prog 65 #[.slice (some ⟨Y.heap.size,0,none⟩) 2 2,.pointer (some ⟨xb,0,none⟩)] (Y.alloc (.cells #[.string ⟨#[111,117,116,32]⟩,.string nm] 9)) fun r Z=>r=.returned (.tuple #[])∧Hid (ItI WB W b xb (.slice o n cap) (itsB T S0 its (j+1)) Z)∧Hid (∀i u,(Y.alloc (.cells #[.string ⟨#[111,117,116,32]⟩,.string nm] 9)).cell? ⟨wr.heap.size,i,none⟩=some u→Z.cell? ⟨wr.heap.size,i,none⟩=some u)):=Hd fun Y hY=>ItI.line (n:=2) (ws:=[⟨#[111,117,116,32]⟩,nm]) rfl (by decide) HIx.out HVV.out hY HWS.out HMJ.out wr.heap.size HIB.out.1 HIB.out.2
    go_upto_region 22 with (fail)
    rw[←hV]
    clear hV
    go_wp2_with fail
    (with_reducible refine(CL.out V (qB _ _)).mono ?_)
    rintro r w1 ⟨rfl,hN,_⟩
    dsimp only
    go_wp2_with fail
    exact⟨⟨j+1,by omega,by go_num,hN⟩,by simp[litLen];omega⟩
  ·have q1:decide ((j:Int)<(k:Int))=false:=qF (by omega)
   obtain rfl:j=k:=by omega
   go_wp2_with fail
   go_end0
   obtain⟨h1,h2,h3,h4,h5⟩:=hI.out
   exact⟨rfl,Hd ⟨h1,h4,h5⟩⟩
end Go.Proofs.YthpgfahlccljnaaGreatDoor
